import PyProof.Rows.All
import Wide.All
import OpenK.AllK
import Wide.FinOn
import Lean
import KE.KRevIter
import KE.KPairComp
import KE.KIntText
import PyProof.NsDelKeeps
import PyProof.NeKinds
import KE.KNestM
import KE.KLam
import OpenK.KTop
import PyProof.FactsAll.dict_1
import PyProof.FactsAll.subtypes_4
import PyProof.Rows.SetFrom
import PyProof.SetNew
import PyProof.SetRoads
import PyProof.Rows.SortRuns
import PyProof.Rows.SortIns
import PyProof.Rows.SortShell
import PyProof.Rows.SortWalk
import KE.KSortTup
import KE.KRevIter
import PyProof.SeqI3
import PyProof.SliceList
import PyProof.ListIndex
import PyProof.SeqWrite
import PyProof.EqAt
import PyProof.EqKinds
import PyProof.TupleCall
import PySem.Challenge.RW_halvedpictures_k33_shares
set_option Elab.async false
set_option linter.all false
set_option maxRecDepth 100000
theorem wEX(h:True:=by rfl):True:=h
def wE:=wEX._auto_1
theorem wPX(h:True:=by decide):True:=h
def wP:=wPX._auto_1
theorem wTX(h:True:=by intro _;rfl):True:=h
def wT:=wTX._auto_1
abbrev Fg0:=PySem.W.Frag
abbrev Pn:=List (PySem.Addr×PySem.Obj)
abbrev VS:=PySem.Value->PySem.Shared->Prop
abbrev On:=List (Option Nat)
abbrev SV:=PySem.Str->Option PySem.Value
abbrev LL:=List (List Int)
abbrev Li:=List Int
abbrev La0:=List PySem.Addr
abbrev Lv:=List PySem.Value
abbrev Ls:=List PySem.Str
theorem lM0{α β:Type}{as:List α}(f:α->β):(as.map f).length=as.length:=List.length_map f
theorem gE0{α:Type}{l:List α}{i:Nat}(h:i<l.length):l[i]?=some l[i]:=List.getElem?_eq_getElem h
theorem gS0{α:Type}{l:List α}{i:Nat}{a:α}(h:l[i]?=some a):∃h:i<l.length,l[i]=a:=List.getElem?_eq_some_iff.mp h
set_option bootstrap.genMatcherCode false
set_option compiler.extract_closed false
set_option genSizeOf false
namespace L2
open PySem PySem.Spec PyProof.Rows
abbrev Key:=Sum Int Str
noncomputable def D4:Key->Value->Bool
 | .inl k,v=>Value.isInt k v
 | .inr x,v=>Value.isStrOf x v
noncomputable def Kj (w:World):Key->Int
 | .inl k=>hashInt k
 | .inr x=>hashStr w x
theorem bW:∀ {k:Key} {v:Value},D4 k v=true->(∃ i t,k=Sum.inl i/\v=Value.int i t)\/(∃ x t,k=Sum.inr x/\v=Value.str x t)
 | .inl i,v,h=>by
  obtain⟨t,e⟩:=Value.isInt_shape (k:=i) (v:=v) h;exact .inl ⟨i,t,rfl,e⟩
 | .inr x,v,h=>by
  obtain⟨t,e⟩:=Value.isStrOf_shape (x:=x) (v:=v) h;exact .inr ⟨x,t,rfl,e⟩
theorem Gg (a b:Int):decide ((Sum.inl a:Key)=Sum.inl b)=(a == b):=by
 by_cases e:a=b
 ·subst e;simp
 ·have h:¬ (Sum.inl a:Key)=Sum.inl b:=fun q=>e (Sum.inl.inj q);rw[decide_eq_false h];exact(beq_eq_false_iff_ne.mpr e).symm
theorem Gd (a b:Str):decide ((Sum.inr a:Key)=Sum.inr b)=decide (a=b):=by
 by_cases e:a=b
 ·subst e;simp
 ·have h:¬ (Sum.inr a:Key)=Sum.inr b:=fun q=>e (Sum.inr.inj q);rw[decide_eq_false h,decide_eq_false e]
theorem Gf (a:Int) (b:Str):decide ((Sum.inl a:Key)=Sum.inr b)=false:=decide_eq_false (fun q=>nomatch q)
theorem Ge (a:Str) (b:Int):decide ((Sum.inr a:Key)=Sum.inl b)=false:=decide_eq_false (fun q=>nomatch q)
noncomputable def wW (prog:Program) (w:World):PySem.KeyKind prog w Key where
 is:=D4
 hash:=Kj w
 inj:=fun v a b ha hb=>by
  rcases bW ha with ⟨i,t,rfl,rfl⟩ | ⟨x,t,rfl,rfl⟩
  ·rcases bW hb with ⟨j,u,rfl,e⟩ | ⟨y,u,rfl,e⟩
   ·injection e with e1 _;rw[e1]
   ·exact nomatch e
  ·rcases bW hb with ⟨j,u,rfl,e⟩ | ⟨y,u,rfl,e⟩
   ·exact nomatch e
   ·injection e with e1 _;rw[e1]
 byValue:=fun k v h=>by
  rcases bW h with ⟨i,t,rfl,rfl⟩ | ⟨x,t,rfl,rfl⟩ <;> rfl
 pyHash:=fun hv h=>by
  rcases bW hv with ⟨i,t,rfl,rfl⟩ | ⟨x,t,rfl,rfl⟩
  ·exact wpAny_pyHash_int h
  ·exact wpAny_pyHash_str h
 eqBool:=fun hu hv h=>by
  rcases bW hu with ⟨i,t,rfl,rfl⟩ | ⟨x,t,rfl,rfl⟩
  ·rcases bW hv with ⟨j,u,rfl,rfl⟩ | ⟨y,u,rfl,rfl⟩
   ·rw[Gg] at h;exact wpAny_eqBool_int h
   ·rw[Gf] at h;exact SeqAt.EqAt.int_str i t y u _ _ _ _ h
  ·rcases bW hv with ⟨j,u,rfl,rfl⟩ | ⟨y,u,rfl,rfl⟩
   ·rw[Ge] at h;exact SeqAt.EqAt.str_int x t j u _ _ _ _ h
   ·rw[Gd] at h;exact wpAny_eqBool_str h
 «strs»:=fun k x t v h=>by
  rcases bW h with ⟨i,u,rfl,e⟩ | ⟨y,u,rfl,e⟩
  ·exact nomatch e
  ·injection e with e1 _
   subst e1;cases v <;> rfl
inductive V where
 | non | bl (b:Bool) | int (i:Int) | str (x:Str) | byt (b:Array UInt8) | flt (b:UInt64) | ref (a:Addr) | ty (n:String)
noncomputable def RelV:V->Value->Prop
 | .non,u=>u=Value.none
 | .bl b,u=>u=Value.bool b
 | .int i,u=>∃ t,u=Value.int i t
 | .str x,u=>∃ t,u=Value.str x t
 | .byt b,u=>∃ t,u=Value.bytes b t
 | .flt b,u=>∃ t,u=Value.float b t
 | .ref a,u=>u=Value.ref a
 | .ty n,u=>u=Value.type n
noncomputable abbrev Vals:List V->Lv->Prop:=Paired RelV
theorem Vals.length {xs:List V} {us:Lv} (r:Vals xs us):xs.length=us.length:=Paired.length r
theorem Vals.get:∀ {xs:List V} {us:Lv} {i:Nat} {x:V},Vals xs us->xs[i]?=some x->∃ u,us[i]?=some u/\RelV x u
 | _,_,_,_,.nil,e=>by simp at e
 | _,_,0,_,.cons r _,e=>by simp at e;subst e;exact⟨_,rfl,r⟩
 | _,_,i + 1,x,.cons _ t,e=>by
  obtain⟨u,h1,h2⟩:=Vals.get (i:=i) (x:=x) t (by simpa using e);exact⟨u,by simpa using h1,h2⟩
theorem Vals.set {x:V} {u:Value} (r:RelV x u):∀ {xs:List V} {us:Lv} (i:Nat),Vals xs us->Vals (xs.set i x) (us.set i u)
 | _,_,_,.nil=>.nil
 | _,_,0,.cons _ t=>.cons r t
 | _,_,i + 1,.cons q t=>.cons q (Vals.set r i t)
theorem Vals.append:∀ {xs ys:List V} {us ws:Lv},Vals xs us->Vals ys ws->Vals (xs++ys) (us++ws)
 | _,_,_,_,.nil,s=>s
 | _,_,_,_,.cons r t,s=>.cons r (Vals.append t s)
theorem Vals.take:∀ {xs:List V} {us:Lv} (n:Nat),Vals xs us->Vals (xs.take n) (us.take n)
 | _,_,0,_=>.nil
 | _,_,_ + 1,.nil=>.nil
 | _,_,n + 1,.cons r t=>.cons r (Vals.take n t)
theorem Vals.drop:∀ {xs:List V} {us:Lv} (n:Nat),Vals xs us->Vals (xs.drop n) (us.drop n)
 | _,_,0,r=>r
 | _,_,_ + 1,.nil=>.nil
 | _,_,n + 1,.cons _ t=>Vals.drop n t
theorem Vals.none_of:∀ {xs:List V} {us:Lv} {i:Nat},Vals xs us->xs[i]?=none->us[i]?=none:=fun {xs us i} r e=>by
 have h1:=r.length;have h2:xs.length<=i:=List.getElem?_eq_none_iff.mp e;exact List.getElem?_eq_none_iff.mpr (by lia)
noncomputable def o_:Option V->Option Value->Prop
 | some v,some u=>RelV v u
 | none,none=>True
 | _,_=>False
noncomputable def KV {κ:Type}:List (κ×V)->List (κ×Value)->Prop:=Paired fun (p:κ×V) (q:κ×Value)=>p.1=q.1/\RelV p.2 q.2
noncomputable def kV:Key->V
 | .inl i=>.int i
 | .inr x=>.str x
set_option genInjectivity false in
inductive HO where
 | lst (xs:List V)
 | tup (xs:List V)
 | dK (kvs:List (Key×V)) | dT (kvs:List (List Key×V))
 | set (S:Int->Bool) (n:Nat)
 | ins (C dx:Addr) (fs:List (Str×V))
 | own (x:Addr)
 | xd (fs:List (Str×V))
 | met (f x:Addr)
 | rng (lo hi:Int)
 | frz (o:Obj) (u:HO)
 | tbl (ps:Array Value)
 | ext (φ:Heap->Prop)
 | cod (c:Addr) (q:Str)
abbrev Hp:=Addr->Option HO
def uI (H:Hp) (v:Value) (q:Str):Prop:=∃ c oc vs t φ,v=.ref c/\H c=some (.frz oc (.ext φ))/\oc.data=.fields vs/\vs[1]?=some (.str q t)
theorem uI.mono {H H':Hp} {v:Value} {q:Str} (x:uI H v q) (hf:∀ b o φ,H b=some (.frz o (.ext φ))->H' b=some (.frz o (.ext φ))):uI H' v q:=
 let ⟨c,oc,vs,t,φ,a,b,d⟩:=x;⟨c,oc,vs,t,φ,a,hf _ _ _ b,d⟩
noncomputable def upd (H:Hp) (a:Addr) (o:HO):Hp:=fun b=>if b=a then some o else H b
theorem aA {H:Hp} {a:Addr} {o:HO}:upd H a o a=some o:=by unfold upd;rw[if_pos rfl]
theorem aj {H:Hp} {a b:Addr} {o:HO} (h:b≠a):upd H a o b=H b:=by unfold upd;rw[if_neg h]
theorem aU {H:Hp} {a b:Addr} {o:HO} (h:H a=some o) (h':H b=none):a≠b:=by
 intro e;subst e;rw[h] at h';cases h'
section
variable (P:Program) (w:World)
noncomputable def cU (H:Hp) (h:Heap) (a:Addr):HO->Prop
 | .lst xs=>xs.length<=sizeLine/\∃ (its:Lv) (n:Nat),Vals xs its/\h.get? a=some { cls:=.type "list",data:=.seq its.toArray n }
 | .tup xs=>xs.length<=sizeLine/\∃ its:Lv,Vals xs its/\IsTup h a its.toArray
 | .dK kvs=>kvs.length<=sizeLine/\(a == sysModules)=false/\∃ vs,KV kvs vs/\h.DictOf (wW P w) a vs
 | .dT kvs=>kvs.length<=sizeLine/\(a == sysModules)=false/\∃ xs:List (List Key×Addr×Value),
   Paired (fun (p:List Key×V) (q:List Key×Addr×Value)=>p.1=q.1/\H q.2.1=some (.tup (p.1.map kV))/\RelV p.2 q.2.2) kvs xs/\
   ∃ o es ep,h.get? a=some o/\o.ExactDict/\o.data=.dict es ep/\es.toList=xs.map (entryOfKey (tupleKind (wW P w)))/\(xs.map (·.1)).Nodup
 | .set S n=>h.SetOf (intKind P w) a S n
 | .ins C dx fs=>H dx=some (.own a)/\fs.length<=1000/\dx≠a/\h.get? a=some (PySem.W.instObj C dx)/\
   ∃ mA,h.Ns1 dx mA/\(∀ f,o_ (fs.lookup f) (mA f))/\PySem.Within mA (fs.map (·.1))
 | .own _=>∃ o,h.get? a=some o
 | .xd fs=>∃ mA,h.Ns1 a mA/\∀ f,o_ (fs.lookup f) (mA f)
 | .rng lo hi=>∃ t u v,h.get? a=some { cls:=.type "range",data:=.fields #[.int lo t,.int hi u,.int 1 v] }
 | .frz o u=>h.get? a=some o/\cU H h a u
 | .tbl ps=>∃ q t qs,ps[0]?=some (Value.str q t)/\h.get? a=some { cls:=.none,data:=.fields qs }/\TriplesOk qs.toList/\∀ pos v,codeAmong pos qs.toList=some v->uI H v q
 | .cod c q=>(∃ o,h.get? a=some o)/\uI H (.ref c) q
 | .met f x=>h.get? a=some (PySem.W.methodObj (.ref f) (.ref x))
 | .ext φ=>φ h/\(∃ o,h.get? a=some o)/\∀ h1 h2:Heap,φ h1->(∀ o,h1.get? a=some o->h2.get? a=some o)->φ h2
def HOk (H:Hp) (h:Heap):Prop:=∀ a o,H a=some o->cU P w H h a o
end
section
variable {P:Program} {w:World} {H H':Hp} {h h':Heap} {a:Addr} {o:HO}
theorem cU.lt (x:cU P w H h a o):a < h.objs.size:=by
 cases o with
 | lst xs=>obtain⟨_,_,_,_,e⟩:=x;exact Heap.lt_size e
 | tup xs=>obtain⟨_,_,_,p⟩:=x;exact p.lt
 | dK kvs=>obtain⟨_,_,_,_,o,_,_,e,_⟩:=x;exact Heap.lt_size e
 | dT kvs=>obtain⟨_,_,_,_,o,_,_,e,_⟩:=x;exact Heap.lt_size e
 | set S n=>obtain⟨o,_,_,_,e,_⟩:=x;exact Heap.lt_size e
 | ins C dx fs=>obtain⟨_,_,_,e,_⟩:=x;exact Heap.lt_size e
 | own y=>obtain⟨_,e⟩:=x;exact Heap.lt_size e
 | xd fs=>obtain⟨_,⟨_,_,_,e,_⟩,_⟩:=x;exact Heap.lt_size e
 | rng lo hi=>obtain⟨_,_,_,e⟩:=x;exact Heap.lt_size e
 | frz ob u=>obtain⟨e,_⟩:=x;exact Heap.lt_size e
 | tbl ps=>obtain⟨_,_,_,_,e,_⟩:=x;exact Heap.lt_size e
 | cod c q=>obtain⟨⟨_,e⟩,_⟩:=x;exact Heap.lt_size e
 | met f y=>exact Heap.lt_size (show h.get? a=some _ from x)
 | ext φ=>obtain⟨_,⟨_,e⟩,_⟩:=x;exact Heap.lt_size e
theorem Paired.Ij {α β:Type} {F G:α->β->Prop}:∀ {l₁:List α} {l₂:List β},Paired F l₁ l₂->(∀ a b,F a b->G a b)->Paired G l₁ l₂
 | _,_,.nil,_=>.nil
 | _,_,.cons r t,f=>.cons (f _ _ r) (Paired.Ij t f)
theorem cU.sP (x:cU P w H h a o) (k:∀ b u,(b=a\/H b=some (.own a))->h.get? b=some u->h'.get? b=some u)
  (ho:∀ b,H b=some (.own a)->H' b=some (.own a)) (ht:∀ b xs,H b=some (.tup xs)->H' b=some (.tup xs)) (hf:∀ b o φ,H b=some (.frz o (.ext φ))->H' b=some (.frz o (.ext φ)):=by first | exact fun _ _ _ q=>q | (intro c o u q;rw[_root_.L2.aj (_root_.L2.aU q (by assumption))];exact q)):cU P w H' h' a o:=by
 induction o with
 | lst xs=>obtain⟨z,its,n,r,e⟩:=x;exact⟨z,its,n,r,k _ _ (.inl rfl) e⟩
 | tup xs=>obtain⟨z,its,r,ob,e,c⟩:=x;exact⟨z,its,r,ob,k _ _ (.inl rfl) e,c⟩
 | dK kvs=>obtain⟨z,y,vs,r,ob,es,ep,e,c⟩:=x;exact⟨z,y,vs,r,ob,es,ep,k _ _ (.inl rfl) e,c⟩
 | dT kvs=>
  obtain⟨z,y,xs,r,ob,es,ep,e,c⟩:=x;exact⟨z,y,xs,Paired.Ij r fun p q z=>⟨z.1,ht _ _ z.2.1,z.2.2⟩,ob,es,ep,k _ _ (.inl rfl) e,c⟩
 | set S n=>obtain⟨ob,es,ep,t,e,c⟩:=x;exact⟨ob,es,ep,t,k _ _ (.inl rfl) e,c⟩
 | ins C dx fs=>
  obtain⟨d,z,ne,e,mA,⟨od,es,ep,e2,c⟩,r⟩:=x;exact⟨ho _ d,z,ne,k _ _ (.inl rfl) e,mA,⟨od,es,ep,k _ _ (.inr d) e2,c⟩,r⟩
 | own y=>obtain⟨ob,e⟩:=x;exact⟨ob,k _ _ (.inl rfl) e⟩
 | xd fs=>obtain⟨mA,⟨od,es,ep,e,c⟩,r⟩:=x;exact⟨mA,⟨od,es,ep,k _ _ (.inl rfl) e,c⟩,r⟩
 | rng lo hi=>obtain⟨t,u,v,e⟩:=x;exact⟨t,u,v,k _ _ (.inl rfl) e⟩
 | frz ob u ih=>obtain⟨e,q⟩:=x;exact⟨k _ _ (.inl rfl) e,ih q⟩
 | tbl ps=>obtain⟨q,t,qs,e1,e2,e3,e4⟩:=x;exact⟨q,t,qs,e1,k a _ (.inl rfl) e2,e3,fun p v r=>(e4 p v r).mono hf⟩
 | cod c q=>obtain⟨⟨u,e⟩,y⟩:=x;exact⟨⟨u,k a _ (.inl rfl) e⟩,y.mono hf⟩
 | met f y=>
  have e:h.get? a=some (PySem.W.methodObj (.ref f) (.ref y)):=x;show h'.get? a=some (PySem.W.methodObj (.ref f) (.ref y));exact k a _ (.inl rfl) e
 | ext φ=>obtain⟨p,⟨o,e⟩,st⟩:=x;exact⟨st _ _ p fun o q=>k _ _ (.inl rfl) q,⟨o,k _ _ (.inl rfl) e⟩,st⟩
theorem HOk.lt (x:HOk P w H h) (e:H a=some o):a < h.objs.size:=(x a o e).lt
theorem HOk.fresh (x:HOk P w H h) (e:h.objs.size<=a):H a=none:=by
 cases q:H a with
 | none=>rfl
 | some u=>exact absurd (Nat.lt_of_lt_of_le (x.lt q) e) (Nat.lt_irrefl _)
theorem HOk.kept (x:HOk P w H h) (k:∀ b u,h.get? b=some u->h'.get? b=some u):HOk P w H h':=fun a o e=>
 (x a o e).sP (fun b u _ q=>k b u q) (fun _ q=>q) fun _ _ q=>q
theorem HOk.laid (x:HOk P w H h) (k:∀ b u,h.get? b=some u->h'.get? b=some u) (hp:h.objs.size<=a) (new:cU P w (upd H a o) h' a o):HOk P w (upd H a o) h':=fun b u e=>by
 have hn:=x.fresh hp;by_cases hb:b=a
 ·subst hb;rw[aA] at e;cases e;exact new
 ·rw[aj hb] at e;exact(x b u e).sP (fun c v _ q=>k c v q) (fun c q=>by rw[aj (aU q hn)];exact q) fun c xs q=>by rw[aj (aU q hn)];exact q
end
def Rd (H:Hp) (a:Addr) (u:HO):Prop:=H a=some u\/∃ o,H a=some (.frz o u)
theorem Rd.ok {P:Program} {w:World} {H:Hp} {h:Heap} {a:Addr} {u:HO} (r:Rd H a u) (x:HOk P w H h):cU P w H h a u:=by
 rcases r with r | ⟨o,r⟩
 ·exact x a u r
 ·obtain⟨_,q⟩:=x a _ r;exact q
noncomputable def Mut:Option HO->Prop
 | some (.lst _)=>True
 | some (.dK _)=>True
 | some (.dT _)=>True
 | some (.set _ _)=>True
 | some (.ins _ _ _)=>True
 | some (.ext _)=>True
 | _=>False
section
variable {P:Program} {w:World} {H:Hp} {h h':Heap} {x e:Addr} {o':HO}
theorem HOk.write (ok:HOk P w H h) (mu:Mut (H x)) (he:e=x\/H e=some (.own x)) (k:∀ b u,b≠e->h.get? b=some u->h'.get? b=some u) (heo:∃ u,h'.get? e=some u)
  (new:cU P w (upd H x o') h' x o'):HOk P w (upd H x o') h':=fun b u q=>by
 have nown:∀ c y,H c=some (.own y)->c≠x:=fun c y r z=>by subst z;rw[r] at mu;exact mu
 have ntup:∀ c xs,H c=some (.tup xs)->c≠x:=fun c xs r z=>by subst z;rw[r] at mu;exact mu
 by_cases hb:b=x
 ·subst hb;rw[aA] at q;cases q;exact new
 ·rw[aj hb] at q;by_cases hbe:b=e
  ·have q':H b=some (.own x):=by
    rcases he with z | z
    ·exact absurd (hbe.trans z) hb
    ·rw[hbe];exact z
   rw[q] at q';cases q';obtain⟨v,hv⟩:=heo;exact⟨v,by rw[hbe];exact hv⟩
  ·refine(ok b u q).sP (fun c v hc r=>k c v ?_ r) (fun c r=>by rw[aj (nown c b r)];exact r) (fun c xs r=>by rw[aj (ntup c xs r)];exact r) fun c o φ r=>by rw[aj (fun z=>by subst z;rw[r] at mu;exact mu)];exact r
   rcases hc with rfl | hc
   ·exact hbe
   ·rintro rfl;rcases he with z | z
    ·exact nown c b hc z
    ·rw[hc] at z;cases z;exact hb rfl
end
structure Un (fs ex:La0) (H H':Hp) (h h':Heap):Prop where
 keep:∀ b o,h.get? b=some o->H b=none->b∉fs->b∉ex->h'.get? b=some o
 slot:∀ b o,h.get? b=some o->H b=none->b∈fs->b∉ex->∃ sl,h'.get? b=some { o with slots:=sl }
 free:∀ b o,h.get? b=some o->H b=none->b∉ex->H' b=none
 there:∀ b o,h.get? b=some o->b∉ex->∃ o',h'.get? b=some o'
 tups:∀ b xs,H b=some (.tup xs)->H' b=some (.tup xs)
 frzs:∀ b o u,H b=some (.frz o u)->H' b=some (.frz o u)
 tbls:∀ b ps,H b=some (.tbl ps)->∃ more,H' b=some (.tbl (ps++more))
section
variable {fs fs' ex ex':La0} {H H1 H2:Hp} {h h1 h2 h':Heap} {a x e:Addr} {o:HO}
theorem Un.any (u:Un fs ex H H1 h h1) {b:Addr} {ob:Obj} (q:h.get? b=some ob) (n:H b=none) (hx:b∉ex):∃ sl,h1.get? b=some { ob with slots:=sl }:=by
 by_cases hb:b∈fs
 ·exact u.slot b ob q n hb hx
 ·exact⟨ob.slots,u.keep b ob q n hb hx⟩
theorem Un.kept (k:∀ b u,h.get? b=some u->h'.get? b=some u):Un fs ex H H h h':=
 ⟨fun b ob q _ _ _=>k b ob q,fun b ob q _ _ _=>⟨ob.slots,k b ob q⟩,fun _ _ _ n _=>n,fun b ob q _=>⟨ob,k b ob q⟩,fun _ _ q=>q,fun _ _ _ q=>q,fun _ ps q=>⟨#[],by rw[q];simp⟩⟩
theorem Un.refl:Un fs ex H H h h:=Un.kept fun _ _ q=>q
theorem Un.laid (k:∀ b u,h.get? b=some u->h'.get? b=some u) (hp:h.objs.size<=a) (hn:H a=none):Un fs ex H (upd H a o) h h' where
 keep:=fun b u q _ _ _=>k b u q
 slot:=fun b u q _ _ _=>⟨u.slots,k b u q⟩
 free:=fun b u q n _=>by rw[aj (Nat.ne_of_lt (Nat.lt_of_lt_of_le (Heap.lt_size q) hp))];exact n
 there:=fun b u q _=>⟨u,k b u q⟩
 tups:=fun b xs q=>by rw[aj (aU q hn)];exact q
 frzs:=fun b u xs q=>by rw[aj (aU q hn)];exact q
 tbls:=fun b ps q=>⟨#[],by rw[aj (aU q hn),q];simp⟩
theorem Un.write (mu:Mut (H x)) (he:e=x\/H e=some (.own x)) (k:∀ b u,b≠e->h.get? b=some u->h'.get? b=some u) (heo:∃ u,h'.get? e=some u):Un fs ex H (upd H x o) h h':=by
 have hx:∀ b,H b=none->b≠x:=fun b n z=>by subst z;rw[n] at mu;exact mu
 have hb:∀ b,H b=none->b≠e:=fun b n z=>by
  subst z;rcases he with r | r
  ·exact hx b n r
  ·rw[n] at r;cases r
 have hm:∀ b u,H b=some u->¬ Mut (some u)->b≠x:=fun b u q nm z=>by subst z;rw[q] at mu;exact nm mu
 refine⟨fun b u q n _ _=>k b u (hb b n) q,fun b u q n _ _=>⟨u.slots,k b u (hb b n) q⟩,fun b u q n _=>by rw[aj (hx b n)];exact n,fun b u q _=>?_,
  fun b xs q=>by rw[aj (hm b _ q fun z=>z)];exact q,fun b u xs q=>by rw[aj (hm b _ q fun z=>z)];exact q,fun b ps q=>⟨#[],by rw[aj (hm b _ q fun z=>z),q];simp⟩⟩
 by_cases hbe:b=e
 ·subst hbe;exact heo
 ·exact⟨u,k b u hbe q⟩
end
structure Mod (K:Fg0) (mg:SV) (base:Heap):Prop where
 kin:K.In base
 glob:base.Ns mainGlobals mg
 blt:∃ mb,base.Ns builtinsNs mb/\∀ x:Str,x≠"__name__"->mb x=bootBuiltins x
 nolimit:base.NoLimit
 bm:∃ bm ob,mg "__builtins__"=some (.ref bm)/\bm≠builtinsNs/\base.get? bm=some ob/\ob.cls=.type "module"/\ob.dict=some builtinsNs/\ob.data=.plain
set_option genInjectivity false in
structure Cx where
 prog:Program
 w:World
 K:Fg0
 mg:Str->Option Value
 base:Heap
 A:Around
 N:Ls
 s₀:Shared
 H₀:Hp
 env:Env
 outer:List Env
 stack:List Env
 ex:La0
 fn:Str->Bool
 calm:Bool
 pn:Pn
 xe:Value->Shared->Prop
noncomputable def frs (l:List Env):La0:=l.filterMap (·.frame)
noncomputable abbrev Cx.fs (X:Cx):La0:=frs X.outer
def Vis (sc:Scope) (x:Str):Prop:=sc.names.lookup x=some .local\/sc.names.lookup x=some .cell\/sc.names.lookup x=some .free
def Loc (sc:Scope) (x:Str):Prop:=sc.names.lookup x=some .local\/sc.names.lookup x=some .cell
def Look (env:Env) (h:Heap) (m:SV) (x:Str) (u:Value):Prop:=
 (env.kindOf x=some .local/\m x=some u)\/((env.kindOf x=some .cell\/env.kindOf x=some .free)/\∃ c,env.cells.lookup x=some c/\h.IsCell c (some u))
def Kpt (H:Hp) (b:Addr) (o:Obj):Prop:=H b=none\/((∃ u,H b=some (.frz o u))/\∀ v,o.data≠.cell v)
def sD (base:Heap) (P:Addr) (q:Str):Prop:=base.objs[P]?=some { cls:=.str q 0,data:=.freed }
def TabsAt (base:Heap) (H:Hp):Prop:=∀ P q,sD base P q->∃ ps t,H P=some (.tbl ps)/\ps[0]?=some (.str q t)
structure Cx.Ok (X:Cx):Prop where
 mod:Mod X.K X.mg X.base
 kind:X.env.scope.kind=.function
 glob:X.env.globals=mainGlobals
 blt:X.env.builtins=builtinsNs
 above:X.s₀.heap.objs.size<=X.env.locals
 inj:∀ x y c,X.env.cells.lookup x=some c->X.env.cells.lookup y=some c->x=y
 has:∀ x,(X.env.kindOf x=some .cell\/X.env.kindOf x=some .free)->∃ c,X.env.cells.lookup x=some c
 cab:∀ x c,X.fn x=true->X.env.cells.lookup x=some c->X.s₀.heap.objs.size<=c
 hd:X.calm=true->X.A.handled=none
 frames:X.A.frames=some X.stack
 stk:X.stack=X.outer\/(X.stack=X.env::X.outer/\X.env.frame=some X.env.locals)
 exf:∀ b∈X.ex,b≠X.env.locals/\∀ x c,X.env.cells.lookup x=some c->c≠b
 bs:∀ b o,X.base.get? b=some o->X.s₀.heap.get? b=some o/\Kpt X.H₀ b o
 bsz:X.base.objs.size<=X.s₀.heap.objs.size
 noex:∀ b o,X.base.get? b=some o->b∉X.ex
 exfs:∀ b∈X.ex,b∉X.fs
 l8:X.s₀.heap.FunFrames X.base X.outer
 frf:∀ b∈X.fs,X.H₀ b=none
 tb:TabsAt X.base X.H₀
structure Inv (X:Cx) (pins:Pn) (σ:List (Option V)) (H:Hp) (s:Shared):Prop where
 ok:X.Ok
 os:s.os=X.s₀.os
 bare:AllBare s.gens
 base:Un X.fs X.ex X.H₀ H X.s₀.heap s.heap
 loc:∃ m,s.heap.Ns X.env.locals m/\∀ (i:Nat) (x:Str) (v:V),X.N[i]?=some x->σ[i]?=some (some v)->Vis X.env.scope x->∃ u,RelV v u/\Look X.env s.heap m x u
 cell:∀ x c,X.env.cells.lookup x=some c->∃ v,s.heap.IsCell c v
 free:H X.env.locals=none
 freeC:∀ x c,X.env.cells.lookup x=some c->H c=none
 pin:∀ p∈X.pn++pins,s.heap.get? p.1=some p.2/\H p.1=none/\p.1≠X.env.locals/\p.1∉X.fs/\∀ v,p.2.data≠.cell v
 hok:HOk X.prog X.w H s.heap
 len:σ.length=X.N.length
section
variable {X:Cx} {pins:Pn} {σ:List (Option V)} {H H':Hp} {s:Shared} {h':Heap}
theorem Cx.Ok.J4 (ok:X.Ok) {b:Addr} {o:Obj} (e:X.base.get? b=some o):b∉X.fs:=fun hb=>by
 have:=(ok.l8.mem hb).1;rw[e] at this;cases this
theorem Inv.bs (I:Inv X pins σ H s):∀ b o,X.base.get? b=some o->s.heap.get? b=some o/\Kpt H b o:=fun b o e=>by
 obtain⟨h1,h2 | ⟨⟨u,h2⟩,h3⟩⟩:=I.ok.bs b o e
 ·exact⟨I.base.keep b o h1 h2 (I.ok.J4 e) (I.ok.noex b o e),.inl (I.base.free b o h1 h2 (I.ok.noex b o e))⟩
 ·have q:=I.base.frzs b o u h2;obtain⟨z,_⟩:=I.hok b _ q;exact⟨z,.inr ⟨⟨u,q⟩,h3⟩⟩
theorem TabsAt.un {base:Heap} {fs ex:La0} {H H':Hp} {h h':Heap} (x:TabsAt base H) (u:Un fs ex H H' h h'):TabsAt base H':=fun P q r=>by
 obtain⟨ps,t,e1,e2⟩:=x P q r;obtain⟨m,e3⟩:=u.tbls P ps e1;exact⟨_,t,e3,by rw[Array.getElem?_append_left (by obtain⟨z,_⟩:=Array.getElem?_eq_some_iff.mp e2;exact z)];exact e2⟩
theorem Inv.tb (I:Inv X pins σ H s):TabsAt X.base H:=I.ok.tb.un I.base
theorem Inv.bk (I:Inv X pins σ H s):∀ b o,X.base.get? b=some o->s.heap.get? b=some o:=fun b o e=>(I.bs b o e).1
theorem Inv.mod (I:Inv X pins σ H s):Mod X.K X.mg X.base:=I.ok.mod
theorem Inv.kIn (I:Inv X pins σ H s):X.K.In s.heap:=I.ok.mod.kin.keeps I.bk
theorem Inv.lt (I:Inv X pins σ H s):X.env.locals < s.heap.objs.size:=let ⟨_,hn,_⟩:=I.loc;hn.lt
theorem Inv.sz (I:Inv X pins σ H s):X.s₀.heap.objs.size<=s.heap.objs.size:=Nat.le_trans I.ok.above (Nat.le_of_lt I.lt)
theorem Inv.J3 (I:Inv X pins σ H s) {a:Addr} (h:s.heap.objs.size<=a):a∉X.fs:=fun hb=>by
 obtain⟨_,o,ho,_⟩:=I.ok.l8.mem hb;exact absurd (Nat.lt_of_lt_of_le (Heap.lt_size ho) (Nat.le_trans I.sz h)) (Nat.lt_irrefl _)
theorem Inv.cne (I:Inv X pins σ H s):∀ x c,X.env.cells.lookup x=some c->c≠X.env.locals:=fun x c e z=>by
 obtain⟨v,o,ho,hd⟩:=I.cell x c e;obtain⟨m,⟨o',es,ep,ho',hd',_⟩,_⟩:=I.loc;rw[z,ho'] at ho;cases ho;rw[hd'] at hd;cases hd
theorem Inv.l8 (I:Inv X pins σ H s):s.heap.FunFrames X.base X.outer:=by
 have all:∀ (l:List Env),(∀ b∈frs l,b∈X.fs)->X.s₀.heap.FunFrames X.base l->s.heap.FunFrames X.base l:=by
  intro l
  induction l with
  | nil=>intro _ _;trivial
  | cons env r ih=>
   intro hs hl;obtain⟨hk,⟨L,o,hf,hn,ho,hd⟩,hr⟩:=hl;have hL:L∈X.fs:=hs L (by unfold frs;rw[List.filterMap_cons,hf];exact List.mem_cons_self);obtain⟨sl,e⟩:=I.base.slot L o ho (I.ok.frf L hL) hL fun z=>I.ok.exfs L z hL;exact⟨hk,⟨L,_,hf,hn,e,hd⟩,ih (fun b hb=>hs b (by unfold frs;rw[List.filterMap_cons,hf];exact List.mem_cons_of_mem _ hb)) hr⟩
 exact all X.outer (fun _ hb=>hb) I.ok.l8
theorem Inv.stack (I:Inv X pins σ H s):s.heap.FunFrames X.base X.stack:=by
 rcases I.ok.stk with e | ⟨e,hf⟩
 ·rw[e];exact I.l8
 ·rw[e];obtain⟨m,hn,_⟩:=I.loc;refine .cons (by rw[I.ok.kind];decide) hf hn ?_ I.l8;exact Heap.get?_none_of_le (Nat.le_trans I.ok.bsz I.ok.above)
theorem Inv.qL (I:Inv X pins σ H s):∀ b∈frs X.stack,b∈X.env.locals::X.fs:=fun b hb=>by
 rcases I.ok.stk with e | ⟨e,hf⟩
 ·rw[e] at hb;exact List.mem_cons_of_mem _ hb
 ·rw[e] at hb;unfold frs at hb;rw[List.filterMap_cons,hf] at hb;exact hb
theorem Inv.wu (I:Inv X pins σ H s):∀ b∈frs X.stack,H b=none:=fun b hb=>by
 rcases List.mem_cons.mp (I.qL b hb) with e | hb
 ·rw[e];exact I.free
 ·obtain⟨_,o,ho,_⟩:=I.ok.l8.mem hb;exact I.base.free b o ho (I.ok.frf b hb) fun z=>I.ok.exfs b z hb
theorem Inv.step {g':Array GenState} {t':Nat} {d':Drawn} {ch:La0} (I:Inv X pins σ H s)
  (hch:∀ b∈ch,(b∈X.ex\/X.s₀.heap.objs.size<=b)/\b≠X.env.locals/\(∀ x c,X.env.cells.lookup x=some c->c≠b)/\∀ p∈X.pn++pins,p.1≠b)
  (keep:∀ b o,b≠X.env.locals->b∉X.fs->b∉ch->s.heap.get? b=some o->H b=none->h'.get? b=some o)
  (slot:∀ b o,b≠X.env.locals->b∈X.fs->b∉ch->s.heap.get? b=some o->H b=none->∃ sl,h'.get? b=some { o with slots:=sl }) (free:∀ b o,b∉ch->s.heap.get? b=some o->H b=none->H' b=none)
  (there:∀ b o,b∉ch->s.heap.get? b=some o->∃ o',h'.get? b=some o')
  (tups:∀ b xs,H b=some (.tup xs)->H' b=some (.tup xs)) (frzs:∀ b o u,H b=some (.frz o u)->H' b=some (.frz o u)) (tbls:∀ b ps,H b=some (.tbl ps)->∃ more,H' b=some (.tbl (ps++more)))
  (ns:∀ m,s.heap.Ns X.env.locals m->h'.Ns X.env.locals m) (hok:HOk X.prog X.w H' h') (hg:AllBare g') :
  Inv X pins σ H' { s with heap:=h',gens:=g',drawn:=d',toks:=t' }:=by
 have neL:∀ b o,X.s₀.heap.get? b=some o->b≠X.env.locals:=fun b o e=>Nat.ne_of_lt (Nat.lt_of_lt_of_le (Heap.lt_size e) I.ok.above);have neC:∀ b o,X.s₀.heap.get? b=some o->b∉X.ex->b∉ch:=fun b o e hx hb=>by
  rcases(hch b hb).1 with z | z
  ·exact hx z
  ·exact absurd (Nat.lt_of_lt_of_le (Heap.lt_size e) z) (Nat.lt_irrefl _)
 have cellK:∀ x c,X.env.cells.lookup x=some c->∀ v,s.heap.IsCell c v->h'.IsCell c v:=fun x c e v Z=>by
  obtain⟨o,ho,hd⟩:=Z;have nch:c∉ch:=fun z=>(hch c z).2.2.1 x c e rfl;by_cases hc:c∈X.fs
  ·obtain⟨sl,q⟩:=slot c o (I.cne x c e) hc nch ho (I.freeC x c e);exact⟨_,q,hd⟩
  ·exact⟨o,keep c o (I.cne x c e) hc nch ho (I.freeC x c e),hd⟩
 refine⟨I.ok,I.os,hg,⟨fun b o e n hb hx=>?_,fun b o e n hb hx=>?_,fun b o e n hx=>?_,fun b o e hx=>?_,fun b xs e=>tups b xs (I.base.tups b xs e),fun b o xs e=>frzs b o xs (I.base.frzs b o xs e),fun b ps e=>?_⟩,?_,fun x c e=>?_,?_,fun x c e=>?_,fun p hp=>?_,hok,I.len⟩
 ·exact keep b o (neL b o e) hb (neC b o e hx) (I.base.keep b o e n hb hx) (I.base.free b o e n hx)
 ·obtain⟨sl,e1⟩:=I.base.slot b o e n hb hx;obtain⟨sl',e2⟩:=slot b _ (neL b o e) hb (neC b o e hx) e1 (I.base.free b o e n hx);exact⟨sl',e2⟩
 ·obtain⟨o',e1⟩:=I.base.there b o e hx;exact free b o' (neC b o e hx) e1 (I.base.free b o e n hx)
 ·obtain⟨o',e1⟩:=I.base.there b o e hx;exact there b o' (neC b o e hx) e1
 ·obtain⟨m1,e1⟩:=I.base.tbls b ps e;obtain⟨m2,e2⟩:=tbls b _ e1;exact⟨m1++m2,by rw[e2,Array.append_assoc]⟩
 ·obtain⟨m,hn,hl⟩:=I.loc;refine⟨m,ns m hn,fun i x v e1 e2 e3=>?_⟩;obtain⟨u,r,l⟩:=hl i x v e1 e2 e3;refine⟨u,r,?_⟩;rcases l with l | ⟨k,c,e,z⟩
  ·exact .inl l
  ·exact .inr ⟨k,c,e,cellK x c e _ z⟩
 ·obtain⟨v,z⟩:=I.cell x c e;exact⟨v,cellK x c e v z⟩
 ·obtain⟨m,⟨o,_,_,ho,_⟩,_⟩:=I.loc;exact free _ o (fun z=>(hch _ z).2.1 rfl) ho I.free
 ·obtain⟨v,o,ho,hd⟩:=I.cell x c e;exact free c o (fun z=>(hch c z).2.2.1 x c e rfl) ho (I.freeC x c e)
 ·obtain⟨e,n,ne,nf,d⟩:=I.pin p hp;have nch:p.1∉ch:=fun z=>(hch p.1 z).2.2.2 p hp rfl;exact⟨keep p.1 p.2 ne nf nch e n,free p.1 p.2 nch e n,ne,nf,d⟩
theorem Inv.un {t':Nat} (I:Inv X pins σ H s) (u:Un X.fs [] H H' s.heap h') (hok:HOk X.prog X.w H' h'):Inv X pins σ H' { s with heap:=h',toks:=t' }:=by
 obtain⟨m,⟨o,es,ep,ho,r⟩,_⟩:=id I.loc;obtain⟨sl,hL⟩:=u.any ho I.free (by simp);exact I.step (g':=s.gens) (d':=s.drawn) (ch:=[]) (fun _ z=>nomatch z) (fun b o _ hb _ e n=>u.keep b o e n hb (by simp)) (fun b o _ hb _ e n=>u.slot b o e n hb (by simp)) (fun b o _ e n=>u.free b o e n (by simp)) (fun b o _ e=>u.there b o e (by simp)) u.tups u.frzs u.tbls (fun m' hm=>by
  obtain⟨o',es',ep',ho',r'⟩:=hm;rw[ho] at ho';cases ho';exact⟨_,es',ep',hL,r'⟩) hok I.bare
theorem Inv.call {g':Array GenState} {t':Nat} {d':Drawn} {ch:La0} (I:Inv X pins σ H s) (u:Un (frs X.stack) ch H H' s.heap h') (hok:HOk X.prog X.w H' h') (hg:AllBare g')
  (hch:∀ b∈ch,(b∈X.ex\/X.s₀.heap.objs.size<=b)/\b≠X.env.locals/\(∀ x c,X.env.cells.lookup x=some c->c≠b)/\∀ p∈X.pn++pins,p.1≠b) :
  Inv X pins σ H' { s with heap:=h',gens:=g',drawn:=d',toks:=t' }:=by
 obtain⟨m,⟨o,es,ep,ho,r⟩,_⟩:=id I.loc;obtain⟨sl,hL⟩:=u.any ho I.free fun z=>(hch _ z).2.1 rfl;exact I.step (ch:=ch) hch (fun b o hL hb hc e n=>u.keep b o e n (fun z=>(List.mem_cons.mp (I.qL b z)).elim hL hb) hc) (fun b o _ _ hc e n=>u.any e n hc) (fun b o hc e n=>u.free b o e n hc) (fun b o hc e=>u.there b o e hc) u.tups u.frzs u.tbls (fun m' hm=>by
  obtain⟨o',es',ep',ho',r'⟩:=hm;rw[ho] at ho';cases ho';exact⟨_,es',ep',hL,r'⟩) hok hg
theorem Inv.turned {t':Nat} {it:Addr} (I:Inv X pins σ H s) (k:∀ b o,b≠it->s.heap.get? b=some o->h'.get? b=some o) (hn:H it=none) (hL:it≠X.env.locals)
  (h1:it∈X.ex\/X.s₀.heap.objs.size<=it) (h2:∀ x c,X.env.cells.lookup x=some c->c≠it) (h3:∀ p∈X.pn++pins,p.1≠it):Inv X pins σ H { s with heap:=h',toks:=t' }:=by
 have nit:∀ b u,H b=some u->b≠it:=fun b u e z=>by rw[z,hn] at e;cases e
 refine I.step (g':=s.gens) (d':=s.drawn) (ch:=[it]) (fun b hb=>?_) (fun b o _ _ hc e _=>k b o (fun z=>hc (by simp [z])) e) (fun b o _ _ hc e _=>⟨o.slots,k b o (fun z=>hc (by simp [z])) e⟩) (fun _ _ _ _ n=>n)
  (fun b o hc e=>⟨o,k b o (fun z=>hc (by simp [z])) e⟩) (fun _ _ e=>e) (fun _ _ _ e=>e) (fun b ps e=>⟨#[],by rw[e];simp⟩) (fun m hm=>?_) (fun b u e=>?_) I.bare
 ·have e:b=it:=by simpa using hb
  subst e;exact⟨h1,hL,h2,h3⟩
 ·obtain⟨o,es,ep,ho,r⟩:=hm;exact⟨o,es,ep,k _ o (Ne.symm hL) ho,r⟩
 ·refine(I.hok b u e).sP (fun c v hc q=>k c v ?_ q) (fun _ q=>q) fun _ _ q=>q;rcases hc with z | z
  ·rw[z];exact nit b u e
  ·exact nit c _ z
theorem Inv.tok (I:Inv X pins σ H s) (t:Nat):Inv X pins σ H { s with toks:=t }:=I.un (h':=s.heap) (t':=t) Un.refl I.hok
theorem Inv.kept {t':Nat} (I:Inv X pins σ H s) (k:∀ b u,s.heap.get? b=some u->h'.get? b=some u):Inv X pins σ H { s with heap:=h',toks:=t' }:=I.un (Un.kept k) (I.hok.kept k)
theorem Inv.laid {a:Addr} {o:HO} {t':Nat} (I:Inv X pins σ H s) (k:∀ b u,s.heap.get? b=some u->h'.get? b=some u) (hp:s.heap.objs.size<=a) (new:cU X.prog X.w (upd H a o) h' a o) :
  Inv X pins σ (upd H a o) { s with heap:=h',toks:=t' }:=I.un (Un.laid k hp (I.hok.fresh hp)) (I.hok.laid k hp new)
theorem Inv.write {x e:Addr} {o:HO} {t':Nat} (I:Inv X pins σ H s) (mu:Mut (H x)) (he:e=x\/H e=some (.own x)) (k:∀ b u,b≠e->s.heap.get? b=some u->h'.get? b=some u) (heo:∃ u,h'.get? e=some u)
  (new:cU X.prog X.w (upd H x o) h' x o):Inv X pins σ (upd H x o) { s with heap:=h',toks:=t' }:=I.un (Un.write mu he k heo) (I.hok.write mu he k heo new)
theorem Inv.gP {pins':Pn} (I:Inv X pins σ H s) (h:∀ p∈pins',s.heap.get? p.1=some p.2/\H p.1=none/\p.1≠X.env.locals/\p.1∉X.fs/\∀ v,p.2.data≠.cell v):Inv X pins' σ H s:=
 ⟨I.ok,I.os,I.bare,I.base,I.loc,I.cell,I.free,I.freeC,fun p hp=>(List.mem_append.mp hp).elim (fun z=>I.pin p (List.mem_append_left _ z)) (h p),I.hok,I.len⟩
theorem tN {N:Ls} (hN:N.Nodup) {i j:Nat} {x:Str} (a:N[i]?=some x) (b:N[j]?=some x):i=j:=by
 obtain⟨h1,e1⟩:=gS0 a;obtain⟨h2,e2⟩:=gS0 b;exact(List.getElem_inj hN).mp (e1.trans e2.symm)
theorem lJ {M:Model} {A:Around} {E:VS} {i:Nat} {x:Str} {v:V} {u:Value} {Q:Unit->Shared->Prop} (I:Inv X pins σ H s) (hN:X.N.Nodup) (hi:X.N[i]?=some x) (hx:Loc X.env.scope x) (r:RelV v u)
  (h:∀ s',Inv X pins (σ.set i (some v)) H s'->(∃ a,Heap.SameBut a s.heap s'.heap/\(a=X.env.locals\/X.env.cells.lookup x=some a))->Q () s') (hf:X.fn x=true\/X.env.scope.names.lookup x=some .local:=by first | exact .inl rfl | exact .inr rfl | assumption):wpAny M A (storeName X.env x u) Q E s:=by
 obtain⟨m,hn,hl⟩:=id I.loc;have hcls:(X.env.scope.kind == .class || (X.env.scope.kind == .module && X.env.locals != X.env.globals))=false:=by rw[I.ok.kind];rfl
 have hiσ:i < σ.length:=by rw[I.len];exact(gS0 hi).1
 have cne:=I.cne;have tracked:∀ {a:Addr} {h':Heap},(∃ o,s.heap.get? a=some o/\H a=none)->Heap.SameBut a s.heap h'->HOk X.prog X.w H h':=fun {a h'} ha hs b ob e=>by
  obtain⟨_,_,hfree⟩:=ha;refine(I.hok b ob e).sP (fun c w' hc q=>(hs.2 c ?_).trans q) (fun _ q=>q) fun _ _ q=>q;rintro rfl;rcases hc with rfl | hc
  ·rw[hfree] at e;cases e
  ·rw[hfree] at hc;cases hc
 rcases hx with hk | hk
 ·refine wpAny_storeName_local hk hn (fun h' hn' hs=>?_) hcls;obtain⟨oL,_,_,hoL,_⟩:=id hn;refine h _ ⟨I.ok,I.os,I.bare,⟨fun b o e n hb hx=>?_,fun b o e n hb hx=>?_,I.base.free,fun b o e hx=>?_,I.base.tups,I.base.frzs,I.base.tbls⟩,⟨_,hn',fun j y v' e1 e2 e3=>?_⟩,fun y c e=>?_,I.free,I.freeC,fun p hp=>?_,tracked ⟨oL,hoL,I.free⟩ hs,by simpa using I.len⟩ ⟨_,hs,.inl rfl⟩
  ·exact(hs.2 b (Nat.ne_of_lt (Nat.lt_of_lt_of_le (Heap.lt_size e) I.ok.above))).trans (I.base.keep b o e n hb hx)
  ·obtain⟨sl,e1⟩:=I.base.slot b o e n hb hx;exact⟨sl,(hs.2 b (Nat.ne_of_lt (Nat.lt_of_lt_of_le (Heap.lt_size e) I.ok.above))).trans e1⟩
  ·obtain⟨o',e1⟩:=I.base.there b o e hx;exact⟨o',(hs.2 b (Nat.ne_of_lt (Nat.lt_of_lt_of_le (Heap.lt_size e) I.ok.above))).trans e1⟩
  ·by_cases hj:j=i
   ·subst hj;rw[hi] at e1;cases e1;rw[List.getElem?_set_self hiσ] at e2;cases e2;exact⟨u,r,.inl ⟨hk,by simp⟩⟩
   ·rw[List.getElem?_set_ne (Ne.symm hj)] at e2;obtain⟨u',r',q⟩:=hl j y v' e1 e2 e3;refine⟨u',r',?_⟩;rcases q with ⟨k,e⟩ | ⟨k,c,e,z⟩
    ·refine .inl ⟨k,?_⟩;have:y≠x:=fun e=>hj (tN hN e1 (e ▸ hi));simp [this,e]
    ·exact .inr ⟨k,c,e,z.sameBut hs (cne y c e)⟩
  ·obtain⟨w',z⟩:=I.cell y c e;exact⟨w',z.sameBut hs (cne y c e)⟩
  ·obtain⟨e,n,ne,nf,d⟩:=I.pin p hp;exact⟨(hs.2 p.1 ne).trans e,n,ne,nf,d⟩
 ·have hfn:X.fn x=true:=by
   rcases hf with z | z
   ·exact z
   ·rw[z] at hk;cases hk
  obtain⟨c,hc⟩:=I.ok.has x (.inl hk);obtain⟨w',z⟩:=I.cell x c hc;refine wpAny_storeName_cell I.ok.kind hk hc z (fun h' hc' hs=>?_);obtain⟨oc,hoc,hocd⟩:=id z;refine h { s with heap:=h' } ⟨I.ok,I.os,I.bare,⟨fun b o e n hb hx=>?_,fun b o e n hb hx=>?_,I.base.free,fun b o e hx=>?_,I.base.tups,I.base.frzs,I.base.tbls⟩,⟨m,hn.sameBut hs (Ne.symm (cne x c hc)),fun j y v' e1 e2 e3=>?_⟩,fun y c' e=>?_,I.free,I.freeC,fun p hp=>?_,tracked ⟨oc,hoc,I.freeC x c hc⟩ hs,by simpa using I.len⟩ ⟨c,hs,.inr hc⟩
  ·exact(hs.2 b (Nat.ne_of_lt (Nat.lt_of_lt_of_le (Heap.lt_size e) (I.ok.cab x c hfn hc)))).trans (I.base.keep b o e n hb hx)
  ·obtain⟨sl,e1⟩:=I.base.slot b o e n hb hx;exact⟨sl,(hs.2 b (Nat.ne_of_lt (Nat.lt_of_lt_of_le (Heap.lt_size e) (I.ok.cab x c hfn hc)))).trans e1⟩
  ·obtain⟨o',e1⟩:=I.base.there b o e hx;exact⟨o',(hs.2 b (Nat.ne_of_lt (Nat.lt_of_lt_of_le (Heap.lt_size e) (I.ok.cab x c hfn hc)))).trans e1⟩
  ·by_cases hj:j=i
   ·subst hj;rw[hi] at e1;cases e1;rw[List.getElem?_set_self hiσ] at e2;cases e2;exact⟨u,r,.inr ⟨.inl hk,c,hc,hc'⟩⟩
   ·rw[List.getElem?_set_ne (Ne.symm hj)] at e2;obtain⟨u',r',q⟩:=hl j y v' e1 e2 e3;refine⟨u',r',?_⟩;rcases q with q | ⟨k,c',e,z'⟩
    ·exact .inl q
    ·refine .inr ⟨k,c',e,z'.sameBut hs ?_⟩;rintro rfl;exact hj (tN hN e1 (I.ok.inj _ _ _ e hc ▸ hi))
  ·by_cases hcc:c'=c
   ·subst hcc;exact⟨_,hc'⟩
   ·obtain⟨w2,z2⟩:=I.cell y c' e;exact⟨w2,z2.sameBut hs hcc⟩
  ·obtain⟨e,n,ne,nf,d⟩:=I.pin p hp;refine⟨(hs.2 p.1 ?_).trans e,n,ne,nf,d⟩;intro q;rw[q,hoc] at e;have q':oc=p.2:=Option.some.inj e;exact d w' (by rw[<- q'];exact hocd)
theorem sO {M:Model} {A:Around} {E:VS} {i:Nat} {x:Str} {v:V} {u:Value} {Q:Unit->Shared->Prop} (I:Inv X pins σ H s) (hN:X.N.Nodup) (hi:X.N[i]?=some x) (hx:Loc X.env.scope x) (r:RelV v u)
  (h:∀ s',Inv X pins (σ.set i (some v)) H s'->Q () s') (hf:X.fn x=true\/X.env.scope.names.lookup x=some .local:=by first | exact .inl rfl | exact .inr rfl | assumption):wpAny M A (storeName X.env x u) Q E s:=
 lJ I hN hi hx r (fun s' I' _=>h s' I') hf
theorem Inv.Ei {s':Shared} {ch:La0} (I:Inv X pins σ H s) (ho:s'.os=s.os) (u:Un (frs X.stack) ch H H' s.heap s'.heap) (hok:HOk X.prog X.w H' s'.heap) (hg:AllBare s'.gens)
  (hch:∀ b∈ch,(b∈X.ex\/X.s₀.heap.objs.size<=b)/\b≠X.env.locals/\(∀ x c,X.env.cells.lookup x=some c->c≠b)/\∀ p∈X.pn++pins,p.1≠b):Inv X pins σ H' s':=by
 obtain⟨h',g',d',t',o'⟩:=s';have e:o'=s.os:=ho;subst e;exact I.call (g':=g') (t':=t') (d':=d') u hok hg hch
end
abbrev XK:=Value->Option Addr->Hp->Prop
abbrev St:=List (Option V)
abbrev VK:=V->Hp->Prop
abbrev TE:=St->Hp->VK->Prop
abbrev TT:=St->Hp->(Bool->Hp->Prop)->Prop
abbrev TA:=St->Hp->(List V->Hp->Prop)->Prop
set_option genInjectivity false in
structure Ends where
 nx:St->Hp->Prop
 rt:VK
 bk:St->Hp->Prop:=fun _ _=>False
 ct:St->Hp->Prop:=fun _ _=>False
abbrev TS:=Ends->St->Hp->Prop
def EP (X:Cx) (pins:Pn) (σ:St) (Q:VK) (u:Value) (s':Shared):Prop:=∃ v H',Inv X pins σ H' s'/\RelV v u/\Q v H'
def TP (X:Cx) (pins:Pn) (σ:St) (Q:Bool->Hp->Prop) (b:Bool) (s':Shared):Prop:=∃ H',Inv X pins σ H' s'/\Q b H'
def AP (X:Cx) (pins:Pn) (σ:St) (Q:List V->Hp->Prop) (us:Lv) (s':Shared):Prop:=∃ vs H',Inv X pins σ H' s'/\Vals vs us/\Q vs H'
def SP (X:Cx) (pins:Pn) (D:Ends) (f:Flow) (s':Shared):Prop:=
 match f with
 | .next=>∃ σ' H',Inv X pins σ' H' s'/\D.nx σ' H'
 | .brk=>∃ σ' H',Inv X pins σ' H' s'/\D.bk σ' H'
 | .cont=>∃ σ' H',Inv X pins σ' H' s'/\D.ct σ' H'
 | .ret u=>∃ v σ' H',Inv X pins σ' H' s'/\RelV v u/\D.rt v H'
def PE (X:Cx) (e:Expr) (t:TE):Prop:=
 ∀ (pins:Pn) (s:Shared) (σ:St) (H:Hp) (Q:VK),Inv X pins σ H s->t σ H Q->wpAny (model X.prog X.w) X.A (eval e X.env) (EP X pins σ Q) X.xe s
def PT (X:Cx) (e:Expr) (t:TT):Prop:=
 ∀ (pins:Pn) (s:Shared) (σ:St) (H:Hp) (Q:Bool->Hp->Prop),Inv X pins σ H s->t σ H Q->wpAny (model X.prog X.w) X.A (isTrue e X.env (eval e X.env)) (TP X pins σ Q) X.xe s
def PW (X:Cx) (e:Expr) (t:TT):Prop:=
 ∀ (whole:Sem Value) (pins:Pn) (s:Shared) (σ:St) (H:Hp) (Q:Bool->Hp->Prop),Inv X pins σ H s->t σ H Q->wpAny (model X.prog X.w) X.A (isTrue e X.env whole) (TP X pins σ Q) X.xe s
theorem PW.pt {X:Cx} {e:Expr} {t:TT} (h:PW X e t):PT X e t:=h _
def PA (X:Cx) (es:List Expr) (t:TA):Prop:=
 ∀ (pos:Pos) (pins:Pn) (s:Shared) (σ:St) (H:Hp) (Q:List V->Hp->Prop),Inv X pins σ H s->t σ H Q->wpAny (model X.prog X.w) X.A (spliced (backTo pos (starEach es X.env))) (AP X pins σ Q) X.xe s
def PS (X:Cx) (st:Stmt) (t:TS):Prop:=
 ∀ (pins:Pn) (s:Shared) (σ:St) (H:Hp) (D:Ends),Inv X pins σ H s->t D σ H->wpAny (model X.prog X.w) X.A (exec st X.env) (SP X pins D) X.xe s
def PSs (X:Cx) (st:List Stmt) (t:TS):Prop:=
 ∀ (pins:Pn) (s:Shared) (σ:St) (H:Hp) (D:Ends),Inv X pins σ H s->t D σ H->wpAny (model X.prog X.w) X.A (execs st X.env) (SP X pins D) X.xe s
theorem thn {α:Type} {t:Sem α} {Q Q':α->Shared->Prop} {M:Model} {A:Around} {E:VS} {s:Shared} (h:wpAny M A t Q E s) (hQ:∀ a s,Q a s->Q' a s):wpAny M A t Q' E s:=wpAny_mono h hQ fun _ _ x=>x
section
variable {X:Cx}
def cX (i:Nat):TE:=fun σ H Q=>∃ v,σ[i]?=some (some v)/\Q v H
def tC (v:V):TE:=fun _ H Q=>Q v H
theorem rm {i:Nat} {x:Str} {pos:Pos} (hN:X.N[i]?=some x) (hv:Vis X.env.scope x) (hd:autoParam ((x == ("__debug__":Str))=false) wP) (hcd:autoParam ((x == ("__classdict__":Str))=false) wP):PE X (.Name x pos) (cX i):=by
 intro pins s σ H Q I h;obtain⟨v,e,h⟩:=h;obtain⟨m,hn,hl⟩:=I.loc;obtain⟨u,r,l⟩:=hl i x v hN e hv;have fin:EP X pins σ Q u s:=⟨v,H,I,r,h⟩;rcases l with ⟨hk,hm⟩ | ⟨hk,c,hc,hcell⟩
 ·exact wpAny_Name (wpAny_loadName_local I.ok.kind hk hn hm fin) hd
 ·rcases hk with hk | hk
  ·exact wpAny_Name (wpAny_loadName_cell I.ok.kind hk hc hcell fin) hd
  ·exact wpAny_Name (wpAny_loadName_free I.ok.kind hk hc hcell fin hcd) hd
theorem uZ {i j pos}:PE X (.Constant (.int i) j pos) (tC (.int i)):=fun _ _ _ H _ I h=>wpAny_Constant_int ⟨.int i,H,I.tok _,⟨_,rfl⟩,h⟩
theorem HZ {b j pos}:PE X (.Constant (.bool b) j pos) (tC (.bl b)):=fun _ _ _ H _ I h=>Constant_bool ⟨.bl b,H,I,rfl,h⟩
theorem Fg {x j pos}:PE X (.Constant (.str x) j pos) (tC (.str x)):=fun _ _ _ H _ I h=>Calls.Constant_str ⟨.str x,H,I.tok _,⟨_,rfl⟩,h⟩
def Gl (X:Cx) (x:Str):Prop:=X.env.kindOf x=some .globalImplicit
theorem kE {E:VS} {pins:Pn} {s:Shared} {σ:St} {H:Hp} {x:Str} {u:Value} {pos:Pos} {Q:VS} (I:Inv X pins σ H s) (hg:Gl X x) (hm:X.mg x=some u) (h:Q u s)
  (hd:autoParam ((x == ("__debug__":Str))=false) wP):wpAny (model X.prog X.w) X.A (eval (.Name x pos) X.env) Q E s:=
 Calls.Name_function_global I.ok.kind hg (Calls.loadGlobal_global (by rw[I.ok.glob];exact I.mod.glob.keeps I.bk) hm h) hd
theorem jZ {E:VS} {pins:Pn} {s:Shared} {σ:St} {H:Hp} {x:Str} {u:Value} {pos:Pos} {Q:VS} (I:Inv X pins σ H s) (hg:Gl X x) (hm:X.mg x=none) (hv:bootBuiltins x=some u) (h:Q u s)
  (hn:autoParam (x≠"__name__") wP) (hd:autoParam ((x == ("__debug__":Str))=false) wP):wpAny (model X.prog X.w) X.A (eval (.Name x pos) X.env) Q E s:=by
 obtain⟨mb,h1,h2⟩:=I.mod.blt;exact Calls.Name_function_global I.ok.kind hg (Calls.loadGlobal_builtin (by rw[I.ok.glob];exact I.mod.glob.keeps I.bk) hm (by rw[I.ok.blt];exact h1.keeps I.bk) ((h2 x hn).trans hv) h) hd
theorem rn {x:Str} {v:V} {u:Value} {pos:Pos} (hg:Gl X x) (hm:X.mg x=some u) (r:RelV v u) (hd:autoParam ((x == ("__debug__":Str))=false) wP):PE X (.Name x pos) (tC v):=
 fun _ _ _ H _ I h=>kE I hg hm ⟨v,H,I,r,h⟩ hd
theorem Ct {x:Str} {v:V} {u:Value} {pos:Pos} (hg:Gl X x) (hm:X.mg x=none) (hv:bootBuiltins x=some u) (r:RelV v u) (hn:autoParam (x≠"__name__") wP) (hd:autoParam ((x == ("__debug__":Str))=false) wP):PE X (.Name x pos) (tC v):=
 fun _ _ _ H _ I h=>jZ I hg hm hv ⟨v,H,I,r,h⟩ hn hd
variable {a b:Expr} {ta tb:TE} {pos:Pos}
def tB (t:TE):TT:=fun σ H Q=>t σ H fun x H1=>∃ c,x=.bl c/\Q c H1
theorem E7 {e:Expr} {t:TE} (h:PE X e t) (he:autoParam (∀ whole,isTrue e X.env whole=(do let v <- whole;standAt e.pos;holding [v] (truthy v))) wT):PT X e (tB t):=by
 intro pins s σ H Q I hw;refine isTrue_plain (thn (h pins s σ H _ I hw) fun v s1 Z=>?_) (he _);obtain⟨x,H1,I1,r1,q1⟩:=Z;obtain⟨d,rfl,q⟩:=q1;cases r1;exact wpAny_truthy_bool ⟨H1,I1,q⟩
variable {tA tB':TT} {rest:List Expr}
def EH (t u:TT):TT:=fun σ H Q=>t σ H fun c H1=>if c=true then u σ H1 Q else Q false H1
def tOr (t u:TT):TT:=fun σ H Q=>t σ H fun c H1=>if c=true then Q true H1 else u σ H1 Q
def EC (t:TT):TT:=fun σ H Q=>t σ H fun c H1=>Q (!c) H1
theorem Cd (ha:PT X a tA):PW X (.BoolOp .And [a] pos) tA:=by
 intro wh pins s σ H Q I h;refine isTrue_and (thn (ha pins s σ H Q I h) fun c s1 e=>?_);cases c with
 | true=>exact isTrue_and_nil e
 | false=>exact e
theorem E5 (ha:PT X a tA):PW X (.BoolOp .Or [a] pos) tA:=by
 intro wh pins s σ H Q I h;refine isTrue_or (thn (ha pins s σ H Q I h) fun c s1 e=>?_);cases c with
 | false=>exact isTrue_or_nil e
 | true=>exact e
theorem E6 (ha:PT X a tA) (hb:PW X (.BoolOp .And (b::rest) pos) tB'):PW X (.BoolOp .And (a::b::rest) pos) (EH tA tB'):=by
 intro wh pins s σ H Q I h;refine isTrue_and (thn (ha pins s σ H _ I h) fun c s1 Z=>?_);obtain⟨H1,I1,q1⟩:=Z;cases c with
 | true=>exact hb wh pins s1 σ H1 Q I1 q1
 | false=>exact⟨H1,I1,q1⟩
theorem HS (ha:PT X a tA) (hb:PW X (.BoolOp .Or (b::rest) pos) tB'):PW X (.BoolOp .Or (a::b::rest) pos) (tOr tA tB'):=by
 intro wh pins s σ H Q I h;refine isTrue_or (thn (ha pins s σ H _ I h) fun c s1 Z=>?_);obtain⟨H1,I1,q1⟩:=Z;cases c with
 | true=>exact⟨H1,I1,q1⟩
 | false=>exact hb wh pins s1 σ H1 Q I1 q1
theorem E8 (ha:PT X a tA):PT X (.UnaryOp .Not a pos) (EC tA):=by
 intro pins s σ H Q I h;exact isTrue_not (ha pins s σ H (fun c H1=>Q (!c) H1) I h)
def DF (ta tb:TE):TE:=fun σ H Q=>ta σ H fun x H1=>∃ c,x=.bl c/\if c=true then tb σ H1 Q else Q (.bl false) H1
def Hi (ta tb:TE):TE:=fun σ H Q=>ta σ H fun x H1=>∃ c,x=.bl c/\if c=true then Q (.bl true) H1 else tb σ H1 Q
def DE (ta:TE):TE:=fun σ H Q=>ta σ H fun x H1=>∃ c,x=.bl c/\Q (.bl (!c)) H1
theorem Fh {op} {t:TE} (h:PE X a t):PE X (.BoolOp op [a] pos) t:=fun pins s σ H Q I hw=>BoolOp_one (h pins s σ H Q I hw)
theorem Fp (ha:PE X a ta) (hb:PE X (.BoolOp .And (b::rest) pos) tb):PE X (.BoolOp .And (a::b::rest) pos) (DF ta tb):=by
 intro pins s σ H Q I h;refine BoolOp_and (thn (ha pins s σ H _ I h) fun v s1 Z=>?_);obtain⟨x,H1,I1,r1,q1⟩:=Z;obtain⟨c,rfl,q1⟩:=q1;cases r1;refine wpAny_truthy_bool ?_;cases c with
 | true=>exact hb pins s1 σ H1 Q I1 q1
 | false=>exact⟨.bl false,H1,I1,rfl,q1⟩
theorem HX (ha:PE X a ta) (hb:PE X (.BoolOp .Or (b::rest) pos) tb):PE X (.BoolOp .Or (a::b::rest) pos) (Hi ta tb):=by
 intro pins s σ H Q I h;refine BoolOp_or (thn (ha pins s σ H _ I h) fun v s1 Z=>?_);obtain⟨x,H1,I1,r1,q1⟩:=Z;obtain⟨c,rfl,q1⟩:=q1;cases r1;refine wpAny_truthy_bool ?_;cases c with
 | false=>exact hb pins s1 σ H1 Q I1 q1
 | true=>exact⟨.bl true,H1,I1,rfl,q1⟩
theorem Fj (ha:PE X a ta):PE X (.UnaryOp .Not a pos) (DE ta):=by
 intro pins s σ H Q I h;refine UnaryOp_ (thn (ha pins s σ H _ I h) fun v s1 Z=>?_);obtain⟨x,H1,I1,r1,q1⟩:=Z;obtain⟨c,rfl,q1⟩:=q1;cases r1;exact not_of (wpAny_truthy_bool ⟨.bl (!c),H1,I1,rfl,q1⟩)
def tIf (t:TT) (ta tb:TE):TE:=fun σ H Q=>t σ H fun c H1=>if c=true then ta σ H1 Q else tb σ H1 Q
theorem zQ {c:Expr} (hc:PT X c tA) (ha:PE X a ta) (hb:PE X b tb):PE X (.IfExp c a b pos) (tIf tA ta tb):=by
 intro pins s σ H Q I h;refine wpAny_IfExp (thn (hc pins s σ H _ I h) fun d s1 Z=>?_);obtain⟨H1,I1,q1⟩:=Z;cases d with
 | true=>exact ha pins s1 σ H1 Q I1 q1
 | false=>exact hb pins s1 σ H1 Q I1 q1
end
def SqL (K:Fg0) (H:Hp) (a:Addr) (xs:List V):Prop:=
 Rd H a (.lst xs)\/
  ∃ (o:Obj) (its:Array Value) (n:Nat),K.lookup a=some o/\o.cls=.type "list"/\o.dict=none/\o.data=.seq its n/\its.size<=sizeLine/\Vals xs its.toList
def SqT (K:Fg0) (H:Hp) (a:Addr) (xs:List V):Prop:=
 Rd H a (.tup xs)\/
  ∃ (o:Obj) (its:Array Value) (n:Nat),K.lookup a=some o/\o.cls=.type "tuple"/\o.data=.seq its n/\its.size<=sizeLine/\Vals xs its.toList
noncomputable def KN:Value->Option V
 | .none=>some .non
 | .bool b=>some (.bl b)
 | .int i _=>some (.int i)
 | .str x _=>some (.str x)
 | .bytes b _=>some (.byt b)
 | .float b _=>some (.flt b)
 | .ref a=>some (.ref a)
 | .type n=>some (.ty n)
 | _=>none
theorem RelV.abs {x:V} {u:Value} (r:RelV x u):KN u=some x:=by
 cases x with
 | non=>cases r;rfl
 | bl _=>cases r;rfl
 | int _=>obtain⟨t,rfl⟩:=r;rfl
 | str _=>obtain⟨t,rfl⟩:=r;rfl
 | byt _=>obtain⟨t,rfl⟩:=r;rfl
 | flt _=>obtain⟨t,rfl⟩:=r;rfl
 | ref _=>cases r;rfl
 | ty _=>cases r;rfl
theorem RelV.inj {x y:V} {u:Value} (r:RelV x u) (q:RelV y u):x=y:=Option.some.inj (r.abs.symm.trans q.abs)
theorem Vals.inj:∀ {xs ys:List V} {us:Lv},Vals xs us->Vals ys us->xs=ys
 | _,_,_,.nil,.nil=>rfl
 | _,_,_,.cons r t,.cons r' t'=>by rw[r.inj r',Vals.inj t t']
section
variable {X:Cx} {pins:Pn} {σ:St} {H:Hp} {s:Shared} {a:Addr} {xs ys:List V}
theorem SqL.of {K:Fg0} (h:H a=some (.lst xs)):SqL K H a xs:=.inl (.inl h)
theorem Inv.list (I:Inv X pins σ H s) (h:SqL X.K H a xs):∃ its:Lv,Vals xs its/\PlainL s.heap a its.toArray/\xs.length<=sizeLine:=by
 rcases h with h | ⟨o,its,n,hk,hc,hd,hs,hz,r⟩
 ·obtain⟨z,its,n,r,e⟩:=h.ok I.hok;exact⟨its,r,⟨_,n,e,rfl,rfl,rfl⟩,z⟩
 ·refine⟨its.toList,r,⟨o,n,I.kIn a o hk,hc,hd,by simpa using hs⟩,?_⟩;have e:=r.length;simp only[Array.length_toList] at e;lia
theorem Inv.tuple (I:Inv X pins σ H s) (h:SqT X.K H a xs):∃ its:Lv,Vals xs its/\IsTup s.heap a its.toArray/\xs.length<=sizeLine:=by
 rcases h with h | ⟨o,its,n,hk,hc,hs,hz,r⟩
 ·obtain⟨z,its,r,p⟩:=h.ok I.hok;exact⟨its,r,p,z⟩
 ·refine⟨its.toList,r,⟨o,I.kIn a o hk,hc,n,by simpa using hs⟩,?_⟩;have e:=r.length;simp only[Array.length_toList] at e;lia
theorem Inv.tU (I:Inv X pins σ H s) (h:SqL X.K H a xs) (h':SqL X.K H a ys):xs=ys:=by
 obtain⟨its,r,⟨o,n,e,_,_,d⟩,_⟩:=I.list h;obtain⟨its',r',⟨o',n',e',_,_,d'⟩,_⟩:=I.list h';rw[e] at e';cases e';rw[d] at d';injection d' with d1 _
 have:its=its':=by simpa using congrArg Array.toList d1
 subst this;exact r.inj r'
end
noncomputable abbrev Cx.ph (X:Cx) (E:VS):Cx:={ X with xe:=E }
noncomputable abbrev Cx.nox (X:Cx):Cx:=X.ph fun _ _=>False
theorem Cx.Ok.ph {X:Cx} (ok:X.Ok) (E:VS):(X.ph E).Ok:=
 ⟨ok.mod,ok.kind,ok.glob,ok.blt,ok.above,ok.inj,ok.has,ok.cab,ok.hd,ok.frames,ok.stk,ok.exf,ok.bs,ok.bsz,ok.noex,ok.exfs,ok.l8,ok.frf,ok.tb⟩
theorem Cx.Ok.h9 {X:Cx} {E:VS} (ok:(X.ph E).Ok):X.Ok:=
 ⟨ok.mod,ok.kind,ok.glob,ok.blt,ok.above,ok.inj,ok.has,ok.cab,ok.hd,ok.frames,ok.stk,ok.exf,ok.bs,ok.bsz,ok.noex,ok.exfs,ok.l8,ok.frf,ok.tb⟩
section
variable {X:Cx} {pins:Pn} {σ:St} {H:Hp} {s:Shared} {E:VS}
theorem Inv.ph (I:Inv X pins σ H s) (E:VS):Inv (X.ph E) pins σ H s:=⟨I.ok.ph E,I.os,I.bare,I.base,I.loc,I.cell,I.free,I.freeC,I.pin,I.hok,I.len⟩
theorem Inv.h9 (I:Inv (X.ph E) pins σ H s):Inv X pins σ H s:=⟨I.ok.h9,I.os,I.bare,I.base,I.loc,I.cell,I.free,I.freeC,I.pin,I.hok,I.len⟩
theorem SP.h9 {D:Ends} {f:Flow} {s':Shared} (h:SP (X.ph E) pins D f s'):SP X pins D f s':=by
 cases f with
 | next=>obtain⟨σ',H',I,q⟩:=h;exact⟨σ',H',I.h9,q⟩
 | brk=>obtain⟨σ',H',I,q⟩:=h;exact⟨σ',H',I.h9,q⟩
 | cont=>obtain⟨σ',H',I,q⟩:=h;exact⟨σ',H',I.h9,q⟩
 | ret u=>obtain⟨v,σ',H',I,r,q⟩:=h;exact⟨v,σ',H',I.h9,r,q⟩
theorem PSs.nox {st:List Stmt} {t:TS} (h:PSs X.nox st t):PSs X st t:=fun pins s σ H D I hw=>
 wpAny_mono (h pins s σ H D (I.ph _) hw) (fun _ _ q=>q.h9) fun _ _ z=>False.elim z
end
section
variable {X:Cx} {st:Stmt} {rest:List Stmt} {t u:TS} {e:Expr} {te:TE} {pos:Pos}
def y3:TS:=fun D σ H=>D.nx σ H
def yZ (t u:TS):TS:=fun D σ H=>t { D with nx:=u D } σ H
theorem wJ:PSs X [] y3:=fun _ _ σ H _ I h=>wpAny_execs_nil ⟨σ,H,I,h⟩
theorem km (h1:PS X st t) (h2:PSs X rest u):PSs X (st::rest) (yZ t u):=by
 intro pins s σ H D I h;refine wpAny_execs_cons (thn (h1 pins s σ H { D with nx:=u D } I h) fun f s1 q=>?_);cases f with
 | next=>
  obtain⟨σ',H',I',q⟩:=q;exact h2 pins s1 σ' H' D I' q
 | ret v=>exact q
 | brk=>exact q
 | cont=>exact q
theorem qZ (h1:PS X st t):PSs X [st] t:=by
 intro pins s σ H D I h;refine wpAny_execs_cons (thn (h1 pins s σ H D I h) fun f s1 q=>?_);cases f with
 | next=>exact wpAny_execs_nil q
 | ret v=>exact q
 | brk=>exact q
 | cont=>exact q
theorem Inv.quiet {pins:Pn} {σ:St} {H:Hp} {s:Shared} (I:Inv X pins σ H s):interactive X.env=false:=by simp [interactive,I.ok.kind]
def sM (te:TE):TS:=fun D σ H=>te σ H fun _ H1=>D.nx σ H1
theorem wK (he:PE X e te) (hs:autoParam (swapsWith e none pos.line X.env=pure false) wE):PS X (.Expr e pos) (sM te):=by
 intro pins s σ H D I h;exact wpAny_Expr_any (thn (he pins s σ H _ I h) fun v s1 ⟨x,H1,I1,r1,q1⟩=>⟨σ,H1,I1,q1⟩) I.quiet hs
def EB (te:TE):TS:=fun D σ H=>te σ H D.rt
theorem zH (he:PE X e te):PS X (.Return (some e) pos) (EB te):=by
 intro pins s σ H D I h;exact wpAny_Return_some (thn (he pins s σ H _ I h) fun v s1 ⟨x,H1,I1,r1,q1⟩=>⟨x,σ,H1,I1,r1,q1⟩)
def ED (c:TT) (t u:TS):TS:=fun D σ H=>c σ H fun b H1=>if b=true then t D σ H1 else u D σ H1
theorem DO {c:Expr} {a b:List Stmt} {tc:TT} (hc:PT X c tc) (ha:PSs X a t) (hb:PSs X b u):PS X (.If c a b pos) (ED tc t u):=by
 intro pins s σ H D I h;refine wpAny_If (thn (hc pins s σ H _ I h) fun d s1 Z=>?_);obtain⟨H1,I1,q1⟩:=Z;cases d with
 | true=>exact ha pins s1 σ H1 D I1 q1
 | false=>exact hb pins s1 σ H1 D I1 q1
def y4:TS:=fun _ _ _=>False
theorem zI:PS X st y4:=fun _ _ _ _ _ _ h=>h.elim
end
abbrev TG:=V->St->Hp->(St->Hp->Prop)->Prop
abbrev TGs:=List V->St->Hp->(St->Hp->Prop)->Prop
def PG (X:Cx) (target:Expr) (t:TG):Prop:=
 ∀ (pins:Pn) (s:Shared) (σ:St) (H:Hp) (v:V) (u:Value) (Q:St->Hp->Prop),Inv X pins σ H s->RelV v u->t v σ H Q->
  wpAny (model X.prog X.w) X.A (assign target X.env u) (fun _ s'=>∃ σ' H',Inv X pins σ' H' s'/\Q σ' H') X.xe s
def PGs (X:Cx) (ts:List Expr) (t:TGs):Prop:=
 ∀ (pins:Pn) (s:Shared) (σ:St) (H:Hp) (vs:List V) (us:Lv) (Q:St->Hp->Prop),Inv X pins σ H s->Vals vs us->t vs σ H Q->
  wpAny (model X.prog X.w) X.A (assignInOrder ((assignEach ts X.env).map (·.2)) us) (fun _ s'=>∃ σ' H',Inv X pins σ' H' s'/\Q σ' H') X.xe s
abbrev G3:=V->V->V->Hp->(Hp->Prop)->Prop
def JI (X:Cx) (t:G3):Prop:=
 ∀ (pins:Pn) (s:Shared) (σ:St) (H:Hp) (o i v:V) (ov iv u:Value) (Q:Hp->Prop),Inv X pins σ H s->RelV o ov->RelV i iv->RelV v u->t o i v H Q->
  wpAny (model X.prog X.w) X.A (setItem ov iv u) (fun _ s'=>∃ H',Inv X pins σ H' s'/\Q H') X.xe s
section
variable {X:Cx} {pos:Pos}
def cS (i:Nat):TG:=fun v σ H Q=>Q (σ.set i (some v)) H
theorem ay {i:Nat} {x:Str} (hN:X.N.Nodup) (hi:X.N[i]?=some x) (hx:Loc X.env.scope x) (hf:X.fn x=true\/X.env.scope.names.lookup x=some .local:=by first | exact .inl rfl | exact .inr rfl | assumption):PG X (.Name x pos) (cS i):=by
 intro pins s σ H v u Q I r h;exact wpAny_assign_Name (sO I hN hi hx r (fun s' I'=>⟨_,H,I',h⟩) hf)
def GF:TGs:=fun vs σ H Q=>vs=[]/\Q σ H
def xi (t:TG) (u:TGs):TGs:=fun vs σ H Q=>∃ v r,vs=v::r/\t v σ H fun σ' H'=>u r σ' H' Q
theorem aV:PGs X [] GF:=by
 intro pins s σ H vs us Q I r h;obtain⟨e,h⟩:=h;subst e;cases r;exact assignInOrder_nil ⟨σ,H,I,h⟩
theorem aq {e:Expr} {es:List Expr} {t:TG} {u:TGs} (h1:PG X e t) (h2:PGs X es u)
  (hs:autoParam ((assignEach (e::es) X.env).map (·.2)=assign e X.env::(assignEach es X.env).map (·.2)) wE):PGs X (e::es) (xi t u):=by
 intro pins s σ H vs us Q I r h;obtain⟨v,vr,e1,h⟩:=h;subst e1;cases r with
 | cons r rr=>
  rw[hs];refine assignInOrder_cons (thn (h1 pins s σ H _ _ _ I r h) fun _ s1 Z=>?_);obtain⟨σ1,H1,I1,q1⟩:=Z;exact h2 pins s1 σ1 H1 _ _ Q I1 rr q1
def AH (K:Fg0) (n:Nat) (t:TGs):TG:=fun v σ H Q=>∃ a xs,v=.ref a/\SqT K H a xs/\xs.length=n/\t xs σ H Q
theorem rj {es:List Expr} {k:Nat} {t:TGs} {n:Nat} (hc:X.calm=true) (h:PGs X es t)
  (hn:autoParam ((assignEach es X.env).length=n) wE) (hst:autoParam ((assignEach es X.env).findIdx? (·.1)=none) wE):PG X (.Tuple es k pos) (AH X.K n t):=by
 intro pins s σ H v u Q I r hw;obtain⟨a,xs,e1,hq,hl,hw⟩:=hw;subst e1;cases r;obtain⟨its,rv,ht,hz⟩:=I.tuple hq;refine assign_Tuple_tuple (I.ok.hd hc) ht (by simp [hn,<- hl,rv.length]) hst fun h' hx=>?_;have I1:Inv X pins σ H { s with heap:=h' }:=I.kept (t':=s.toks) fun b o e=>hx b o (Nat.ne_of_lt (Heap.lt_size e)) e;exact h pins _ σ H xs _ Q I1 (by simpa using rv) hw
def yC (to ti:TE) (t:G3):TG:=fun v σ H Q=>to σ H fun o H1=>ti σ H1 fun i H2=>t o i v H2 fun H3=>Q σ H3
theorem zO {o i:Expr} {to ti:TE} {t:G3} (ho:PE X o to) (hi:PE X i ti) (hs:JI X t)
  (ha:∀ v,assign (.Subscript o i pos) X.env v=(do
   let ov <- holding [v] (eval o X.env)
   let iv <- holding [v,ov] (eval i X.env)
   standAt pos
   holding [v,ov,iv] (setItem ov iv v)
   release [v,ov,iv] []):=by intro _;rfl):PG X (.Subscript o i pos) (yC to ti t):=by
 intro pins s σ H v u Q I r h;rw[ha];refine wpAny_bind (wpAny_holding (thn (ho pins s σ H _ I h) fun ov s1 Z=>?_));obtain⟨x,H1,I1,r1,q1⟩:=Z;refine wpAny_bind (wpAny_holding (thn (hi pins s1 σ H1 _ I1 q1) fun iv s2 Z=>?_));obtain⟨y,H2,I2,r2,q2⟩:=Z;refine wpAny_bind (wpAny_standAt (wpAny_bind (wpAny_holding (thn (hs pins s2 σ H2 x y v ov iv u _ I2 r1 r2 r q2) fun _ s3 Z=>?_))));obtain⟨H3,I3,q3⟩:=Z;exact wpAny_release ⟨σ,H3,I3,q3⟩
def eZ (te:TE) (g:TG):TS:=fun D σ H=>te σ H fun x H1=>g x σ H1 D.nx
theorem q8 {tg e:Expr} {te:TE} {g:TG} (he:PE X e te) (hg:PG X tg g) (hs:autoParam (swapsWithSole [tg] e pos.line X.env=pure false) wE) (hw:autoParam (swappedStores [tg] e X.env=pure none) wE)
  (h1:autoParam ((assignEach [tg] X.env).map (·.2)=[assign tg X.env]) wE):PS X (.Assign [tg] e pos) (eZ te g):=by
 intro pins s σ H D I h;refine wpAny_Assign_stores (thn (he pins s σ H _ I h) fun v s1 Z=>?_) hs hw;obtain⟨x,H1,I1,r1,q1⟩:=Z;rw[h1];exact thn (hg pins s1 σ H1 x v _ I1 r1 q1) fun _ s2 q=>q
theorem E9 {i:Nat} {x:Str} {e:Expr} {te:TE} {pos':Pos} (hN:X.N.Nodup) (hi:X.N[i]?=some x) (hx:Loc X.env.scope x) (he:PE X e te) (hs:autoParam (swapsWith e (some (.Name x pos')) pos.line X.env=pure false) wE) (hf:X.fn x=true\/X.env.scope.names.lookup x=some .local:=by first | exact .inl rfl | exact .inr rfl | assumption) :
  PS X (.Assign [.Name x pos'] e pos) (eZ te (cS i)):=by
 intro pins s σ H D I h;refine wpAny_Assign_Name (thn (he pins s σ H _ I h) fun v s1 Z=>?_) hs;obtain⟨y,H1,I1,r1,q1⟩:=Z;exact sO I1 hN hi hx r1 (fun s2 I2=>⟨_,H1,I2,q1⟩) hf
end
set_option genInjectivity false in
structure It where
 go:Nat->Hp->Prop
 yld:Nat->Hp->V->Hp->Prop
 stop:Nat->Hp->Prop
def fN (X:Cx) (pins:Pn) (H:Hp) (b:Addr):Prop:=
 H b=none/\b≠X.env.locals/\b∉X.fs/\(b∈X.ex\/X.s₀.heap.objs.size<=b)/\(∀ x c,X.env.cells.lookup x=some c->c≠b)/\∀ p∈X.pn++pins,p.1≠b
theorem Inv.pP {X:Cx} {pins:Pn} {σ:St} {H H':Hp} {s:Shared} {b:Addr} (I:Inv X pins σ H s) (hb:s.heap.objs.size<=b) (hn:H' b=none):fN X pins H' b:=by
 refine⟨hn,Nat.ne_of_gt (Nat.lt_of_lt_of_le I.lt hb),I.J3 hb,.inr (Nat.le_trans I.sz hb),fun x c e z=>?_,fun p hp z=>?_⟩
 ·obtain⟨v,q⟩:=I.cell x c e;exact absurd (Nat.lt_of_lt_of_le q.lt (by rw[z];exact hb)) (Nat.lt_irrefl _)
 ·exact absurd (Nat.lt_of_lt_of_le (Heap.lt_size (I.pin p hp).1) (by rw[z];exact hb)) (Nat.lt_irrefl _)
structure Turn (P:Program) (w:World) (K:Fg0) (tg:Expr) (J:It) (fp:La0) (it:Addr) (tn:Nat->Heap->Prop):Prop where
 mem:it∈fp
 obj:∀ i h,tn i h->∀ b∈fp,∃ o,h.get? b=some o/\∀ v,o.data≠.cell v
 keep:∀ i h h',tn i h->(∀ b∈fp,∀ o,h.get? b=some o->h'.get? b=some o)->tn i h'
 item:∀ (X:Cx),X.prog=P->X.w=w->X.K=K->X.calm=true->∀ (i:Nat) (pins:Pn) (s:Shared) (σ:St) (H:Hp) (E:VS),Inv X pins σ H s->(∀ b∈fp,fN X pins H b)->tn i s.heap->J.go i H->
  wpAny (model P w) X.A (pyNext (.ref it)) (fun r s1=>∃ u,r=some u/\
   wpAny (model P w) X.A (letOwnedTupleGo tg (.ref it) u) (fun _ s2=>∃ x H',Inv X pins σ H' s2/\RelV x u/\J.yld i H x H'/\tn (i + 1) s2.heap/\∀ b∈fp,H' b=none) E s1) E s
 done:∀ (X:Cx),X.prog=P->X.w=w->X.K=K->X.calm=true->∀ (i:Nat) (pins:Pn) (s:Shared) (σ:St) (H:Hp) (E:VS),Inv X pins σ H s->(∀ b∈fp,fN X pins H b)->tn i s.heap->J.stop i H->
  wpAny (model P w) X.A (pyNext (.ref it)) (fun r s1=>r=none/\Inv X pins σ H s1) E s
 self:∀ (A:Around) (i:Nat) (s:Shared) (Q:VS) (E:VS),tn i s.heap->Q (.ref it) s->wpAny (model P w) A (pyIter (.ref it)) Q E s
abbrev TI:=St->Hp->(It->Hp->Prop)->Prop
def PIE (X:Cx) (pins:Pn) (σ:St) (tg:Expr) (R:It->Hp->Prop) (itv:Value) (s2:Shared):Prop:=
 ∃ (it:Addr) (fp:La0) (tn:Nat->Heap->Prop) (J:It) (H':Hp),itv=.ref it/\Inv X pins σ H' s2/\Turn X.prog X.w X.K tg J fp it tn/\tn 0 s2.heap/\(∀ b∈fp,fN X pins H' b)/\R J H'
def PI (X:Cx) (tg iter:Expr) (wi:TI):Prop:=
 ∀ (pins:Pn) (s:Shared) (σ:St) (H:Hp) (R:It->Hp->Prop),Inv X pins σ H s->wi σ H R->
  wpAny (model X.prog X.w) X.A (eval iter X.env) (fun v s1=>wpAny (model X.prog X.w) X.A (pyIter v) (PIE X pins σ tg R) X.xe s1) X.xe s
theorem uc {M:Model} {A:Around} {E:VS} {s:Shared} {tg:Expr} {it:Addr} {u:Value} {o:Obj} {n:String} {vs:Array Value} {Q:Unit->Shared->Prop} (ho:s.heap.get? it=some o) (hc:o.cls=.type n) (hd:o.data=.fields vs)
  (hn:["enumerate","zip","dict_itemiterator","dict_reverseitemiterator","odict_iterator","itertools.zip_longest","itertools.pairwise"].contains n=false) (hQ:Q () s):wpAny M A (letOwnedTupleGo tg (.ref it) u) Q E s:=by
 unfold letOwnedTupleGo;cases tg <;> first
  | exact wpAny_pure hQ
  | (cases u <;> first
    | exact wpAny_pure hQ
    | (refine wpAny_bind (wpAny_load ho ?_);rw[hc,hd];show wpAny M A (if (["enumerate","zip","dict_itemiterator","dict_reverseitemiterator","odict_iterator","itertools.zip_longest","itertools.pairwise"].contains n && vs[0]? == some (rawInt _))=true then _ else _) Q E s;rw[if_neg (by intro h;rw[hn,Bool.false_and] at h;cases h)];exact wpAny_pure hQ))
noncomputable def Itl (K:Fg0) (a:Addr):It:=
 ⟨fun i H=>∃ xs x,SqL K H a xs/\xs[i]?=some x,fun i H x H'=>H'=H/\∀ xs,SqL K H a xs->xs[i]?=some x,fun i H=>∃ xs,SqL K H a xs/\xs.length<=i⟩
noncomputable def Itr (lo:Int) (n:Nat):It:=⟨fun i _=>i < n,fun i H x H'=>H'=H/\x=.int (lo + i),fun i _=>n<=i⟩
theorem xR {P:Program} {w:World} {K:Fg0} {tg:Expr} (a it:Addr):Turn P w K tg (Itl K a) [it] it (fun i h=>h.IsListIter it a i) where
 mem:=by simp
 obj:=fun i h st b hb=>by
  have e:b=it:=by simpa using hb
  subst e;obtain⟨o,e,c,d⟩:=st;exact⟨o,e,fun v z=>by rw[d] at z;cases z⟩
 keep:=fun i h h' st k=>st.at fun o e=>k it (by simp) o e
 item:=by
  intro X hP hw hK hc i pins s σ H E I hf st hg;subst hP hw hK;obtain⟨xs,x,hq,hx⟩:=hg;obtain⟨its,rv,p,hz⟩:=I.list hq;obtain⟨u,hu,ru⟩:=rv.get hx;obtain⟨f0,f1,f2,f3,f4,f5⟩:=hf it (by simp);refine wpAny_pyNext_list_item st p.isList (x:=u) (by simpa using hu) fun h' st' sb=>?_;have I1:Inv X pins σ H { s with heap:=h' }:=I.turned (t':=s.toks) (fun b o hb e=>(sb.2 b hb).trans e) f0 f1 f3 f4 f5;obtain⟨o,e,c,d⟩:=id st';exact⟨u,rfl,uc (s:={ s with heap:=h' }) e c d (by decide) ⟨x,H,I1,ru,⟨rfl,fun ys hy=>by rw[I.tU hy hq];exact hx⟩,st',fun b hb=>(hf b hb).1⟩⟩
 done:=by
  intro X hP hw hK hc i pins s σ H E I hf st hg;subst hP hw hK;obtain⟨xs,hq,hx⟩:=hg;obtain⟨its,rv,p,hz⟩:=I.list hq;obtain⟨f0,f1,f2,f3,f4,f5⟩:=hf it (by simp);have hl:=rv.length;exact wpAny_pyNext_list_end (I.ok.hd hc) st p.isList (by simp;lia) fun h' eb=>⟨rfl,I.turned (t':=s.toks) (fun b o hb e=>eb b o hb e) f0 f1 f3 f4 f5⟩
 self:=fun _ _ _ _ _ st h=>wpAny_pyIter_listiter st h
theorem uL {P:Program} {w:World} {K:Fg0} {tg:Expr} (it:Addr) (lo:Int) (n:Nat):Turn P w K tg (Itr lo n) [it] it (fun i h=>IsRangeIter h it (lo + (i:Nat) * 1) ((n:Int) - (i:Nat)) 1) where
 mem:=by simp
 obj:=fun i h st b hb=>by
  have e:b=it:=by simpa using hb
  subst e;exact⟨_,st,fun v z=>by
   have z':Data.fields _=Data.cell v:=z;cases z'⟩
 keep:=fun i h h' st k=>k it (by simp) _ st
 item:=by
  intro X hP hw hK hc i pins s σ H E I hf st hg;subst hP hw hK;obtain⟨f0,f1,f2,f3,f4,f5⟩:=hf it (by simp);have W:=Walks.range (prog:=X.prog) (w:=X.w) (I.ok.hd hc) it lo 1 n;refine W.item i s _ _ hg st fun v h' tk hv st' kk=>?_;obtain⟨t,rfl⟩:=hv;have I1:Inv X pins σ H { s with heap:=h',toks:=tk }:=I.turned (fun b o hb e=>kk b o (by simpa using hb) e) f0 f1 f3 f4 f5;refine⟨_,rfl,uc (s:={ s with heap:=h',toks:=tk }) (n:="range_iterator") st' rfl rfl (by decide) ⟨.int (lo + i),H,I1,⟨t,?_⟩,⟨rfl,rfl⟩,st',fun b hb=>(hf b hb).1⟩⟩;rw[Int.mul_one]
 done:=by
  intro X hP hw hK hc i pins s σ H E I hf st hg;subst hP hw hK;obtain⟨f0,f1,f2,f3,f4,f5⟩:=hf it (by simp);exact wpAny_pyNext_range_end (I.ok.hd hc) st (by have:n<=i:=hg;lia) fun h' eb=>⟨rfl,I.turned (t':=s.toks) (fun b o hb e=>eb b o hb e) f0 f1 f3 f4 f5⟩
 self:=fun _ _ _ _ _ st h=>wpAny_pyIter_rangeiter st h
section
variable {X:Cx} {tg:Expr}
def D7 (K:Fg0) (tl:TE):TI:=fun σ H R=>tl σ H fun x H1=>∃ a,x=.ref a/\(∃ xs,SqL K H1 a xs)/\R (Itl K a) H1
theorem Co {l:Expr} {tl:TE} (hl:PE X l tl):PI X tg l (D7 X.K tl):=by
 intro pins s σ H R I h;refine thn (hl pins s σ H _ I h) fun v s1 Z=>?_;obtain⟨x,H1,I1,r1,q1⟩:=Z;obtain⟨a,e,⟨xs,hq⟩,q⟩:=q1;subst e;cases r1;obtain⟨its,rv,p,hz⟩:=I1.list hq;refine wpAny_pyIter_list p.isList ?_;refine⟨s1.heap.objs.size,[s1.heap.objs.size],_,_,H1,rfl,I1.kept (t':=s1.toks) fun b o e=>Heap.get?_push_of_some _ e,xR a _,⟨_,Heap.get?_push_size _ rfl,rfl,rfl⟩,fun b hb=>?_,q⟩;have e:b=s1.heap.objs.size:=by simpa using hb
 subst e;exact I1.pP (Nat.le_refl _) (I1.hok.fresh (Nat.le_refl _))
theorem zC {pins:Pn} {σ:St} {H:Hp} {s:Shared} {R:It->Hp->Prop} {E:VS} {lo hi:Int} {t u v:Tok} {tk:Nat} (I:Inv X pins σ H s) (h1:-(2 ^ 62)<=lo) (h2:lo < 2 ^ 62) (h3:-(2 ^ 62)<=hi) (h4:hi < 2 ^ 62)
  (q:R (Itr lo (hi - lo).toNat) H):wpAny (model X.prog X.w) X.A (pyIter (.ref s.heap.objs.size)) (PIE X pins σ tg R) E { s with heap:=s.heap.push { cls:=.type "range",data:=.fields #[.int lo t,.int hi u,.int 1 v] },toks:=tk }:=by
 refine wpAny_pyIter_range (IsRange.new ..) (small_one h1 h2 h3 h4) ?_;have I1:Inv X pins σ H { s with heap:=s.heap.push { cls:=.type "range",data:=.fields #[.int lo t,.int hi u,.int 1 v] },toks:=tk }:=I.kept fun b o e=>Heap.get?_push_of_some _ e;refine⟨(s.heap.push { cls:=.type "range",data:=.fields #[.int lo t,.int hi u,.int 1 v] }).objs.size,[(s.heap.push { cls:=.type "range",data:=.fields #[.int lo t,.int hi u,.int 1 v] }).objs.size],_,_,H,rfl,
  I1.kept (t':=tk) fun b o e=>Heap.get?_push_of_some _ e,uL _ lo (hi - lo).toNat,?_,fun b hb=>?_,q⟩
 ·have e1:lo + ((0:Nat):Int) * 1=lo:=by simp
  have e2:(((hi - lo).toNat:Nat):Int) - ((0:Nat):Int)=Builtin.Range.rangeSize lo hi 1:=by rw[rangeSize_one];split <;> lia
  show IsRangeIter _ _ (lo + ((0:Nat):Int) * 1) ((((hi - lo).toNat:Nat):Int) - ((0:Nat):Int)) 1;rw[e1,e2];exact Heap.get?_push_size _ rfl
 ·have e:b=(s.heap.push { cls:=.type "range",data:=.fields #[.int lo t,.int hi u,.int 1 v] }).objs.size:=by simpa using hb
  subst e;exact I1.pP (Nat.le_refl _) (I1.hok.fresh (Nat.le_refl _))
def D5 (ta:TA):TI:=fun σ H R=>ta σ H fun vs H1=>∃ j:Int,vs=[.int j]/\-(2 ^ 62)<=j/\j < 2 ^ 62/\R (Itr 0 j.toNat) H1
theorem ya {a:Expr} {ta:TA} {p pos:Pos} (hg:Gl X "range") (hm:X.mg "range"=none) (ha:PA X [a] ta) (hs:autoParam (starEach [a] X.env=[(false,eval a X.env)]) wE):PI X tg (.Call (.Name "range" p) [a] [] pos) (D5 ta):=by
 intro pins s σ H R I h;refine Call_ (jZ I hg hm boot_range (PyProof.Rows.callWith_type1 (thn (ha pos pins s σ H _ I h) fun us s1 Z=>?_) hs rfl));obtain⟨vs,H1,I1,r1,q1⟩:=Z;obtain⟨j,e,q1,q2,q⟩:=q1;subst e;cases r1 with
 | cons r rr=>
  cases rr;obtain⟨t,rfl⟩:=r;exact call_range_1 (zC I1 (by lia) (by lia) q1 q2 (by simpa using q))
def EF (wi:TI) (g:TG) (tb:TS):TS:=fun D σ H=>wi σ H fun J H1=>∃ W:Nat->Nat->St->Hp->Prop,(∃ m,W 0 m σ H1)/\∀ i m σ H,W i m σ H->
 (J.stop i H/\D.nx σ H)\/(J.go i H/\∃ N:St->Hp->Prop,(∀ σ' H',N σ' H'->∃ m',m' < m/\W (i + 1) m' σ' H')/\∀ x H',J.yld i H x H'->g x σ H' fun σ2 H2=>tb { D with nx:=N,ct:=N,bk:=D.nx } σ2 H2)
noncomputable def nX (fp:La0) (h:Heap):Pn:=fp.filterMap fun b=>(h.get? b).map fun o=>(b,o)
theorem dz {fp:La0} {h:Heap} {b:Addr} {o:Obj} (hb:b∈fp) (e:h.get? b=some o):(b,o)∈nX fp h:=List.mem_filterMap.mpr ⟨b,hb,by rw[e];rfl⟩
theorem qa {fp:La0} {h:Heap} {p:Addr×Obj} (hp:p∈nX fp h):p.1∈fp/\h.get? p.1=some p.2:=by
 obtain⟨b,hb,e⟩:=List.mem_filterMap.mp hp;cases q:h.get? b with
 | none=>rw[q] at e;cases e
 | some o=>
  rw[q] at e;have e':(b,o)=p:=Option.some.inj e;subst e';exact⟨hb,q⟩
theorem Inv.pinned {pins:Pn} {σ:St} {H:Hp} {s:Shared} {fp:La0} (I:Inv X pins σ H s) (hf:∀ b∈fp,fN X pins H b) (ho:∀ b∈fp,∃ o,s.heap.get? b=some o/\∀ v,o.data≠.cell v):Inv X (pins++nX fp s.heap) σ H s:=
 I.gP fun p hp=>(List.mem_append.mp hp).elim (fun z=>I.pin p (List.mem_append_right _ z)) fun z=>by
  obtain⟨hb,e⟩:=qa z;obtain⟨f0,f1,f2,_⟩:=hf p.1 hb;obtain⟨o,e',d⟩:=ho p.1 hb;rw[e] at e';cases e';exact⟨e,f0,f1,f2,d⟩
theorem Inv.nE {pins pl:Pn} {σ:St} {H:Hp} {s:Shared} (I:Inv X (pins++pl) σ H s):Inv X pins σ H s:=I.gP fun p hp=>I.pin p (List.mem_append_right _ (List.mem_append_left _ hp))
theorem zJ {iter:Expr} {body:List Stmt} {wi:TI} {g:TG} {tb:TS} {pos:Pos} (hp:PassesOwn (model X.prog X.w) X.A X.env X.xe) (hc:X.calm=true) (hi:PI X tg iter wi) (hg:PG X tg g) (hb:PSs X body tb)
  (hs:autoParam (∀ x,foldedSetIterable iter X.env x=pure x) wT):PS X (.For tg iter body [] pos) (EF wi g tb):=by
 intro pins s σ H D I h;refine wpAny_For (thn (hi pins s σ H _ I h) fun v s1 h1=>thn h1 fun itv s2 h2=>?_) hs;obtain⟨it,fp,tn,J,H2,e,I2,T,st2,f2,W,⟨m0,w0⟩,turn⟩:=h2;subst e;have stat:∀ {H':Hp},(∀ b∈fp,H' b=none)->∀ b∈fp,fN X pins H' b:=fun hn b hb=>⟨hn b hb,(f2 b hb).2⟩;refine codeAny_forLoop_any (fun n s'=>∃ i σ' H',Inv X pins σ' H' s'/\tn i s'.heap/\(∀ b∈fp,H' b=none)/\W i n σ' H') ?_ m0 ⟨0,σ,H2,I2,st2,fun b hb=>(f2 b hb).1,w0⟩;rintro n s3 ⟨i,σ3,H3,I3,st3,fr3,w3⟩;rcases turn i n σ3 H3 w3 with ⟨stop,qn⟩ | ⟨go,N,hN,step⟩
 ·refine wpAny_passesOwn hp (thn (T.done X rfl rfl rfl hc i pins s3 σ3 H3 X.xe I3 (stat fr3) st3 stop) fun r s4 Z=>?_);obtain⟨hr,I4⟩:=Z;subst hr;exact wpAny_execs_nil ⟨σ3,H3,I4,qn⟩
 ·refine wpAny_passesOwn hp (thn (T.item X rfl rfl rfl hc i pins s3 σ3 H3 X.xe I3 (stat fr3) st3 go) fun r s4 Z=>?_);obtain⟨u,hr,h4⟩:=Z;subst hr;refine wpAny_passesOwn hp (thn h4 fun _ s5 Z=>?_);obtain⟨x,H5,I5,r5,y5,st5,fr5⟩:=Z;have I5':=I5.pinned (stat fr5) (T.obj _ _ st5);refine wpAny_passesOwn hp (thn (hg _ s5 σ3 H5 x u _ I5' r5 (step x H5 y5)) fun _ s6 Z=>?_);obtain⟨σ6,H6,I6,q6⟩:=Z;refine wpAny_passesOwn hp (thn (hb _ s6 σ6 H6 _ I6 q6) fun f s7 q7=>?_);have again:∀ {σ7:St} {H7:Hp},Inv X (pins++nX fp s5.heap) σ7 H7 s7->N σ7 H7->∃ m,m < n/\∃ i σ' H',Inv X pins σ' H' s7/\tn i s7.heap/\(∀ b∈fp,H' b=none)/\W i m σ' H':=fun {σ7 H7} I7 n7=>by
   obtain⟨m',hm,w7⟩:=hN σ7 H7 n7;refine⟨m',hm,i + 1,σ7,H7,I7.nE,T.keep _ _ _ st5 fun b hb o e=>(I7.pin (b,o) (List.mem_append_right _ (List.mem_append_right _ (dz hb e)))).1,fun b hb=>?_,w7⟩;obtain⟨o,e,d⟩:=T.obj _ _ st5 b hb;exact(I7.pin (b,o) (List.mem_append_right _ (List.mem_append_right _ (dz hb e)))).2.1
  cases f with
  | next=>obtain⟨σ7,H7,I7,n7⟩:=q7;exact again I7 n7
  | cont=>obtain⟨σ7,H7,I7,n7⟩:=q7;exact again I7 n7
  | brk=>obtain⟨σ7,H7,I7,q7⟩:=q7;exact⟨σ7,H7,I7.nE,q7⟩
  | ret v=>obtain⟨x7,σ7,H7,I7,r7,q7⟩:=q7;exact⟨x7,σ7,H7,I7.nE,r7,q7⟩
end
abbrev R2:=V->V->Hp->VK->Prop
def OpR (X:Cx) (f:Value->Value->Sem Value) (r:R2):Prop:=
 ∀ (pins:Pn) (s:Shared) (σ:St) (H:Hp) (x y:V) (v u:Value) (Q:VK),Inv X pins σ H s->RelV x v->RelV y u->r x y H Q->
  wpAny (model X.prog X.w) X.A (f v u) (EP X pins σ Q) X.xe s
def UnR (X:Cx) (f:Value->Sem Value) (r:V->Hp->VK->Prop):Prop:=
 ∀ (pins:Pn) (s:Shared) (σ:St) (H:Hp) (x:V) (v:Value) (Q:VK),Inv X pins σ H s->RelV x v->r x H Q->
  wpAny (model X.prog X.w) X.A (f v) (EP X pins σ Q) X.xe s
def cK (X:Cx) (f:Value) (r:List V->Hp->VK->Prop):Prop:=
 ∀ (pins:Pn) (s:Shared) (σ:St) (H:Hp) (xs:List V) (us:Lv) (Q:VK),Inv X pins σ H s->Vals xs us->r xs H Q->
  wpAny (model X.prog X.w) X.A (call f us) (EP X pins σ Q) X.xe s
def tOp (r:R2) (ta tb:TE):TE:=fun σ H Q=>ta σ H fun x H1=>tb σ H1 fun y H2=>r x y H2 Q
def tUn (r:V->Hp->VK->Prop) (ta:TE):TE:=fun σ H Q=>ta σ H fun x H1=>r x H1 Q
def rI (C:Int->Int->Prop) (g:Int->Int->V):R2:=fun x y H Q=>∃ i j,x=.int i/\y=.int j/\C i j/\Q (g i j) H
def rI0 (g:Int->Int->V):R2:=fun x y H Q=>∃ i j,x=.int i/\y=.int j/\Q (g i j) H
noncomputable def rU (g:Int->V):V->Hp->VK->Prop:=fun x H Q=>∃ i,x=.int i/\Q (g i) H
section
variable {X:Cx} {a b c:Expr} {ta tb tc:TE} {pos:Pos}
theorem GY (ha:PE X a ta) (hb:PE X b tb) {pins:Pn} {s:Shared} {σ:St} {H:Hp} {R:V->V->Hp->Prop} (I:Inv X pins σ H s)
  (h:ta σ H fun x H1=>tb σ H1 fun y H2=>R x y H2) {Q:VS} {f:Value->Value->Sem Value}
  (hf:∀ v u s2 x y H2,Inv X pins σ H2 s2->RelV x v->RelV y u->R x y H2->wpAny (model X.prog X.w) X.A (f v u) Q X.xe s2) :
  wpAny (model X.prog X.w) X.A (eval a X.env) (fun v s₁=>wpAny (model X.prog X.w) X.A (eval b X.env) (fun u s₂=>wpAny (model X.prog X.w) X.A (f v u) Q X.xe s₂) X.xe s₁) X.xe s:=by
 refine thn (ha pins s σ H _ I h) fun v s1 Z=>?_;obtain⟨x,H1,I1,r1,q1⟩:=Z;refine thn (hb pins s1 σ H1 _ I1 q1) fun u s2 Z=>?_;obtain⟨y,H2,I2,r2,q2⟩:=Z;exact hf v u s2 x y H2 I2 r1 r2 q2
theorem mj {op:Operator} {r:R2} (ho:OpR X (binaryOp op) r) (ha:PE X a ta) (hb:PE X b tb):PE X (.BinOp a op b pos) (tOp r ta tb):=by
 intro pins s σ H Q I h;exact wpAny_BinOp (GY ha hb I h fun v u s2 x y H2 I2 rx ry q=>ho pins s2 σ H2 x y v u Q I2 rx ry q)
theorem HW {op:UnaryOp} {r:V->Hp->VK->Prop} (ho:UnR X (unaryOp op) r) (ha:PE X a ta):PE X (.UnaryOp op a pos) (tUn r ta):=by
 intro pins s σ H Q I h;exact UnaryOp_ (thn (ha pins s σ H _ I h) fun v s1 ⟨x,H1,I1,r1,q1⟩=>ho pins s1 σ H1 x v Q I1 r1 q1)
theorem opI {f:Value->Value->Sem Value} {C:Int->Int->Prop} {g:Int->Int->Int}
  (rule:∀ (i j:Int) (t u:Tok) (s:Shared) (Q:VS) (E:VS),C i j->Q (.int (g i j) s.toks) { s with toks:=s.toks + 1 }->wpAny (model X.prog X.w) X.A (f (.int i t) (.int j u)) Q E s) :
  OpR X f (rI C fun i j=>.int (g i j)):=by
 intro pins s σ H x y v u Q I rx ry h;obtain⟨i,j,rfl,rfl,hc,q⟩:=h;obtain⟨t,rfl⟩:=rx;obtain⟨t',rfl⟩:=ry;exact rule i j t t' s _ _ hc ⟨.int (g i j),H,I.tok _,⟨_,rfl⟩,q⟩
theorem vd {f:Value->Value->Sem Value} {g:Int->Int->Int}
  (rule:∀ (i j:Int) (t u:Tok) (s:Shared) (Q:VS) (E:VS),Q (.int (g i j) s.toks) { s with toks:=s.toks + 1 }->wpAny (model X.prog X.w) X.A (f (.int i t) (.int j u)) Q E s) :
  OpR X f (rI0 fun i j=>.int (g i j)):=by
 intro pins s σ H x y v u Q I rx ry h;obtain⟨i,j,rfl,rfl,q⟩:=h;obtain⟨t,rfl⟩:=rx;obtain⟨t',rfl⟩:=ry;exact rule i j t t' s _ _ ⟨.int (g i j),H,I.tok _,⟨_,rfl⟩,q⟩
theorem FE {f:Value->Value->Sem Value} {g:Int->Int->Bool}
  (rule:∀ (i j:Int) (t u:Tok) (s:Shared) (Q:VS) (E:VS),Q (.bool (g i j)) s->wpAny (model X.prog X.w) X.A (f (.int i t) (.int j u)) Q E s) :
  OpR X f (rI0 fun i j=>.bl (g i j)):=by
 intro pins s σ H x y v u Q I rx ry h;obtain⟨i,j,rfl,rfl,q⟩:=h;obtain⟨t,rfl⟩:=rx;obtain⟨t',rfl⟩:=ry;exact rule i j t t' s _ _ ⟨.bl (g i j),H,I,rfl,q⟩
def G8 (i j:Int):Prop:=0 < j/\j < 1073741824
def uJ (i j:Int):Prop:=0<=j/\j<=1000000/\i.natAbs < 2 ^ 64
def uK (i j:Int):Prop:=(-(2 ^ 64) < i/\i < 2 ^ 64)\/(-(2 ^ 64) < j/\j < 2 ^ 64)
theorem uK.ok {i j:Int} (h:uK i j):IntMulOk i j:=by
 rcases h with ⟨h1,h2⟩ | ⟨h1,h2⟩
 ·exact .of_left (intBits_le_64 h1 h2)
 ·exact .of_right (intBits_le_64 h1 h2)
theorem FD:OpR X (binaryOp .Add) (rI0 fun i j=>.int (i + j)):=vd fun _ _ _ _ _ _ _ q=>add_int q
theorem Ft:OpR X (binaryOp .Sub) (rI0 fun i j=>.int (i - j)):=vd fun _ _ _ _ _ _ _ q=>sub_int q
theorem Fy:OpR X (binaryOp .Mult) (rI uK fun i j=>.int (i * j)):=opI fun _ _ _ _ _ _ _ hc q=>mul_int q hc.ok
theorem CB:OpR X (binaryOp .FloorDiv) (rI G8 fun i j=>.int (i / j)):=opI fun i j _ _ _ _ _ hc q=>by
 have h1:(0:Int) < j:=hc.1;have h2:j < 1073741824:=hc.2;exact floordiv_int (by lia) (by rw[Int.fdiv_eq_ediv_of_nonneg i (by lia)];exact q) (.inl (PyProof.noPylong_small (by lia)))
theorem Fz:OpR X (binaryOp .Mod) (rI (fun _ j=>0 < j) fun i j=>.int (i % j)):=opI fun i j _ _ _ _ _ hc q=>by
 have h1:(0:Int) < j:=hc;exact mod_int' (by lia) (by rw[Int.fmod_eq_emod_of_nonneg i (by lia)];exact q)
theorem Fw:OpR X (binaryOp .Pow) (rI uJ fun i j=>.int (i ^ j.toNat)):=opI fun _ _ _ _ _ _ _ hc q=>pow_int_small hc.1 hc.2.1 hc.2.2 q
theorem Fu:OpR X (binaryOp .LShift) (rI uJ fun i j=>.int (i * 2 ^ j.toNat)):=opI fun _ _ _ _ _ _ _ hc q=>lshift_int_small hc.1 hc.2.1 hc.2.2 q
theorem unI {f:Value->Sem Value} {g:Int->Int}
  (rule:∀ (i:Int) (t:Tok) (s:Shared) (Q:VS) (E:VS),Q (.int (g i) s.toks) { s with toks:=s.toks + 1 }->wpAny (model X.prog X.w) X.A (f (.int i t)) Q E s) :
  UnR X f (rU fun i=>.int (g i)):=by
 intro pins s σ H x v Q I rx h;obtain⟨i,rfl,q⟩:=h;obtain⟨t,rfl⟩:=rx;exact rule i t s _ _ ⟨.int (g i),H,I.tok _,⟨_,rfl⟩,q⟩
theorem Ez:UnR X (unaryOp .USub) (rU fun i=>.int (-i)):=unI fun _ _ _ _ _ q=>neg_int q
theorem AN {pins:Pn} {σ:St} {H:Hp} {s:Shared} {Q:VK} {k k':Bool} (I:Inv X pins σ H s) (q:Q (.bl k) H) (e:k=k'):EP X pins σ Q (.bool k') s:=by
 subst e;exact⟨.bl k,H,I,rfl,q⟩
theorem Ia:OpR X (compareOp .Lt) (rI0 fun i j=>.bl (decide (i < j))):=FE fun _ _ _ _ _ _ _ q=>lt_int q
theorem Ib:OpR X (compareOp .LtE) (rI0 fun i j=>.bl (decide (i<=j))):=FE fun _ _ _ _ _ _ _ q=>le_int q
theorem Ic:OpR X (compareOp .Gt) (rI0 fun i j=>.bl (decide (j < i))):=FE fun _ _ _ _ _ _ _ q=>gt_int q
theorem OpR.or {f:Value->Value->Sem Value} {r r':R2} (h:OpR X f r) (h':OpR X f r'):OpR X f (fun x y H Q=>r x y H Q\/r' x y H Q):=by
 intro pins s σ H x y v u Q I rx ry q;rcases q with q | q
 ·exact h pins s σ H x y v u Q I rx ry q
 ·exact h' pins s σ H x y v u Q I rx ry q
theorem aM (b:Expr) {op:CmpOp} (h:autoParam (op≠.In) wP) (h2:autoParam (op≠.NotIn) wP):behindInMarks op b=false:=by
 have e1:(op == CmpOp.In)=false:=by cases op <;> first | rfl | exact absurd rfl h
 have e2:(op == CmpOp.NotIn)=false:=by cases op <;> first | rfl | exact absurd rfl h2
 cases b <;> simp [behindInMarks,e1,e2]
theorem Cr {op:CmpOp} {r:R2} (ho:OpR X (compareOp op) r) (ha:PE X a ta) (hb:PE X b tb) (hm:behindInMarks op b=false):PE X (.Compare a [op] [b] pos) (tOp r ta tb):=by
 intro pins s σ H Q I h;exact wpAny_Compare1 (GY ha hb I h fun v u s2 x y H2 I2 rx ry q=>ho pins s2 σ H2 x y v u Q I2 rx ry q) hm
def DB (t:TE):TT:=fun σ H Q=>t σ H fun x H'=>∃ k,x=.bl k/\Q k H'
theorem Cf {op:CmpOp} {r:R2} (ho:OpR X (compareOp op) r) (ha:PE X a ta) (hb:PE X b tb) (hm:behindInMarks op b=false):PT X (.Compare a [op] [b] pos) (DB (tOp r ta tb)):=by
 intro pins s σ H Q I h;refine wpAny_isTrue_Compare1 (thn (ha pins s σ H _ I h) fun v s1 ⟨x,H1,I1,r1,q1⟩=>thn (hb pins s1 σ H1 _ I1 q1) fun u s2 ⟨y,H2,I2,r2,q2⟩=>
  thn (ho pins s2 σ H2 x y v u _ I2 r1 r2 q2) fun c s3 ⟨z,H3,I3,r3,k,e,q3⟩=>?_) hm
 subst e;cases r3;exact wpAny_truthy_bool ⟨H3,I3,q3⟩
def uO (r r':R2) (ta tb tc:TE):TE:=fun σ H Q=>ta σ H fun x H1=>tb σ H1 fun y H2=>r x y H2 fun z H3=>∃ k,z=.bl k/\
 (if k=true then tc σ H3 fun w' H4=>r' y w' H4 Q else Q (.bl false) H3)
theorem zR {op op':CmpOp} {r r':R2} (ho:OpR X (compareOp op) r) (ho':OpR X (compareOp op') r') (ha:PE X a ta) (hb:PE X b tb) (hc:PE X c tc)
  (hm:lastMarks [op,op'] [b,c]=false:=by with_unfolding_all rfl):PE X (.Compare a [op,op'] [b,c] pos) (uO r r' ta tb tc):=by
 intro pins s σ H Q I h;refine Compare_chain (thn (ha pins s σ H _ I h) fun v s1 ⟨x,H1,I1,r1,q1⟩=>chain_link (thn (hb pins s1 σ H1 _ I1 q1) fun u s2 ⟨y,H2,I2,r2,q2⟩=>
  thn (ho pins s2 σ H2 x y v u _ I2 r1 r2 q2) fun d s3 ⟨z,H3,I3,r3,k,e,q3⟩=>?_)) hm
 subst e;cases r3;refine wpAny_truthy_bool ?_;cases k with
 | false=>exact ite_ff ⟨.bl false,H3,I3,rfl,q3⟩
 | true=>exact ite_tt (chain_last (thn (hc pins s3 σ H3 _ I3 q3) fun w' s4 ⟨z',H4,I4,r4,q4⟩=>ho' pins s4 σ H4 y z' u w' Q I4 r2 r4 q4))
theorem lY:(sizeLine:Nat) < 2 ^ 63:=by rw[sizeLine_eq];decide
theorem vb:OpR X (binaryOp .Add) (fun x y H Q=>∃ i j,x=.str i/\y=.str j/\i.length + j.length<=sizeLine/\Q (.str (i++j)) H):=by
 intro pins s σ H x y v u Q I rx ry h;obtain⟨i,j,rfl,rfl,hz,q⟩:=h;obtain⟨t,rfl⟩:=rx;obtain⟨t',rfl⟩:=ry;exact add_str (fun t' tk=>⟨.str (i++j),H,I.tok _,⟨_,rfl⟩,q⟩) hz
theorem vals1 {x:V} {us:Lv} (r:Vals [x] us):∃ u,us=[u]/\RelV x u:=by
 cases r with
 | cons r1 r2=>cases r2;exact⟨_,rfl,r1⟩
theorem vals2 {x y:V} {us:Lv} (r:Vals [x,y] us):∃ u w',us=[u,w']/\RelV x u/\RelV y w':=by
 cases r with
 | cons r1 r2=>
  cases r2 with
  | cons r3 r4=>cases r4;exact⟨_,_,rfl,r1,r3⟩
theorem yH (hc:X.calm=true):cK X (.builtin "max") (fun xs H Q=>∃ i j,xs=[.int i,.int j]/\Q (.int (if j > i then j else i)) H):=by
 intro pins s σ H xs us Q I r h;obtain⟨i,j,rfl,q⟩:=h;obtain⟨u,w',rfl,⟨t,rfl⟩,⟨t',rfl⟩⟩:=vals2 r;refine max_two_ints (I.ok.hd hc) fun h' tk k=>⟨_,H,I.kept k,?_,q⟩;by_cases hj:j > i
 ·rw[if_pos hj,if_pos hj];exact⟨_,rfl⟩
 ·rw[if_neg hj,if_neg hj];exact⟨_,rfl⟩
theorem yG (hc:X.calm=true):cK X (.builtin "min") (fun xs H Q=>∃ i j,xs=[.int i,.int j]/\Q (.int (if j < i then j else i)) H):=by
 intro pins s σ H xs us Q I r h;obtain⟨i,j,rfl,q⟩:=h;obtain⟨u,w',rfl,⟨t,rfl⟩,⟨t',rfl⟩⟩:=vals2 r;refine min_two_ints (I.ok.hd hc) fun h' tk k=>⟨_,H,I.kept k,?_,q⟩;by_cases hj:j < i
 ·rw[if_pos hj,if_pos hj];exact⟨_,rfl⟩
 ·rw[if_neg hj,if_neg hj];exact⟨_,rfl⟩
theorem yI:cK X (.type "int") (fun xs H Q=>(∃ i,xs=[.int i]/\Q (.int i) H)\/∃ k,xs=[.bl k]/\Q (.int (if k then 1 else 0)) H):=by
 intro pins s σ H xs us Q I r h;rcases h with ⟨i,rfl,q⟩ | ⟨k,rfl,q⟩
 ·obtain⟨u,rfl,t,rfl⟩:=vals1 r;exact call_int_int ⟨.int i,H,I,⟨_,rfl⟩,q⟩
 ·obtain⟨u,rfl,r1⟩:=vals1 r;cases r1;exact call_int_bool ⟨.int (if k then 1 else 0),H,I.tok _,⟨_,rfl⟩,q⟩
end
structure v_ (h:Heap) (x dx C:Addr) (mA:SV):Prop where
 obj:h.get? x=some (PySem.W.instObj C dx)
 ns:h.Ns1 dx mA
 ne:dx≠x
theorem yr {h:Heap} {dx:Addr} {mA:SV} (n:h.Ns1 dx mA):∃ od,h.get? dx=some od/\∀ name,PySem.W.lookIn name od=some (mA name):=by
 obtain⟨o,es,ep,ho,hd,hk,_,hm⟩:=n;refine⟨o,ho,fun name=>?_⟩;have e:=hm name;unfold nsFind findBy at e;rw[<- Array.find?_toList] at e;unfold PySem.W.lookIn;rw[hd];dsimp only;split
 ·rename_i y q;rw[q] at e;exact congrArg some e
 ·rename_i q;rw[q] at e;have a:es.toList.any (·.refKey)=false:=by
   rw[List.any_eq_false];intro y hy;obtain⟨z,t,hkey⟩:=hk y (Array.mem_toList_iff.mp hy);simp [DictEntry.refKey,hkey]
  have a':¬ es.toList.any (·.refKey)=true:=by rw[a];exact Bool.false_ne_true
  rw[if_neg a'];exact congrArg some e
theorem v_.look {h:Heap} {x dx C:Addr} {mA:SV} (I:v_ h x dx C mA):∃ od,PySem.W.InstAt h x (PySem.W.instObj C dx) C (some od)/\∀ name,PySem.W.lookIn name od=some (mA name):=
 let ⟨od,ho,hl⟩:=yr I.ns
 ⟨od,⟨I.obj,rfl,rfl,ho⟩,hl⟩
section
variable {prog:Program} {w:World} {A:Around} {E:VS} {s:Shared} {K:Fg0} {x dx C f:Addr} {mA:SV} {name:Str} {v:Value}
theorem get_map {expr:Bool} {Q:VS} (X:K.In s.heap) (I:v_ s.heap x dx C mA) (hg:PySem.W.plainGet K C name=true) (hh:PySem.W.hasDictIn K C=true)
  (ha:PySem.W.findIn K (.ref C) name=some none) (hv:mA name=some v) (hv':PySem.W.handedIn v=true) (h:Q v { s with toks:=s.toks + 1 }) :
  wpAny (model prog w) A (getAttr (.ref x) name expr) Q E s:=by
 obtain⟨od,J,hl⟩:=I.look;exact PySem.W.get_value X J (PySem.W.plainGet_of hg).1 (PySem.W.findObj_own hh ha rfl (by rw[hl,hv])) hv' h
theorem AF {pl:Sem Bool} {Q:Value×Lv->Shared->Prop} (X:K.In s.heap) (I:v_ s.heap x dx C mA) (hg:PySem.W.plainGet K C name=true)
  (hf:PySem.W.findIn K (.ref C) name=some (some (.ref f))) (ht:PySem.W.isFn K (.ref f)=true) (hv:mA name=none) (h:Q (.ref f,[.ref x]) s) :
  wpAny (model prog w) A (getMethod (.ref x) name pl) Q E s:=by
 obtain⟨od,J,hl⟩:=I.look;exact PySem.W.method_fn X J (PySem.W.plainGet_of hg).1 (PySem.W.plainGet_of hg).2 hf (beq_iff_eq.mp ht) (by show (PySem.W.lookIn name od).map (·.isSome)=some false;rw[hl,hv];rfl) h
theorem BX {ns:Ls} {Q:Unit->Shared->Prop} (X:K.In s.heap) (I:v_ s.heap x dx C mA)
  (hs:PySem.W.findIn K (.ref C) "__setattr__"=some (some (.builtin "object.__setattr__"))) (hp:PySem.W.plainOver K C=true) (ht:PySem.W.takerIn K C name=some none) (hh:PySem.W.hasDictIn K C=true)
  (hw:PySem.Within mA ns) (hsz:ns.length<=sizeLine)
  (h:∀ h',v_ h' x dx C (fun y=>if y=name then some v else mA y)->Heap.SameBut dx s.heap h'->Q () { s with heap:=h',toks:=s.toks + 2 }) :
  wpAny (model prog w) A (setAttr (.ref x) name v) Q E s:=by
 obtain⟨od,J,hl⟩:=I.look;refine PySem.W.set_plain X J hs (PySem.W.osa_open (s:={ s with toks:=s.toks + 1 }) (r:=none) X J hp ht fun b=>?_);obtain⟨cd,hc,hd'⟩:=PySem.W.any_some hh;have hx:s.heap.get? x=some ⟨.ref C,some dx,.plain,#[]⟩:=I.obj;refine wpAny_bind (wpAny_pure (wpAny_bind (wpAny_bind (wpAny_loadPart hx (wpAny_bind (PySem.W.Looks.here (s:={ s with toks:=s.toks + 1 }) (PySem.W.looks_clsIn X hc) ?_))))));rw[hd'];refine wpAny_pure (a:=some dx) (wpAny_bind (wpAny_pure (wpAny_bind ?_)));refine wpAny_nsSet1 (s:={ s with toks:=s.toks + 1 }) I.ns fun h' hn2 hs2=>?_;obtain⟨oD,esD,epD,hoD,hdD,hcD⟩:=hn2.count (PySem.Within.cons name v hw);refine wpAny_bind (wpAny_lookBehind hoD (by rw[hdD];exact pastItsLine_dict (Nat.le_trans hcD (by rw[List.length_cons];lia))) ?_);exact wpAny_pure (h _ ⟨(hs2.2 _ (Ne.symm I.ne)).trans I.obj,hn2,I.ne⟩ hs2)
theorem Ao {R:Result->Shared->Prop} {vs:Lv} {kw:List (Str×Value)} (X:K.In s.heap) (hm:PySem.W.makesIn K C=true)
  (hi:PySem.W.findIn K (.ref C) "__init__"=some (some (.ref f))) (hf:PySem.W.typeIn K (.ref f)=some (.type "function"))
  (h:codeAny (model prog w) (A.under (.builtin "type.__call__" ⟨.ref C::vs,kw⟩)) (.call (.ref f) ⟨.ref (s.heap.objs.size + 1)::vs,kw⟩) (PySem.W.InitBack (s.heap.objs.size + 1) R)
   { s with heap:=(s.heap.push PySem.W.emptyDict).push (PySem.W.instObj C s.heap.objs.size) }) :
  codeAny (model prog w) A (.call (.ref C) ⟨vs,kw⟩) R s:=by
 obtain⟨hh,g,d,t,os⟩:=s;exact PySem.W.make_core (PySem.W.makes_of X hm) (PySem.W.looks_findIn X hi) (fun self=>PySem.W.bind_fn X self hf) (.inl rfl) h
theorem yn {R:Result->Shared->Prop} (X:K.In s.heap) (hm:PySem.W.makesIn K C=true)
  (hi:PySem.W.findIn K (.ref C) "__init__"=some (some (.builtin "object.__init__")))
  (hb:∀ self,PySem.W.Looks (model prog w) s.heap (bindSpecial (.builtin "object.__init__") self) (.builtin "object.__init__",[self]))
  (h:codeAny (model prog w) (A.under (.builtin "type.__call__" ⟨[.ref C],[]⟩)) (.call (.builtin "object.__init__") ⟨[.ref (s.heap.objs.size + 1)],[]⟩) (PySem.W.InitBack (s.heap.objs.size + 1) R)
   { s with heap:=(s.heap.push PySem.W.emptyDict).push (PySem.W.instObj C s.heap.objs.size) }) :
  codeAny (model prog w) A (.call (.ref C) ⟨[],[]⟩) R s:=by
 obtain⟨hh,g,d,t,os⟩:=s;exact PySem.W.make_core (PySem.W.makes_of X hm) (PySem.W.looks_findIn X hi) hb (.inr ⟨rfl,rfl⟩) h
end
noncomputable def iy (f:Str) (v:V):List (Str×V)->List (Str×V)
 | []=>[(f,v)]
 | (g,x)::r=>if g=f then (g,v)::r else (g,x)::iy f v r
theorem mq (f g:Str) (v:V):∀ fs:List (Str×V),(iy f v fs).lookup g=if g=f then some v else fs.lookup g
 | []=>by
  show List.lookup g [(f,v)]=_;by_cases h:g=f
  ·have hb:(g == f)=true:=beq_iff_eq.mpr h;simp only[List.lookup,hb,if_pos h]
  ·have hb:(g == f)=false:=beq_eq_false_iff_ne.mpr h;simp only[List.lookup,hb,if_neg h]
 | (k,x)::r=>by
  have ih:=mq f g v r;rw[show iy f v ((k,x)::r)=(if k=f then (k,v)::r else (k,x)::iy f v r) from rfl];by_cases hk:k=f
  ·rw[if_pos hk];by_cases h:g=k
   ·have hb:(g == k)=true:=beq_iff_eq.mpr h;simp only[List.lookup,hb,if_pos (h.trans hk)]
   ·have hb:(g == k)=false:=beq_eq_false_iff_ne.mpr h;simp only[List.lookup,hb,if_neg (fun e:g=f=>h (e.trans hk.symm))]
  ·rw[if_neg hk];by_cases h:g=k
   ·have hb:(g == k)=true:=beq_iff_eq.mpr h;simp only[List.lookup,hb,if_neg (fun e:g=f=>hk (h.symm.trans e))]
   ·have hb:(g == k)=false:=beq_eq_false_iff_ne.mpr h;simp only[List.lookup,hb];exact ih
theorem lZ (f:Str) (v:V):∀ fs:List (Str×V),f∈(iy f v fs).map (·.1)/\∀ g,g∈fs.map (·.1)->g∈(iy f v fs).map (·.1)
 | []=>⟨by simp [iy],fun g h=>by simp at h⟩
 | (k,x)::r=>by
  obtain⟨i1,i2⟩:=lZ f v r;rw[show iy f v ((k,x)::r)=(if k=f then (k,v)::r else (k,x)::iy f v r) from rfl];by_cases hk:k=f
  ·rw[if_pos hk];subst hk;exact⟨by simp,fun g h=>by simpa using h⟩
  ·rw[if_neg hk];refine⟨?_,fun g h=>?_⟩
   ·rw[List.map_cons];exact List.mem_cons_of_mem _ i1
   ·rw[List.map_cons] at h ⊢;rcases List.mem_cons.mp h with e | e
    ·exact List.mem_cons.mpr (.inl e)
    ·exact List.mem_cons_of_mem _ (i2 g e)
theorem mr (f:Str) (v:V):∀ fs:List (Str×V),(iy f v fs).length<=fs.length + 1
 | []=>by simp [iy]
 | (k,x)::r=>by
  have ih:=mr f v r;rw[show iy f v ((k,x)::r)=(if k=f then (k,v)::r else (k,x)::iy f v r) from rfl];by_cases hk:k=f
  ·rw[if_pos hk,List.length_cons,List.length_cons];lia
  ·rw[if_neg hk,List.length_cons,List.length_cons];lia
theorem o_.some_of {v:V} {o:Option Value} (r:o_ (some v) o):∃ u,o=some u/\RelV v u:=by
 cases o with
 | none=>exact(show False from r).elim
 | some u=>exact⟨u,rfl,r⟩
theorem o_.none_of {o:Option Value} (r:o_ none o):o=none:=by
 cases o with
 | none=>rfl
 | some u=>exact(show False from r).elim
theorem yA {v:V} {u:Value} (r:RelV v u):PySem.W.handedIn u=true:=by
 cases v with
 | non=>cases (show u=Value.none from r);rfl
 | bl b=>cases (show u=Value.bool b from r);rfl
 | int i=>obtain⟨t,e⟩:=(show ∃ t,u=Value.int i t from r);cases e;rfl
 | str x=>obtain⟨t,e⟩:=(show ∃ t,u=Value.str x t from r);cases e;rfl
 | byt b=>obtain⟨t,e⟩:=(show ∃ t,u=Value.bytes b t from r);cases e;rfl
 | flt b=>obtain⟨t,e⟩:=(show ∃ t,u=Value.float b t from r);cases e;rfl
 | ref a=>cases (show u=Value.ref a from r);rfl
 | ty n=>cases (show u=Value.type n from r);rfl
section
variable {P:Program} {w:World} {H H':Hp} {h h':Heap} {a C dx:Addr} {fs fs':List (Str×V)}
theorem nv (hok:HOk P w H h) (e:H a=some (.ins C dx fs)):∃ mA,v_ h a dx C mA/\(∀ f,o_ (fs.lookup f) (mA f))/\PySem.Within mA (fs.map (·.1))/\fs.length<=1000/\H dx=some (.own a):=by
 obtain⟨d,z,ne,ob,mA,n,r,q⟩:=(show cU P w H h a (.ins C dx fs) from hok a _ e);exact⟨mA,⟨ob,n,ne⟩,r,q,z,d⟩
end
structure Cls (K:Fg0) (C:Addr):Prop where
 pg:PySem.W.plainGet K C Str.empty=true
 hd:PySem.W.hasDictIn K C=true
 po:PySem.W.plainOver K C=true
 sa:PySem.W.findIn K (.ref C) "__setattr__"=some (some (.builtin "object.__setattr__"))
theorem Cls.get {K:Fg0} {C:Addr} (c:Cls K C) (f:Str):PySem.W.plainGet K C f=true:=c.pg
def dH (K:Fg0) (C:Addr) (f:Str):Prop:=PySem.W.findIn K (.ref C) f=some none
theorem dH.Hf {K:Fg0} {C:Addr} {f:Str} (n:dH K C f):PySem.W.takerIn K C f=some none:=by
 unfold PySem.W.takerIn;rw[show PySem.W.findIn K (.ref C) f=some none from n]
 rfl
structure Meth (K:Fg0) (C:Addr) (m:Str) (f:Addr):Prop where
 at_:PySem.W.findIn K (.ref C) m=some (some (.ref f))
 fn:PySem.W.isFn K (.ref f)=true
 kp:PySem.W.keepIn K (.ref f)=true
section
variable {X:Cx} {pins:Pn} {σ:St} {H:Hp} {s:Shared} {a C dx:Addr} {fs:List (Str×V)} {f:Str} {v:V} {A:Around} {E:VS}
theorem vF {b:Bool} {Q:VS} (I:Inv X pins σ H s) (e:H a=some (.ins C dx fs)) (c:Cls X.K C) (n:dH X.K C f) (l:fs.lookup f=some v)
  (h:∀ u s',Inv X pins σ H s'->RelV v u->Q u s'):wpAny (model X.prog X.w) A (getAttr (.ref a) f b) Q E s:=by
 obtain⟨mA,O,r,_,_,_⟩:=nv I.hok e;obtain⟨u,hu,ru⟩:=o_.some_of (v:=v) (o:=mA f) (by rw[<- l];exact r f);exact get_map I.kIn O (c.get f) c.hd n hu (yA ru) (h u _ (I.tok _) ru)
theorem j4 {m:Str} {g:Addr} {pl:Sem Bool} {Q:Value×Lv->Shared->Prop} (I:Inv X pins σ H s) (e:H a=some (.ins C dx fs)) (c:Cls X.K C) (k:Meth X.K C m g) (l:fs.lookup m=none)
  (h:Q (.ref g,[.ref a]) s):wpAny (model X.prog X.w) A (getMethod (.ref a) m pl) Q E s:=by
 obtain⟨mA,O,r,_,_,_⟩:=nv I.hok e;have hn:mA m=none:=o_.none_of (by rw[<- l];exact r m);exact AF I.kIn O (c.get m) k.at_ k.fn hn h
theorem uR {y:V} {u:Value} {Q:Unit->Shared->Prop} (I:Inv X pins σ H s) (e:H a=some (.ins C dx fs)) (c:Cls X.K C) (n:dH X.K C f) (hl:fs.length < 1000) (ry:RelV y u)
  (h:∀ s',Inv X pins σ (upd H a (.ins C dx (iy f y fs))) s'->Q () s'):wpAny (model X.prog X.w) A (setAttr (.ref a) f u) Q E s:=by
 obtain⟨mA,O,r,wi,_,ho⟩:=nv I.hok e;have hz:(fs.map (·.1)).length<=sizeLine:=by rw[lM0,sizeLine_eq];lia
 refine BX I.kIn O c.sa c.po n.Hf c.hd wi hz fun h' O' sb=>h _ ?_;have hd:∃ o,h'.get? dx=some o:=let ⟨o,_,_,e',_⟩:=O'.ns;⟨o,e'⟩
 refine I.write (x:=a) (e:=dx) (by rw[e];exact True.intro) (.inr ho) (fun b q hb z=>(sb.2 b hb).trans z) hd ?_;refine⟨by rw[aj O.ne];exact ho,?_,O.ne,O'.obj,_,O'.ns,fun g=>?_,fun g hg=>?_⟩
 ·have:=mr f y fs;lia
 ·show o_ ((iy f y fs).lookup g) (if g=f then some u else mA g);rw[mq];by_cases q:g=f
  ·rw[if_pos q,if_pos q];exact ry
  ·rw[if_neg q,if_neg q];exact r g
 ·by_cases q:g=f
  ·rw[q];exact(lZ f y fs).1
  ·refine(lZ f y fs).2 g (wi g fun z=>hg ?_);show (if g=f then some u else mA g)=none;rw[if_neg q];exact z
theorem Inv.made (I:Inv X pins σ H s):Inv X pins σ (upd (upd H s.heap.objs.size (.own (s.heap.objs.size + 1))) (s.heap.objs.size + 1) (.ins C s.heap.objs.size []))
  { s with heap:=(s.heap.push PySem.W.emptyDict).push (PySem.W.instObj C s.heap.objs.size) }:=by
 have e1:(s.heap.push PySem.W.emptyDict).get? s.heap.objs.size=some PySem.W.emptyDict:=Heap.get?_push_size s.heap rfl;have e2:((s.heap.push PySem.W.emptyDict).push (PySem.W.instObj C s.heap.objs.size)).get? (s.heap.objs.size + 1)=some (PySem.W.instObj C s.heap.objs.size):=by
  have:=Heap.get?_push_size (s.heap.push PySem.W.emptyDict) (o:=PySem.W.instObj C s.heap.objs.size) rfl
  rwa [Heap.size_push] at this
 have e3:(s.heap.push PySem.W.emptyDict).Ns s.heap.objs.size (fun _=>none):=⟨PySem.W.emptyDict,#[],_,e1,rfl,(fun e he=>absurd he (by simp)),fun _=>rfl⟩;have I1:=I.laid (a:=s.heap.objs.size) (o:=.own (s.heap.objs.size + 1)) (h':=s.heap.push PySem.W.emptyDict) (t':=s.toks) (fun b u q=>Heap.get?_push_of_some _ q) (Nat.le_refl _) ⟨_,e1⟩;refine I1.laid (a:=s.heap.objs.size + 1) (o:=.ins C s.heap.objs.size []) (t':=s.toks) (fun b u q=>Heap.get?_push_of_some _ q) (Nat.le_of_eq (Heap.size_push _ _)) ?_;have ne:s.heap.objs.size≠s.heap.objs.size + 1:=Nat.ne_of_lt (Nat.lt_succ_self _);refine⟨by rw[aj ne,aA],Nat.zero_le _,ne,e2,fun _=>none,(Heap.Ns1.of_empty e3).at fun o q=>Heap.get?_push_of_some _ q,fun _=>True.intro,fun y hy=>absurd rfl hy⟩
theorem Dk {prog:Program} {w:World} {env:Env} {e:Expr} {f:Str} {pos:Pos} {s:Shared} {Q:VS} (hb:attributeBase e f env (eval e env)=eval e env)
  (h:wpAny (model prog w) A (eval e env) (fun o s₁=>wpAny (model prog w) A (getAttr o f true) Q E s₁) E s):wpAny (model prog w) A (eval (.Attribute e f pos) env) Q E s:=
 Attribute_any_ h (by rw[arm_eval_Attribute,hb])
end
def Hk (K:Fg0) (ta:TE) (f:Str):TE:=fun σ H Q=>ta σ H fun x H1=>∃ a C dx fs v,x=.ref a/\H1 a=some (.ins C dx fs)/\Cls K C/\dH K C f/\fs.lookup f=some v/\Q v H1
def ER (K:Fg0) (ta tv:TE) (f:Str):TS:=fun D σ H=>tv σ H fun y H1=>ta σ H1 fun x H2=>∃ a C dx fs,x=.ref a/\H2 a=some (.ins C dx fs)/\Cls K C/\dH K C f/\fs.length < 1000/\
 D.nx σ (upd H2 a (.ins C dx (iy f y fs)))
section
variable {X:Cx} {o e value:Expr} {f:Str} {pos pos' tpos:Pos} {ta tv:TE}
theorem Fm (he:PE X e ta) (hb:attributeBase e f X.env (eval e X.env)=eval e X.env):PE X (.Attribute e f pos) (Hk X.K ta f):=by
 intro pins s σ H Q I h;refine Dk hb (thn (he pins s σ H _ I h) fun u s1 Z=>?_);obtain⟨x,H1,I1,rx,a,C,dx,fs,v,ex,ea,c,n,l,q⟩:=Z;subst ex;obtain rfl:u=Value.ref a:=rx;exact vF I1 ea c n l fun u' s2 I2 ru=>⟨v,H1,I2,ru,q⟩
theorem E_ (ha:PE X o ta) (hv:PE X value tv) (hs:swapsWith value (some (.Attribute o f pos')) pos.line X.env=pure false):PS X (.Assign [.Attribute o f pos'] value pos) (ER X.K ta tv f):=by
 intro pins s σ H D I h;refine plainObj_wpAny_Assign_Attribute (thn (hv pins s σ H _ I h) fun u s1 ⟨y,H1,I1,ry,q⟩=>thn (ha pins s1 σ H1 _ I1 q) fun ov s2 Z=>?_) hs;obtain⟨x,H2,I2,rx,a,C,dx,fs,ex,ea,c,n,l,q2⟩:=Z;subst ex;obtain rfl:ov=Value.ref a:=rx;exact uR I2 ea c n l ry fun s3 I3=>⟨σ,_,I3,q2⟩
theorem DY {pl:Sem Bool} {m:Str} {apos:Pos} {args:List Expr} {pins:Pn} {s:Shared} {σ:St} {H:Hp} {Q:VS} {te:TE} (he:PE X e te) (I:Inv X pins σ H s)
  (h:te σ H fun x H1=>∃ a C dx fs g,x=.ref a/\H1 a=some (.ins C dx fs)/\Cls X.K C/\Meth X.K C m g/\fs.lookup m=none/\
   ∀ s1,Inv X pins σ H1 s1->wpAny (model X.prog X.w) X.A (callWith pos (.ref g) [.ref a] (backTo pos (starEach args X.env)) (backToKw pos (keywordEach [] X.env))) Q X.xe s1)
  (ht:eval (.Call (.Attribute e m apos) args [] pos) X.env=(do
   let ov <- eval e X.env
   standAt apos.atName
   let (f,first) <- holding [ov] (getMethod ov m pl)
   callWith pos f first (backTo pos (starEach args X.env)) (backToKw pos (keywordEach [] X.env)))) :
  wpAny (model X.prog X.w) X.A (eval (.Call (.Attribute e m apos) args [] pos) X.env) Q X.xe s:=by
 refine PySem.W.methodCall_KW (pl:=pl) (thn (he pins s σ H _ I h) fun u s1 Z=>?_) ht;obtain⟨x,H1,I1,rx,a,C,dx,fs,g,ex,ea,c,k,l,q⟩:=Z;subst ex;obtain rfl:u=Value.ref a:=rx;exact j4 I1 ea c k l (q s1 I1)
end
section
variable {X:Cx} {pins:Pn} {σ:St} {H:Hp} {s:Shared} {A:Around} {E:VS} {Q:VS} {c:Value} {b:Bool}
inductive l_ (K:Fg0) (H:Hp):V->Value->Prop where
 | non:l_ K H .non (.type "NoneType")
 | bl (x:Bool):l_ K H (.bl x) (.type "bool")
 | int (i:Int):l_ K H (.int i) (.type "int")
 | str (x:Str):l_ K H (.str x) (.type "str")
 | flt (x:UInt64):l_ K H (.flt x) (.type "float")
 | lst {a:Addr} {xs:List V} (e:H a=some (.lst xs)):l_ K H (.ref a) (.type "list")
 | frz {a:Addr} {o:Obj} {xs:List V} (e:H a=some (.frz o (.lst xs))):l_ K H (.ref a) (.type "list")
 | tup {a:Addr} {xs:List V} (e:H a=some (.tup xs)):l_ K H (.ref a) (.type "tuple")
 | dK {a:Addr} {kvs:List (Key×V)} (e:H a=some (.dK kvs)):l_ K H (.ref a) (.type "dict")
 | dT {a:Addr} {kvs:List (List Key×V)} (e:H a=some (.dT kvs)):l_ K H (.ref a) (.type "dict")
 | ins {a C dx:Addr} {fs:List (Str×V)} (e:H a=some (.ins C dx fs)) (cl:Cls K C) (ha:PySem.W.findIn K (.ref C) "__class__"=some (some (.builtin "object.__class__")))
   (hn:PySem.W.specialIn K (.builtin "object.__class__") "__get__"=some (some (.builtin "getset_descriptor.__get__"))) (htk:PySem.W.takesIn K (.builtin "object.__class__")=some true)
   (hm:PySem.W.mroIn K C (.type "object")=some true):l_ K H (.ref a) (.ref C)
theorem yx {x:V} {u t:Value} (I:Inv X pins σ H s) (rx:RelV x u) (ty:l_ X.K H x t) (e:PySem.W.kitOne X.K t c=some b) (h:∀ tk,Q (.bool b) { s with toks:=tk }) :
  wpAny (model X.prog X.w) A (call (.builtin "isinstance") [u,c]) Q E s:=by
 cases ty with
 | non=>cases (show u=Value.none from rx);exact PySem.W.kia_one PySem.W.kitx_none I.kIn True.intro e (fun z=>nomatch z) h
 | bl y=>cases (show u=Value.bool y from rx);exact PySem.W.kia_one PySem.W.kitx_bool I.kIn True.intro e (fun z=>nomatch z) h
 | int i=>obtain⟨t,q⟩:=(show ∃ t,u=Value.int i t from rx);cases q;exact PySem.W.kia_one PySem.W.kitx_int I.kIn True.intro e (fun z=>nomatch z) h
 | str y=>obtain⟨t,q⟩:=(show ∃ t,u=Value.str y t from rx);cases q;exact PySem.W.kia_one PySem.W.kitx_str I.kIn True.intro e (fun z=>nomatch z) h
 | flt y=>obtain⟨t,q⟩:=(show ∃ t,u=Value.float y t from rx);cases q;exact PySem.W.kia_one PySem.W.kitx_float I.kIn True.intro e (fun z=>nomatch z) h
 | @lst a xs ea=>
  cases (show u=Value.ref a from rx);obtain⟨_,_,n,_,h1⟩:=(show cU X.prog X.w H s.heap a (.lst xs) from I.hok a _ ea);exact PySem.W.kia_one PySem.W.kitx_list I.kIn ⟨_,h1,rfl⟩ e (fun z=>nomatch z) h
 | @frz a ob xs ea=>
  cases (show u=Value.ref a from rx);obtain⟨_,_,_,n,_,h1⟩:=(show cU X.prog X.w H s.heap a (.frz ob (.lst xs)) from I.hok a _ ea);exact PySem.W.kia_one PySem.W.kitx_list I.kIn ⟨_,h1,rfl⟩ e (fun z=>nomatch z) h
 | @tup a xs ea=>
  cases (show u=Value.ref a from rx);obtain⟨_,_,_,p⟩:=(show cU X.prog X.w H s.heap a (.tup xs) from I.hok a _ ea);obtain⟨o,h1,h2,_⟩:=p;exact PySem.W.kia_one PySem.W.kitx_tuple I.kIn ⟨o,h1,h2⟩ e (fun z=>nomatch z) h
 | @dK a kvs ea=>
  cases (show u=Value.ref a from rx);obtain⟨_,_,vs,_,p⟩:=(show cU X.prog X.w H s.heap a (.dK kvs) from I.hok a _ ea);obtain⟨o,es,ep,h1,h2,_⟩:=p;exact PySem.W.kia_one PySem.W.kitx_dict I.kIn ⟨o,h1,h2.1⟩ e (fun z=>nomatch z) h
 | @dT a kvs ea=>
  cases (show u=Value.ref a from rx);obtain⟨_,_,xs,_,o,es,ep,h1,h2,_⟩:=(show cU X.prog X.w H s.heap a (.dT kvs) from I.hok a _ ea);exact PySem.W.kia_one PySem.W.kitx_dict I.kIn ⟨o,h1,h2.1⟩ e (fun z=>nomatch z) h
 | @ins a C dx fs ea cl ha hn htk hm=>
  cases (show u=Value.ref a from rx);obtain⟨mA,O,_⟩:=nv I.hok ea;obtain⟨od,J,_⟩:=O.look;exact PySem.W.kia_one (PySem.W.kitx_own (cl.get _) cl.hd ha hn htk hm) I.kIn J e (fun z=>nomatch z) h
end
structure cc (k:Nat) (A:Around):Prop where
 hd:A.handled=none
 dp:A.depth + 3 * k + 5 < recursionLimit
 un:A.units + 16 * k + 200 < cLine
 gd:A.guards=some []
theorem cc.mono {j k:Nat} {A:Around} (r:cc k A) (h:j<=k):cc j A:=⟨r.hd,by have:=r.dp;lia,by have:=r.un;lia,r.gd⟩
theorem cc.deeper {k:Nat} {A:Around} (r:cc (k + 1) A) (env:Env):cc k (A.deeper env):=
 ⟨r.hd,by have:=r.dp;show A.depth + 1 + 3 * k + 5 < _;lia,by have:=r.un;show A.units + 3 + 16 * k + 200 < _;lia,r.gd⟩
theorem vm {A:Around} {C:Addr} {us:Lv} {kw:List (Str×Value)}:(A.under (.builtin "type.__call__" ⟨.ref C::us,kw⟩)).depth=A.depth + 1:=by
 first | rfl | simp [Around.under,Code.weight,Code.isCreation,Code.isGuard,Code.isCaller,Code.frames,Code.isFrame,guardIds]
theorem vj {A:Around} {C:Addr} {us:Lv} {kw:List (Str×Value)}:(A.under (.builtin "type.__call__" ⟨.ref C::us,kw⟩)).units=A.units + 1:=by
 first | rfl | simp [Around.under,Code.cUnits,Code.frames,Code.isFrame]
theorem tR {A:Around} {C:Addr} {us:Lv} {kw:List (Str×Value)}:(A.under (.builtin "type.__call__" ⟨.ref C::us,kw⟩)).guards=A.guards:=by
 first | rfl | simp [Around.under,pushGuards,Code.guards,Code.isGuard,guardIds] | (cases A;simp [Around.under,pushGuards,Code.guards,Code.isGuard,guardIds])
theorem cc.make {k:Nat} {A:Around} (r:cc (k + 1) A) (C:Addr) (us:Lv) (kw:List (Str×Value)):cc k (A.under (.builtin "type.__call__" ⟨.ref C::us,kw⟩)):=
 ⟨r.hd,by have:=r.dp;rw[vm];lia,by have:=r.un;rw[vj];lia,by have:=r.gd;rw[tR];exact this⟩
theorem cc.depth {k:Nat} {A:Around} (r:cc k A):A.depth < recursionLimit:=by have:=r.dp;lia
def nF:TA:=fun _ H Q=>Q [] H
def nG (ta:TE) (tr:TA):TA:=fun σ H Q=>ta σ H fun x H1=>tr σ H1 fun xs H2=>Q (x::xs) H2
section
variable {X:Cx} {e:Expr} {es:List Expr} {te:TE} {t:TA} {pos:Pos}
theorem rz:PA X [] nF:=fun _ _ _ _ H Q I h=>Calls.spliced_nil ⟨[],H,I,.nil,h⟩
theorem nq (ha:PE X e te) (hr:PA X es t) (hs:autoParam (starEach (e::es) X.env=(false,eval e X.env)::starEach es X.env) wE):PA X (e::es) (nG te t):=by
 intro pos pins s σ H Q I h;rw[hs];show wpAny _ _ (spliced ((false,eval e X.env)::backTo pos (starEach es X.env))) _ _ s;refine Calls.spliced_cons (thn (ha pins s σ H _ I h) fun u s1 Z=>?_);obtain⟨x,H1,I1,r1,q1⟩:=Z;exact thn (hr pos pins s1 σ H1 _ I1 q1) fun us s2 ⟨xs,H2,I2,r2,q2⟩=>⟨x::xs,H2,I2,.cons r1 r2,q2⟩
def Hg (t:TA):TE:=fun σ H Q=>t σ H fun xs H1=>xs.length<=sizeLine/\∀ p,H1 p=none->Q (.ref p) (upd H1 p (.tup xs))
def Hj (t:TA):TE:=fun σ H Q=>t σ H fun xs H1=>xs.length<=sizeLine/\∀ p,H1 p=none->Q (.ref p) (upd H1 p (.lst xs))
theorem Ff {x1} (h:PA X es t):PE X (.Tuple es x1 pos) (Hg t):=by
 intro pins s σ H Q I hq;refine wpAny_Tuple_spliced (thn (h pos pins s σ H _ I hq) fun us s1 ⟨xs,H1,I1,r,z,q⟩=>⟨by rw[<- r.length];exact z,?_⟩);have hf:H1 s1.heap.objs.size=none:=I1.hok.fresh (Nat.le_refl _);refine⟨.ref s1.heap.objs.size,upd H1 s1.heap.objs.size (.tup xs),I1.laid (t':=s1.toks) (fun b u e=>Heap.get?_push_of_some _ e) (Nat.le_refl _) ?_,rfl,q _ hf⟩;exact⟨z,us,r,⟨_,Heap.get?_push_size _ rfl,rfl,_,rfl⟩⟩
theorem Fl (h:PA X es t):PE X (.List es pos) (Hj t):=by
 intro pins s σ H Q I hq;refine wpAny_List_spliced (thn (h pos pins s σ H _ I hq) fun us s1 ⟨xs,H1,I1,r,z,q⟩=>⟨by rw[<- r.length];exact z,?_⟩);have hf:H1 s1.heap.objs.size=none:=I1.hok.fresh (Nat.le_refl _);refine⟨.ref s1.heap.objs.size,upd H1 s1.heap.objs.size (.lst xs),I1.laid (t':=s1.toks) (fun b u e=>Heap.get?_push_of_some _ e) (Nat.le_refl _) ?_,rfl,q _ hf⟩;exact⟨z,us,0,r,Heap.get?_push_size _ rfl⟩
end
abbrev Sp:=List V->Hp->VK->XK->Prop
abbrev CXT:=List Env->Hp->Shared->XK->Value->Shared->Prop
structure wb (P:Program) (w:World) (K:Fg0) (mg:SV) (base:Heap) (A:Around) (outer:List Env) (s:Shared) (H:Hp):Prop where
 frames:A.frames=some outer
 mod:Mod K mg base
 bs:∀ b o,base.get? b=some o->s.heap.get? b=some o/\Kpt H b o
 bsz:base.objs.size<=s.heap.objs.size
 l8:s.heap.FunFrames base outer
 frf:∀ b∈frs outer,H b=none
 hok:HOk P w H s.heap
 bare:AllBare s.gens
 tb:TabsAt base H
def CE (outer:List Env) (P:Program) (w:World) (H:Hp) (s:Shared) (Q:VK) (u:Value) (s':Shared):Prop:=
 ∃ v H',s'.os=s.os/\AllBare s'.gens/\Un (frs outer) [] H H' s.heap s'.heap/\HOk P w H' s'.heap/\RelV v u/\Q v H'
def CR (CX:CXT) (outer:List Env) (P:Program) (w:World) (H:Hp) (s:Shared) (Q:VK) (E:XK) (r:Result) (s':Shared):Prop:=
 match r with
 | .ok (.ret u)=>CE outer P w H s Q u s'
 | .ok _=>False
 | .error e=>CX outer H s E e s'
structure aQ (P:Program) (w:World) (K:Fg0) (mg:SV) (base:Heap) (CX:CXT) (k:Nat) (f:Addr) (fd:FuncData) (ps:Ls) (sp:Sp):Prop where
 len:∀ vs H Q E,sp vs H Q E->vs.length=ps.length
 run:∀ (A:Around) (outer:List Env) (s:Shared) (H:Hp) (args:Args) (us:Lv) (vs:List V) (Q:VK) (E:XK),cc k A->wb P w K mg base A outer s H->BindsTo s fd args (ps.zip us)->Vals vs us->sp vs H Q E->
  codeAny (model P w) A (.call (.ref f) args) (CR CX outer P w H s Q E) s
theorem aQ.imp {P:Program} {w:World} {K:Fg0} {mg:SV} {base:Heap} {CX:CXT} {k:Nat} {f:Addr} {fd:FuncData} {ps:Ls} {sp sp':Sp} (F:aQ P w K mg base CX k f fd ps sp)
  (h:∀ vs H Q E,sp' vs H Q E->sp vs H Q E):aQ P w K mg base CX k f fd ps sp':=
 ⟨fun vs H Q E q=>F.len vs H Q E (h _ _ _ _ q),fun A outer s H args us vs Q E hr he hb hv hs=>F.run A outer s H args us vs Q E hr he hb hv (h _ _ _ _ hs)⟩
theorem wb.make {P:Program} {w:World} {K:Fg0} {mg:SV} {base:Heap} {A:Around} {outer:List Env} {s:Shared} {H:Hp} (e:wb P w K mg base A outer s H) (C:Addr) (us:Lv) (kw:List (Str×Value)) :
  wb P w K mg base (A.under (.builtin "type.__call__" ⟨.ref C::us,kw⟩)) outer s H:=⟨by first | exact e.frames | (simpa [Around.under,Code.envs,Code.isFrame,pushEnvs] using e.frames),e.mod,e.bs,e.bsz,e.l8,e.frf,e.hok,e.bare,e.tb⟩
section
variable {X:Cx} {pins:Pn} {σ:St} {H:Hp} {s s':Shared}
theorem Inv.Ja (I:Inv X pins σ H s):wb X.prog X.w X.K X.mg X.base X.A X.stack s H:=
 ⟨I.ok.frames,I.ok.mod,I.bs,Nat.le_trans I.ok.bsz I.sz,I.stack,I.wu,I.hok,I.bare,I.tb⟩
theorem Inv.after {Q:VK} {u:Value} (I:Inv X pins σ H s) (h:CE X.stack X.prog X.w H s Q u s'):EP X pins σ Q u s':=by
 obtain⟨v,H',os,bare,un,hok,r,q⟩:=h;obtain⟨hh,g,d,t,os'⟩:=s';obtain rfl:os'=s.os:=os;exact⟨v,H',I.call (h':=hh) (g':=g) (d':=d) (t':=t) (ch:=[]) un hok bare (fun b z=>absurd z (by simp)),r,q⟩
end
def md (sp:Sp) (dvs:List V) (E:XK) (t:TA):TE:=fun σ H Q=>t σ H fun vs H1=>sp (vs++dvs) H1 Q E
def sL (C:Addr) (m:Str) (sp:Sp) (dvs:List V) (E:XK) (ta:TE) (t:TA):TE:=fun σ H Q=>ta σ H fun x H1=>∃ a dx fs,x=.ref a/\H1 a=some (.ins C dx fs)/\fs.lookup m=none/\
 t σ H1 fun vs H2=>sp (x::(vs++dvs)) H2 Q E
def y6 (C:Addr) (sp:Sp) (dvs:List V) (E:XK) (t:TA):TE:=fun σ H Q=>t σ H fun vs H1=>∀ x dx,H1 x=none->H1 dx=none->dx≠x->
 sp (.ref x::(vs++dvs)) (upd (upd H1 dx (.own x)) x (.ins C dx [])) (fun v H2=>v=.non/\Q (.ref x) H2) E
def Binds (K:Fg0) (fd:FuncData) (ps:Ls) (ds:Lv):Prop:=
 ∀ (s:Shared) (us:Lv),K.In s.heap->(us++ds).length=ps.length->BindsTo s fd ⟨us,[]⟩ (ps.zip (us++ds))
theorem Binds.all {K:Fg0} {fd:FuncData} {ps:Ls} (h:∀ us:Lv,us.length=ps.length->bindArgs fd ⟨us,[]⟩=pure (ps.zip us)):Binds K fd ps []:=fun s us _ hl=>by
 rw[List.append_nil] at hl ⊢;exact .of_eq (h us hl)
def Passes (CX:CXT) (X:Cx) (E:XK):Prop:=∀ (pins:Pn) (σ:St) (H:Hp) (s:Shared) (e:Value) (s':Shared),Inv X pins σ H s->CX X.stack H s E e s'->X.xe e s'
section
variable {X:Cx} {CX:CXT} {k:Nat} {f C:Addr} {fd:FuncData} {ps:Ls} {sp:Sp} {dvs:List V} {ds:Lv} {E:XK} {x m:Str} {p pos apos:Pos} {e o:Expr} {es:List Expr} {ta:TE} {t:TA}
theorem nS {pins:Pn} {σ:St} {H:Hp} {s:Shared} {Q:VK} {us:Lv} {vs:List V} (F:aQ X.prog X.w X.K X.mg X.base CX k f fd ps sp) (hr:cc k X.A) (hb:Binds X.K fd ps ds) (hd:Vals dvs ds) (hx:Passes CX X E)
  (I:Inv X pins σ H s) (r:Vals vs us) (h:sp (vs++dvs) H Q E):wpAny (model X.prog X.w) X.A (call (.ref f) us) (EP X pins σ Q) X.xe s:=by
 have r2:Vals (vs++dvs) (us++ds):=r.append hd;have hl:(us++ds).length=ps.length:=by rw[<- r2.length];exact F.len _ _ _ _ h
 refine wpAny_call (codeAny_mono (F.run X.A X.stack s H ⟨us,[]⟩ (us++ds) (vs++dvs) Q E hr I.Ja (hb s us I.kIn hl) r2 h) fun r s' hq=>?_);cases r with
 | error e=>exact hx pins σ H s e s' I hq
 | ok fl=>
  cases fl with
  | ret u=>exact I.after hq
  | next=>exact False.elim hq
  | brk=>exact False.elim hq
  | cont=>exact False.elim hq
theorem wQ (F:aQ X.prog X.w X.K X.mg X.base CX k f fd ps sp) (hr:cc k X.A) (hg:Gl X x) (hm:X.mg x=some (.ref f)) (hk:PySem.W.keepIn X.K (.ref f)=true) (hb:Binds X.K fd ps ds) (hd:Vals dvs ds) (hx:Passes CX X E)
  (ha:PA X (e::es) t) (hdb:autoParam ((x == ("__debug__":Str))=false) wP) (he:autoParam (starEach (e::es) X.env=(false,eval e X.env)::starEach es X.env) wE) (hpl:autoParam ((backTo pos (starEach es X.env)).any (·.1)=false) wE) :
  PE X (.Call (.Name x p) (e::es) [] pos) (md sp dvs E t):=by
 intro pins s σ H Q I h;refine wpAny_Call_Name_kw (kE I hg hm ?_ hdb);refine PySem.W.callWith_K (h₀:=X.base) I.ok.mod.kin hk (thn (ha pos pins s σ H _ I h) fun us s1 ⟨vs,H1,I1,r,q⟩=>⟨I1.kIn,?_⟩) he hpl;exact nS F hr hb hd hx I1 r q
theorem zU (F:aQ X.prog X.w X.K X.mg X.base CX k f fd ps sp) (hr:cc k X.A) (hg:Gl X x) (hm:X.mg x=some (.ref f)) (hk:PySem.W.keepIn X.K (.ref f)=true) (hb:Binds X.K fd ps ds) (hd:Vals dvs ds) (hx:Passes CX X E)
  (hdb:autoParam ((x == ("__debug__":Str))=false) wP):PE X (.Call (.Name x p) [] [] pos) (md sp dvs E nF):=by
 intro pins s σ H Q I h;refine wpAny_Call_Name_kw (kE I hg hm ?_ hdb);exact PySem.W.callWith_K0 I.kIn hk (nS (us:=[]) F hr hb hd hx I .nil h)
theorem Cp {pl:Sem Bool} (he:PE X o ta) (c:Cls X.K C) (hm:Meth X.K C m f) (F:aQ X.prog X.w X.K X.mg X.base CX k f fd ps sp) (hr:cc k X.A) (hb:Binds X.K fd ps ds) (hd:Vals dvs ds) (hx:Passes CX X E) (ha:PA X (e::es) t)
  (hst:autoParam (starEach (e::es) X.env=(false,eval e X.env)::starEach es X.env) wE) (hpl:autoParam ((backTo pos (starEach es X.env)).any (·.1)=false) wE)
  (ht:eval (.Call (.Attribute o m apos) (e::es) [] pos) X.env=(do
   let ov <- eval o X.env
   standAt apos.atName
   let (f,first) <- holding [ov] (getMethod ov m pl)
   callWith pos f first (backTo pos (starEach (e::es) X.env)) (backToKw pos (keywordEach [] X.env))):=by rfl) :
  PE X (.Call (.Attribute o m apos) (e::es) [] pos) (sL C m sp dvs E ta t):=by
 intro pins s σ H Q I h;refine PySem.W.methodCall_KW (pl:=pl) (thn (he pins s σ H _ I h) fun u s1 Z=>?_) ht;obtain⟨x,H1,I1,rx,a,dx,fs,ex,ea,l,q⟩:=Z;subst ex;obtain rfl:u=Value.ref a:=rx;refine j4 I1 ea c hm l ?_;refine PySem.W.callWith_K (first:=[.ref a]) (h₀:=X.base) I.ok.mod.kin hm.kp (thn (ha pos pins s1 σ H1 _ I1 q) fun us s2 ⟨vs,H2,I2,r,q2⟩=>⟨I2.kIn,?_⟩) hst hpl;exact nS (us:=.ref a::us) (vs:=.ref a::vs) F hr hb hd hx I2 (.cons rfl r) q2
theorem zP {pl:Sem Bool} (he:PE X o ta) (c:Cls X.K C) (hm:Meth X.K C m f) (F:aQ X.prog X.w X.K X.mg X.base CX k f fd ps sp) (hr:cc k X.A) (hb:Binds X.K fd ps ds) (hd:Vals dvs ds) (hx:Passes CX X E)
  (ht:eval (.Call (.Attribute o m apos) [] [] pos) X.env=(do
   let ov <- eval o X.env
   standAt apos.atName
   let (f,first) <- holding [ov] (getMethod ov m pl)
   callWith pos f first (backTo pos (starEach [] X.env)) (backToKw pos (keywordEach [] X.env))):=by rfl) :
  PE X (.Call (.Attribute o m apos) [] [] pos) (sL C m sp dvs E ta nF):=by
 intro pins s σ H Q I h;refine PySem.W.methodCall_KW (pl:=pl) (thn (he pins s σ H _ I h) fun u s1 Z=>?_) ht;obtain⟨x,H1,I1,rx,a,dx,fs,ex,ea,l,q⟩:=Z;subst ex;obtain rfl:u=Value.ref a:=rx;refine j4 I1 ea c hm l ?_;exact PySem.W.callWith_K0 (first:=[.ref a]) I1.kIn hm.kp (nS (us:=[.ref a]) (vs:=[.ref a]) F hr hb hd hx I1 (.cons rfl .nil) q)
structure Mk (K:Fg0) (C f:Addr):Prop where
 makes:PySem.W.makesIn K C=true
 init:PySem.W.findIn K (.ref C) "__init__"=some (some (.ref f))
 fn:PySem.W.isFn K (.ref f)=true
 kp:PySem.W.keepIn K (.ref C)=true
theorem zg {pins:Pn} {σ:St} {H:Hp} {s:Shared} {Q:VK} {us:Lv} {vs:List V} (M:Mk X.K C f) (F:aQ X.prog X.w X.K X.mg X.base CX k f fd ps sp) (hr:cc (k + 1) X.A) (hb:Binds X.K fd ps ds) (hd:Vals dvs ds)
  (hx:Passes CX X E) (I:Inv X pins σ H s) (r:Vals vs us)
  (h:∀ x dx,H x=none->H dx=none->dx≠x->sp (.ref x::(vs++dvs)) (upd (upd H dx (.own x)) x (.ins C dx [])) (fun v H2=>v=.non/\Q (.ref x) H2) E) :
  wpAny (model X.prog X.w) X.A (call (.ref C) us) (EP X pins σ Q) X.xe s:=by
 have hq:=h (s.heap.objs.size + 1) s.heap.objs.size (I.hok.fresh (Nat.le_succ _)) (I.hok.fresh (Nat.le_refl _)) (Nat.ne_of_lt (Nat.lt_succ_self _));have I2:=Inv.made (C:=C) I;have r2:Vals (V.ref (s.heap.objs.size + 1)::(vs++dvs)) (Value.ref (s.heap.objs.size + 1)::(us++ds)):=.cons rfl (r.append hd);have hl:(Value.ref (s.heap.objs.size + 1)::us++ds).length=ps.length:=by
  have e:=r2.length;rw[F.len _ _ _ _ hq] at e;exact e.symm
 refine wpAny_call (Ao (f:=f) I.kIn M.makes M.init (beq_iff_eq.mp M.fn) (codeAny_mono (F.run _ X.stack _ _ ⟨Value.ref (s.heap.objs.size + 1)::us,[]⟩ (Value.ref (s.heap.objs.size + 1)::(us++ds)) _ _ E (hr.make C us [])
  (I2.Ja.make C us []) (hb _ (Value.ref (s.heap.objs.size + 1)::us) I2.kIn hl) r2 hq) fun r s' hq'=>?_))
 cases r with
 | error e=>exact hx pins σ _ _ e s' I2 hq'
 | ok fl=>
  cases fl with
  | ret u=>
   obtain⟨v,H',I3,rv,ev,q3⟩:=I2.after hq';subst ev;exact⟨rv,⟨V.ref (s.heap.objs.size + 1),H',I3,rfl,q3⟩⟩
  | next=>exact False.elim hq'
  | brk=>exact False.elim hq'
  | cont=>exact False.elim hq'
theorem Cq (M:Mk X.K C f) (F:aQ X.prog X.w X.K X.mg X.base CX k f fd ps sp) (hr:cc (k + 1) X.A) (hg:Gl X x) (hm:X.mg x=some (.ref C)) (hb:Binds X.K fd ps ds) (hd:Vals dvs ds) (hx:Passes CX X E)
  (ha:PA X (e::es) t) (hdb:autoParam ((x == ("__debug__":Str))=false) wP) (he:autoParam (starEach (e::es) X.env=(false,eval e X.env)::starEach es X.env) wE) (hpl:autoParam ((backTo pos (starEach es X.env)).any (·.1)=false) wE) :
  PE X (.Call (.Name x p) (e::es) [] pos) (y6 C sp dvs E t):=by
 intro pins s σ H Q I h;refine wpAny_Call_Name_kw (kE I hg hm ?_ hdb);refine PySem.W.callWith_K (h₀:=X.base) I.ok.mod.kin M.kp (thn (ha pos pins s σ H _ I h) fun us s1 ⟨vs,H1,I1,r,q⟩=>⟨I1.kIn,?_⟩) he hpl;exact zg M F hr hb hd hx I1 r q
end
section
variable {X:Cx} {CX:CXT} {k:Nat} {f C:Addr} {fd:FuncData} {ps ks:Ls} {sp:Sp} {E:XK} {x m:Str} {p pos apos kpos:Pos} {e o:Expr} {es:List Expr} {kws:List Keyword} {te ta:TE} {t tk:TA} {nm:Option Str}
variable {g:Lv->Lv->Lv} {gV:List V->List V->List V}
end
structure aC (N P:Ls) (sc:Scope):Prop where
 kind:sc.kind=.function
 co:sc.isCoroutine=false
 gen:sc.isGenerator=false
 nd:N.Nodup
 pre:N.take P.length=P
 par:∀ x∈P,sc.names.lookup x=some .local\/sc.names.lookup x=some .cell
 nofree:∀ y∈sc.names,y.2≠.free
theorem qx {kindOf:Str->Option NameKind} {x:Str}:∀ {binds:List (Str×Value)} {m:SV},(∀ v,(x,v)∉binds)->bindL kindOf binds m x=m x
 | [],_,_=>rfl
 | (n,v)::r,m,h=>by
  unfold bindL;rw[qx fun w hw=>h w (List.mem_cons_of_mem _ hw)];split
  ·have:x≠n:=by rintro rfl;exact h v List.mem_cons_self
   simp [this]
  ·rfl
theorem qA {kindOf:Str->Option NameKind} {x:Str}:∀ {binds:List (Str×Value)} {m:SV},(∀ v,(x,v)∉binds)->bindC kindOf binds m x=m x
 | [],_,_=>rfl
 | (n,v)::r,m,h=>by
  unfold bindC;rw[qA fun w hw=>h w (List.mem_cons_of_mem _ hw)];split
  ·rfl
  ·have:x≠n:=by rintro rfl;exact h v List.mem_cons_self
   simp [this]
theorem qz {kindOf:Str->Option NameKind} {x:Str} {v:Value}:∀ {P:Ls} {vs:Lv} {i:Nat} {m:SV},P.Nodup->P[i]?=some x->vs[i]?=some v->kindOf x=some .local->
  bindL kindOf (P.zip vs) m x=some v
 | [],_,_,_,_,h,_,_=>by simp at h
 | _::_,[],_,_,_,_,h,_=>by simp at h
 | p::P,w::vs,0,m,nd,h1,h2,hk=>by
  simp at h1 h2;subst h1;subst h2;show bindL kindOf ((p,w)::P.zip vs) m p=_;unfold bindL;rw[qx fun v hv=>(List.nodup_cons.mp nd).1 (List.of_mem_zip hv).1,if_pos hk];simp
 | p::P,w::vs,i + 1,m,nd,h1,h2,hk=>by
  show bindL kindOf ((p,w)::P.zip vs) m x=_;unfold bindL;exact qz (i:=i) (List.nodup_cons.mp nd).2 (by simpa using h1) (by simpa using h2) hk
theorem qB {kindOf:Str->Option NameKind} {x:Str} {v:Value}:∀ {P:Ls} {vs:Lv} {i:Nat} {m:SV},P.Nodup->P[i]?=some x->vs[i]?=some v->kindOf x≠some .local->
  bindC kindOf (P.zip vs) m x=some v
 | [],_,_,_,_,h,_,_=>by simp at h
 | _::_,[],_,_,_,_,h,_=>by simp at h
 | p::P,w::vs,0,m,nd,h1,h2,hk=>by
  simp at h1 h2;subst h1;subst h2;show bindC kindOf ((p,w)::P.zip vs) m p=_;unfold bindC;rw[qA fun v hv=>(List.nodup_cons.mp nd).1 (List.of_mem_zip hv).1,if_neg hk];simp
 | p::P,w::vs,i + 1,m,nd,h1,h2,hk=>by
  show bindC kindOf ((p,w)::P.zip vs) m x=_;unfold bindC;exact qB (i:=i) (List.nodup_cons.mp nd).2 (by simpa using h1) (by simpa using h2) hk
noncomputable def start (N:Ls) (vs:List V):St:=vs.map some++List.replicate (N.length - vs.length) none
noncomputable def uk (CX:CXT) (P:Program) (w:World) (K:Fg0) (mg:SV) (base:Heap) (N:Ls) (qual:Str) (scope:Scope) (f:Addr) (cd:Value) (A:Around) (outer:List Env) (s:Shared) (H:Hp) (E:XK):Cx where
 prog:=P
 w:=w
 K:=K
 mg:=mg
 base:=base
 A:=A.deeper (envOfC qual scope s.heap.objs.size f cd)
 N:=N
 s₀:=s
 H₀:=H
 env:=envOfC qual scope s.heap.objs.size f cd
 outer:=outer
 stack:=envOfC qual scope s.heap.objs.size f cd::outer
 ex:=[]
 calm:=true
 fn:=fun _=>true
 pn:=[]
 xe:=fun e s'=>wpAny (model P w) (A.deeper (envOfC qual scope s.heap.objs.size f cd)) (leaving (envOfC qual scope s.heap.objs.size f cd) e) (fun _ s''=>CX outer H s E e s'') (fun e' s''=>CX outer H s E e' s'') s'
theorem uo {sc:Scope} {n:Nat} {x:Str} (h:sc.names.lookup x=some .cell):∃ c,(cellsFrom n sc.names []).lookup x=some c:=by
 have q:=PySem.W.cellsFrom_some sc.names n [] (.inl h);exact Option.isSome_iff_exists.mp q
theorem yz {CX:CXT} {P:Program} {w:World} {K:Fg0} {mg:SV} {base:Heap} {N ps:Ls} {qual:Str} {scope:Scope} {f:Addr} {cd:Value} {A:Around} {outer:List Env} {s s1:Shared} {H:Hp} {E:XK} {us:Lv} {vs:List V}
  (S:aC N ps scope) (hd:A.handled=none) (e0:wb P w K mg base A outer s H) (hl:vs.length=ps.length) (r:Vals vs us)
  (x:InCallC s s.heap.objs.size (bindL (envOfC qual scope s.heap.objs.size f cd).kindOf (ps.zip us) fun _=>none) (cellsFrom (s.heap.objs.size + 1) scope.names []) (bindC (envOfC qual scope s.heap.objs.size f cd).kindOf (ps.zip us) fun _=>none) s1) :
  Inv (uk CX P w K mg base N qual scope f cd A outer s H E) [] (start N vs) H s1:=by
 have hpl:ps.length<=N.length:=by have:=congrArg List.length S.pre;rw[List.length_take] at this;lia
 obtain⟨h1,tk,rfl,hk⟩:=x.done;have noA:∀ b:Addr,b∉(uk CX P w K mg base N qual scope f cd A outer s H E).ex:=fun b z=>absurd (show b∈([]:La0) from z) (by simp);refine⟨⟨e0.mod,S.kind,rfl,rfl,Nat.le_refl _,fun y z c h1 h2=>?_,fun y hy=>?_,fun y c _ h=>?_,fun _=>hd,Around.frames_deeper e0.frames,.inr ⟨rfl,rfl⟩,fun b z=>absurd z (noA b),e0.bs,e0.bsz,fun b _ _=>noA b,fun b z=>absurd z (noA b),e0.l8,e0.frf,e0.tb⟩,
  rfl,e0.bare,Un.kept hk,⟨_,x.toInCall.ns,fun i y v h1 h2 h3=>?_⟩,fun y c h=>⟨_,x.cell y c h⟩,e0.hok.fresh (Nat.le_refl _),fun y c h=>?_,fun p hp=>absurd (show p∈([]:Pn) from hp) (by simp),e0.hok.kept hk,?_⟩
 ·exact name_of_addr x.apart (PySem.mem_of_lookup h1) (PySem.mem_of_lookup h2)
 ·have hy:scope.names.lookup y=some .cell\/scope.names.lookup y=some .free:=hy;rcases hy with hy | hy
  ·exact uo hy
  ·exact absurd rfl (S.nofree _ (PySem.mem_of_lookup hy))
 ·exact Nat.le_of_lt (x.above y c (PySem.mem_of_lookup h))
 ·have hi:i < vs.length:=by
   unfold start at h2;by_cases hi:i < vs.length
   ·exact hi
   ·rw[List.getElem?_append_right (by simpa using hi)] at h2;rw[List.getElem?_replicate] at h2;split at h2 <;> cases h2
  have ha:vs[i]?=some v:=by
   unfold start at h2;rw[List.getElem?_append_left (by simpa using hi),List.getElem?_map] at h2;cases e:vs[i]? with
   | none=>rw[e] at h2;cases h2
   | some a=>rw[e] at h2;cases h2;rfl
  obtain⟨u,hu,rv⟩:=r.get ha;have hp:ps[i]?=some y:=by
   rw[<- S.pre,List.getElem?_take_of_lt (by lia)];exact h1
  have ndP:ps.Nodup:=by rw[<- S.pre];exact S.nd.sublist (List.take_sublist _ _)
  refine⟨u,rv,?_⟩;rcases S.par y (List.mem_of_getElem? hp) with k | k
  ·exact .inl ⟨k,qz ndP hp hu k⟩
  ·obtain⟨c,e⟩:=uo (n:=s.heap.objs.size + 1) k;refine .inr ⟨.inl k,c,e,?_⟩;have q:=x.cell y c e;rw[qB ndP hp hu (by show scope.names.lookup y≠_;rw[k];decide)] at q;exact q
 ·exact e0.hok.fresh (Nat.le_of_lt (x.above y c (PySem.mem_of_lookup h)))
 ·unfold start;show _=N.length;rw[List.length_append,lM0,List.length_replicate];lia
theorem IZ {CX:CXT} {P:Program} {w:World} {K:Fg0} {mg:SV} {base:Heap} {k:Nat} {f:Addr} {name qual:Str} {params:Arguments} {body:List Stmt} {scope:Scope} {dV kV doc pm cdv ct oc:Value} {an od:Option Addr}
  {osl:Array (Option Value)} {N ps:Ls} {sp:Sp} (lk:K.lookup f=some ⟨oc,od,.func (PySem.W.fnOf name qual params body scope dV kV doc pm an cdv ct),osl⟩) (hcd:PySem.W.codeIn K cdv qual=true) (S:aC N ps scope)
  (len:∀ vs H Q E,sp vs H Q E->vs.length=ps.length)
  (hbody:∀ (A:Around) (outer:List Env) (s:Shared) (H:Hp) (vs:List V) (Q:VK) (E:XK),cc k (A.deeper (envOfC qual scope s.heap.objs.size f cdv))->sp vs H Q E->
   ∃ t,PSs (uk CX P w K mg base N qual scope f cdv A outer s H E) body t/\t { nx:=fun _ H'=>Q .non H',rt:=Q } (start N vs) H) :
  aQ P w K mg base CX (k + 1) f (PySem.W.fnOf name qual params body scope dV kV doc pm an cdv ct) ps sp:=by
 refine⟨len,fun A outer s H args us vs Q E hr e0 hb r hsp=>?_⟩;have hl:=len _ _ _ _ hsp;have KX:K.In s.heap:=e0.mod.kin.keeps fun b o e=>(e0.bs b o e).1;have lim:s.heap.NoLimit:=e0.mod.nolimit.keeps fun b o e=>(e0.bs b o e).1;have hkind:∀ y∈ps.zip us,scope.names.lookup y.1=some .local\/(scope.names.lookup y.1=some .cell/\((cellsFrom (s.heap.objs.size + 1) scope.names []).lookup y.1).isSome=true):=fun ⟨n,v⟩ hy=>by
  rcases S.par n (List.of_mem_zip hy).1 with q | q
  ·exact .inl q
  ·exact .inr ⟨q,PySem.W.cellsFrom_some _ _ _ (.inl q)⟩
 refine codeAny_call_function hr.depth (KX _ _ lk) rfl S.co S.gen rfl (PySem.W.codeRec_of KX hcd) (hb _ _ _ _ ?_);refine wpAny_newFunctionEnv_cells S.kind hkind fun env he s1 x=>?_;subst he;refine⟨lim.keeps x.toInCall.keep,codeAny_func ?_⟩;obtain⟨t,ht,hq⟩:=hbody A outer s H vs Q E (hr.deeper _) hsp;have I:Inv (uk CX P w K mg base N qual scope f cdv A outer s H E) [] (start N vs) H s1:=yz S hr.hd e0 hl r x;refine wpAny_mono (ht [] s1 (start N vs) H _ I hq) (fun fl s' hs=>?_) fun e s' hs=>hs;have fin:∀ {σ':St} {H':Hp} {v:V} {u:Value},Inv (uk CX P w K mg base N qual scope f cdv A outer s H E) [] σ' H' s'->RelV v u->Q v H'->CE outer P w H s Q u s':=
  fun {σ' H' v u} J rv q=>⟨v,H',J.os,J.bare,J.base,J.hok,rv,q⟩
 cases fl with
 | ret u=>
  obtain⟨v,σ',H',J,rv,q⟩:=hs;exact fin J rv q
 | next=>
  obtain⟨σ',H',J,q⟩:=hs;exact fin (v:=V.non) (u:=Value.none) J rfl q
 | brk=>
  obtain⟨_,_,_,q⟩:=hs;exact False.elim q
 | cont=>
  obtain⟨_,_,_,q⟩:=hs;exact False.elim q
section
variable {X:Cx} {x:Str} {p pos:Pos} {e:Expr} {es:List Expr} {t:TA} {id T:String} {r:List V->Hp->VK->Prop}
def tCB (r:List V->Hp->VK->Prop) (t:TA):TE:=fun σ H Q=>t σ H fun vs H1=>r vs H1 Q
theorem zT (hc:cK X (.builtin id) r) (hg:Gl X x) (hm:X.mg x=none) (hv:bootBuiltins x=some (.builtin id)) (ha:PA X (e::es) t) (hn:autoParam (x≠"__name__") wP) (hdb:autoParam ((x == ("__debug__":Str))=false) wP)
  (he:autoParam (starEach (e::es) X.env=(false,eval e X.env)::starEach es X.env) wE) (hpl:autoParam ((backTo pos (starEach es X.env)).any (·.1)=false) wE):PE X (.Call (.Name x p) (e::es) [] pos) (tCB r t):=by
 intro pins s σ H Q I h;refine wpAny_Call_Name_kw (jZ I hg hm hv ?_ hn hdb);exact PyProof.Rows.callWith_builtin1 (thn (ha pos pins s σ H _ I h) fun us s1 ⟨vs,H1,I1,r1,q1⟩=>hc pins s1 σ H1 vs us Q I1 r1 q1) he hpl
theorem yd (hc:cK X (.type T) r) (hg:Gl X x) (hm:X.mg x=none) (hv:bootBuiltins x=some (.type T)) (ha:PA X (e::es) t) (hn:autoParam (x≠"__name__") wP) (hdb:autoParam ((x == ("__debug__":Str))=false) wP)
  (he:autoParam (starEach (e::es) X.env=(false,eval e X.env)::starEach es X.env) wE) (hpl:autoParam ((backTo pos (starEach es X.env)).any (·.1)=false) wE):PE X (.Call (.Name x p) (e::es) [] pos) (tCB r t):=by
 intro pins s σ H Q I h;refine wpAny_Call_Name_kw (jZ I hg hm hv ?_ hn hdb);exact PyProof.Rows.callWith_type1 (thn (ha pos pins s σ H _ I h) fun us s1 ⟨vs,H1,I1,r1,q1⟩=>hc pins s1 σ H1 vs us Q I1 r1 q1) he hpl
end
end L2
namespace HT
open PySem PyProof.Rows
noncomputable def lexLt:Li->Li->Bool
 | [],[]=>false
 | [],_::_=>true
 | _::_,[]=>false
 | x::xs,y::ys=>if x=y then lexLt xs ys else decide (x < y)
theorem gQ (x y:Int) (xs ys:Li):lexLt (x::xs) (y::ys)=if x=y then lexLt xs ys else decide (x < y):=rfl
theorem pO:lexLt [] []=false:=rfl
theorem oz (y:Int) (ys:Li):lexLt [] (y::ys)=true:=rfl
theorem oA (x:Int) (xs:Li):lexLt (x::xs) []=false:=rfl
theorem AW (A:Around) (s:Shared) (a:Int) (t:Tok) (c:Int) (u:Tok):∃ e,SeqAt.EqAt A s (.int a t) (.int c u) e/\(e=true↔a=c):=
 ⟨(a == c),SeqAt.EqAt.int_int a t c u,by simp⟩
theorem zB (A:Around) (s:Shared) (a:Int) (t:Tok) (c:Int) (u:Tok) (prog:Program) (w:World) (E:VS) (Q:VS) (h:Q (.bool (decide (a < c))) s) :
  wpAny (model prog w) A (richCompare .Lt (.int a t) (.int c u)) Q E s:=
 (PyProof.Rows.lt_int h:wpAny (model prog w) A (compareOp .Lt (.int a t) (.int c u)) Q E s)
section
open PySem.SeqAt
open PySem.AutoSeq1 (wpAny_loadPart')
open PySem.MeetsSeq PySem.MeetsSeq2 PySem.MeetsSeq3
theorem pj (l b:Addr) (items items2:Array Value) (n n2:Nat) (dd dd2:Option Addr) (sl sl2:Array (Option Value)) (ns ms:Li) (hi:IntsAre items.toList ns) (hj:IntsAre items2.toList ms) :
  Meets (Builtin.«tuple.__lt__» ⟨[.ref l,.ref b],[]⟩)
   (fun _ R s=>s.heap.get? l=some { cls:=.type "tuple",dict:=dd,data:=.seq items n,slots:=sl }/\s.heap.get? b=some { cls:=.type "tuple",dict:=dd2,data:=.seq items2 n2,slots:=sl2 }/\
    R (.ok (.ret (.bool (lexLt ns ms)))) s):=
 .of_wp fun prog w A R s h=>by
  obtain⟨hp,g,d,tk,os⟩:=s;obtain⟨hl,hb,h⟩:=h;have f2:=AutoSeq1.sub_tuple_tuple;have z1:items.size=ns.length:=by rw[<- hi.length];simp
  have z2:items2.size=ms.length:=by rw[<- hj.length];simp
  wp_walk using wpAny_loadPart' hl,wpAny_loadPart' hb,wpAny_forIn_list _ (fun rest b s'=>b.1=none/\s'=⟨hp,g,d,tk,os⟩/\∃ (vs ws:Lv) (ns' ms':Li),rest=vs.zip ws/\
   IntsAre vs ns'/\IntsAre ws ms'/\ns'.length + items2.size=ms'.length + items.size/\R (.ok (.ret (.bool (lexLt ns' ms')))) ⟨hp,g,d,tk,os⟩) _
  case turn=>
   rintro⟨y,x⟩ rest b s' ⟨hb',rfl,vs,ws,ns',ms',hz,hvi,hwi,hlen,hR⟩;cases hvi with
   | nil=>rw[List.zip_nil_left] at hz;cases hz
   | cons a t hvi'=>
    cases hwi with
    | nil=>rw[List.zip_nil_right] at hz;cases hz
    | cons c u hwi'=>
     rw[List.zip_cons_cons] at hz;injection hz with hyx hrest
     injection hyx with hy hx
     subst hy hx;rw[gQ] at hR;simp only[List.length_cons] at hlen;obtain⟨e,he,hiff⟩:=AW A.in1 ⟨hp,g,d,tk,os⟩ a t c u;refine wpAny_bind (he prog w _ _ ?_);cases e with
     | true=>
      rw[if_pos (hiff.mp rfl)] at hR
      wp_walk
      exact⟨rfl,rfl,_,_,_,_,hrest,hvi',hwi',by lia,hR⟩
     | false=>
      rw[if_neg (fun q=>absurd (hiff.mpr q) Bool.false_ne_true)] at hR;have hri:=zB A.in1 ⟨hp,g,d,tk,os⟩ a t c u prog w
      wp_walk using hri
      exact⟨_,rfl,by simpa using hR⟩
  case fin=>
   rintro⟨b1,b2⟩ s' ⟨hb',rfl,vs,ws,ns',ms',hz,hvi,hwi,hlen,hR⟩;simp only at hb';subst hb';have hv:lexLt ns' ms'=decide (items.size < items2.size):=by
    cases hvi with
    | nil=>
     cases hwi with
     | nil=>
      simp only[List.length_nil] at hlen;rw[pO];exact(decide_eq_false (by lia)).symm
     | cons c u hw=>
      simp only[List.length_nil,List.length_cons] at hlen;rw[oz];exact(decide_eq_true (by lia)).symm
    | cons a t hv=>
     cases hwi with
     | nil=>
      simp only[List.length_nil,List.length_cons] at hlen;rw[oA];exact(decide_eq_false (by lia)).symm
     | cons c u hw=>
      rw[List.zip_cons_cons] at hz;cases hz
   rw[hv] at hR
   wp_walk
   exact⟨_,rfl,by simpa [Builtin.Tuple.tupleCompareSizes] using hR⟩
  case h=>
   exact⟨rfl,rfl,items.toList,items2.toList,ns,ms,rfl,hi,hj,by lia,h⟩
end
section
variable {prog:Program} {w:World} {A:Around} {E:VS} {s:Shared}
theorem oy {l b:Addr} {items items2:Array Value} {ns ms:Li} {Q:VS} (hl:IsTup s.heap l items) (hb:IsTup s.heap b items2) (hi:IntsAre items.toList ns) (hj:IntsAre items2.toList ms)
  (hu:A.units < cLine) (h:Q (.bool (lexLt ns ms)) s):wpAny (model prog w) A (compareOp .Lt (.ref l) (.ref b)) Q E s:=by
 obtain⟨⟨cls,dd,data,sl⟩,ho,hc,n,hd⟩:=id hl;obtain⟨⟨cls2,dd2,data2,sl2⟩,ho2,hc2,n2,hd2⟩:=id hb;simp only at hc hd hc2 hd2;subst hc hd hc2 hd2;exact richCompare_meets_room (op:=.Lt) ⟨_,ho,rfl⟩ ⟨_,ho2,rfl⟩ PySem.F.slot_tuple_lt PySem.F.entry_tuple_lt (PySem.F.args_tuple_lt_2 _ _) (pj l b items items2 n n2 dd dd2 sl sl2 ns ms hi hj)
  ⟨ho,ho2,show Value.bool (lexLt ns ms)≠Value.notImplemented/\Q (.bool (lexLt ns ms)) s from ⟨(fun x=>nomatch x),h⟩⟩ hu
noncomputable def sIx (n d:Nat):Option Int->Nat
 | none=>d
 | some v=>if v < 0 then (v + (n:Int)).toNat else min v.toNat n
theorem nR (n d:Nat):sIx n d none=d:=rfl
theorem wD (n d k:Nat):sIx n d (some (k:Int))=min k n:=by
 show (if (k:Int) < 0 then ((k:Int) + (n:Int)).toNat else min (k:Int).toNat n)=min k n;rw[if_neg (by lia),Int.toNat_natCast]
theorem EO (n d:Nat) (hd:d<=n) (o:Option Int):sIx n d o<=n:=by
 cases o with
 | none=>exact hd
 | some v=>
  show (if v < 0 then (v + (n:Int)).toNat else min v.toNat n)<=n;by_cases hv:v < 0
  ·rw[if_pos hv];lia
  ·rw[if_neg hv];exact Nat.min_le_right _ _
theorem xw (v:Int) (n d:Nat):(if v < 0 then max (v + (n:Int)) 0 else min v (n:Int))=((sIx n d (some v):Nat):Int):=by
 show (if v < 0 then max (v + (n:Int)) 0 else min v (n:Int))=(((if v < 0 then (v + (n:Int)).toNat else min v.toNat n):Nat):Int);by_cases hv:v < 0
 ·simp only[if_pos hv];lia
 ·simp only[if_neg hv];lia
theorem vY (lo hi:Option Int) (n:Nat):Builtin.Slice.sliceAdjust lo hi 1 (n:Int)=(((sIx n 0 lo:Nat):Int),((sIx n n hi:Nat):Int)):=by
 have h1:¬ ((1:Int) < 0):=by lia
 unfold Builtin.Slice.sliceAdjust;simp only[h1,if_false];refine Prod.ext ?_ ?_
 ·cases lo with
  | none=>rfl
  | some v=>exact xw v n 0
 ·cases hi with
  | none=>rfl
  | some v=>exact xw v n n
theorem uY (i j:Nat):Builtin.Slice.slicePlaces (i:Int) (j:Int) 1=j - i:=by
 unfold Builtin.Slice.slicePlaces;have h1:(1:Int) > 0:=by lia
 simp only[h1,if_true,Int.ediv_one];split <;> lia
theorem nM {v:Value} {o:Option Int} {Q:Option Int->Shared->Prop} (p:IsPart v o) (h:Q o s):wpAny (model prog w) A (Builtin.Slice.slicePartIndex v) Q E s:=by
 cases p with
 | none=>exact slicePart_none h
 | int i t=>exact slicePart_int h
theorem lK {sl:Addr} {vl vu:Value} {lo hi:Option Int} {n:Nat} {Q:Int×Int×Nat->Shared->Prop} (hs:s.heap.IsSliceOf sl vl vu .none) (pl:IsPart vl lo) (pu:IsPart vu hi)
  (h:Q (((sIx n 0 lo:Nat):Int),1,sIx n n hi - sIx n 0 lo) s):wpAny (model prog w) A (Builtin.Slice.sliceApplied (.ref sl) (pure (n:Int))) Q E s:=by
 obtain⟨os,hos,hcs,hds⟩:=id hs;unfold Builtin.Slice.sliceApplied Builtin.Slice.sliceFields;refine wpAny_bind (wpAny_bind (wpAny_field hos hds (x:=vl) rfl (wpAny_bind (wpAny_field hos hds (x:=vu) rfl (wpAny_bind (wpAny_field hos hds (x:=.none) rfl (wpAny_pure ?_)))))));refine wpAny_bind (slicePart_none ?_);show wpAny _ _ (if ((1:Int) == 0)=true then _ else _) _ _ s;rw[if_neg (by decide)];refine wpAny_bind (nM pl (wpAny_bind (nM pu (wpAny_bind (wpAny_pure ?_)))));show wpAny _ _ (match Builtin.Slice.sliceAdjust lo hi 1 (n:Int) with | (lo,hi)=>pure (lo,(1:Int),Builtin.Slice.slicePlaces lo hi 1)) _ _ s;rw[vY lo hi n];show wpAny _ _ (pure (((sIx n 0 lo:Nat):Int),(1:Int),Builtin.Slice.slicePlaces ((sIx n 0 lo:Nat):Int) ((sIx n n hi:Nat):Int) 1)) _ _ s;rw[uY];exact wpAny_pure h
theorem zM (xs:Array Value) (i k:Nat):((List.range k).filterMap fun (m:Nat)=>xs[((i:Int) + (m:Int) * 1).toNat]?).toArray=((xs.toList.drop i).take k).toArray:=by
 have e:(fun (m:Nat)=>xs[((i:Int) + (m:Int) * 1).toNat]?)=fun m=>xs[i + m]?:=by
  funext m
  have:((i:Int) + (m:Int) * 1).toNat=i + m:=by lia
  rw[this]
 rw[e];have:=pick_run xs i k;rw[List.filterMap_map] at this;have e2:((fun x=>xs[x]?) ∘ fun x=>i + x)=fun m=>xs[i + m]?:=rfl;rw[e2] at this;rw[this]
theorem kH {t sl:Addr} {items:Array Value} {vl vu:Value} {lo hi:Option Int} {Q:VS} (ht:IsTup s.heap t items) (hs:s.heap.IsSliceOf sl vl vu .none) (pl:IsPart vl lo) (pu:IsPart vu hi)
  (hw:¬ (sIx items.size 0 lo=0/\sIx items.size items.size hi=items.size))
  (h:Q (.ref s.heap.objs.size) { s with heap:=s.heap.push { cls:=.type "tuple",data:=.seq ((items.toList.drop (sIx items.size 0 lo)).take (sIx items.size items.size hi - sIx items.size 0 lo)).toArray } })
  (hsz:items.size<=sizeLine):wpAny (model prog w) A (getItem (.ref t) (.ref sl)) Q E s:=by
 have htake:sizeOk (.seq ((items.toList.drop (sIx items.size 0 lo)).take (sIx items.size items.size hi - sIx items.size 0 lo)).toArray):=by
  show ((items.toList.drop (sIx items.size 0 lo)).take (sIx items.size items.size hi - sIx items.size 0 lo)).toArray.size<=sizeLine;rw[List.size_toArray,List.length_take,List.length_drop,Array.length_toList];lia
 have hj:sIx items.size items.size hi<=items.size:=EO _ _ (Nat.le_refl _) hi;obtain⟨os,hos,hcs,hds⟩:=id hs;have hTs:s.TypeIs (.ref sl) "slice":=⟨os,hos,hcs⟩;unfold getItem
 try with_reducible refine wpAny_holding ?_
 first | refine wpAny_bind (wpAny_pure ?_) | skip
 refine wpAny_bind (wpAny_sequenceKey ht.typeIs (by decide) ?_);refine wpAny_bind (wpAny_callSpecial?_slot (name:=Str.ofString "__getitem__") ht.typeIs PyProof.Rows.slot_tuple_getitem
  (wpAny_call_entry PyProof.Rows.slot_tuple_getitem ht.typeIs entry_tuple_getitem ?_ (args_tuple_getitem _ _)))
 show wpAny _ _ (Builtin.Tuple.tupleItemsOf (.ref t) >>= _) _ _ s;refine wpAny_bind (tupleItemsOf_ ht ?_);refine wpAny_bind (wpAny_typeOf hTs ?_);rw[if_pos (by decide)];refine wpAny_bind (lK hs pl pu ?_);have hno:¬ ((((sIx items.size 0 lo:Nat):Int) == 0 && (1:Int) == 1 && (sIx items.size items.size hi - sIx items.size 0 lo) == items.size)=true):=by
  intro q;rw[Bool.and_eq_true,Bool.and_eq_true] at q;have q1:((sIx items.size 0 lo:Nat):Int)=0:=eq_of_beq q.1.1;have q2:sIx items.size items.size hi - sIx items.size 0 lo=items.size:=eq_of_beq q.2;exact hw ⟨by lia,by lia⟩
 show wpAny _ _ (if (((sIx items.size 0 lo:Nat):Int) == 0 && (1:Int) == 1 && (sIx items.size items.size hi - sIx items.size 0 lo) == items.size)=true then _ else _) _ _ s;rw[if_neg hno,zM]
 first
  | exact wpAny_bind (m:=Builtin.Tuple.tupleExact _) (wpAny_newObj_type (wpAny_pure ⟨_,rfl,wpAny_pure h⟩) htake)
  | exact wpAny_bind (m:=Builtin.Tuple.tupleExact _) (wpAny_newObj_type (wpAny_bind (wpAny_pure (wpAny_pure ⟨_,rfl,wpAny_pure h⟩))) htake)
  | exact wpAny_bind (wpAny_bind (m:=Builtin.Tuple.tupleExact _) (wpAny_newObj_type (wpAny_pure (wpAny_pure ⟨_,rfl,wpAny_pure h⟩)) htake))
  | exact wpAny_bind (wpAny_bind (m:=Builtin.Tuple.tupleExact _) (wpAny_newObj_type (wpAny_pure ⟨_,rfl,wpAny_pure h⟩) htake))
end
end HT
namespace L2
open PySem PySem.Spec PyProof.Rows
abbrev TO:=St->Hp->(Option Int->Hp->Prop)->Prop
def PO (X:Cx) (e:Option Expr) (t:TO):Prop:=
 ∀ (pins:Pn) (s:Shared) (σ:St) (H:Hp) (Q:Option Int->Hp->Prop),Inv X pins σ H s->t σ H Q->
  wpAny (model X.prog X.w) X.A (evalPart e X.env) (fun u s'=>∃ o H',Inv X pins σ H' s'/\IsPart u o/\Q o H') X.xe s
def wq:TO:=fun _ H Q=>Q none H
def DC (t:TE):TO:=fun σ H Q=>t σ H fun x H1=>∃ i,x=.int i/\Q (some i) H1
section
variable {X:Cx} {e:Expr} {te:TE} {lo hi:Option Expr} {tl th:TO} {pos p2:Pos}
theorem Ci:PO X none wq:=by
 intro pins s σ H Q I h;rw[evalPart_none];exact wpAny_pure ⟨none,H,I,.none,h⟩
theorem Cg (h:PE X e te):PO X (some e) (DC te):=by
 intro pins s σ H Q I hw;rw[evalPart_some];refine thn (h pins s σ H _ I hw) fun u s1 Z=>?_;obtain⟨x,H1,I1,r1,q1⟩:=Z;obtain⟨i,rfl,q⟩:=q1;obtain⟨t,rfl⟩:=r1;exact⟨some i,H1,I1,.int i t,q⟩
def SlR (X:Cx) (r:V->Option Int->Option Int->Hp->VK->Prop):Prop:=
 ∀ (pins:Pn) (s:Shared) (σ:St) (H:Hp) (x:V) (v vl vu:Value) (lo hi:Option Int) (sl:Addr) (Q:VK),Inv X pins σ H s->RelV x v->s.heap.IsSliceOf sl vl vu .none->IsPart vl lo->IsPart vu hi->r x lo hi H Q->
  ∃ T id,typeLookup (.type T) "__getitem__"=pure (some (.builtin id))/\s.TypeIs v T/\wpAny (model X.prog X.w) X.A (getItem v (.ref sl)) (EP X pins σ Q) X.xe s
def tSl (r:V->Option Int->Option Int->Hp->VK->Prop) (te:TE) (tl th:TO):TE:=fun σ H Q=>te σ H fun x H1=>tl σ H1 fun l H2=>th σ H2 fun u H3=>r x l u H3 Q
theorem nY {r:V->Option Int->Option Int->Hp->VK->Prop} (hr:SlR X r) (he:PE X e te) (hl:PO X lo tl) (hu:PO X hi th):PE X (.Subscript e (.Slice lo hi none p2) pos) (tSl r te tl th):=by
 intro pins s σ H Q I h;refine Subscript_ (thn (he pins s σ H _ I h) fun v s1 Z=>?_);obtain⟨x,H1,I1,r1,q1⟩:=Z;refine wpAny_Slice (thn (hl pins s1 σ H1 _ I1 q1) fun vl s2 ⟨l,H2,I2,pl,q2⟩=>thn (hu pins s2 σ H2 _ I2 q2) fun vu s3 Z=>?_);obtain⟨u,H3,I3,pu,q3⟩:=Z;rw[evalPart_none];refine wpAny_pure ?_;have I4:Inv X pins σ H3 { s3 with heap:=s3.heap.push { cls:=.type "slice",data:=.fields #[vl,vu,.none] } }:=I3.kept (t':=s3.toks) fun b ob q=>Heap.get?_push_of_some _ q;obtain⟨T,id,hT,ht,hg⟩:=hr pins { s3 with heap:=s3.heap.push { cls:=.type "slice",data:=.fields #[vl,vu,.none] } } σ H3 x v vl vu l u s3.heap.objs.size Q I4 r1 (Heap.IsSliceOf.new ..) pl pu q3;show wpAny (model X.prog X.w) X.A (subscriptTail e (.Slice lo hi none p2) v (.ref s3.heap.objs.size)) (EP X pins σ Q) X.xe { s3 with heap:=s3.heap.push { cls:=.type "slice",data:=.fields #[vl,vu,.none] } };exact tail_any (ops:=[.ref s3.heap.objs.size,v]) ht hT hg (by with_unfolding_all rfl)
noncomputable def pQ (xs:List V) (lo hi:Option Int):List V:=(xs.drop (HT.sIx xs.length 0 lo)).take (HT.sIx xs.length xs.length hi - HT.sIx xs.length 0 lo)
theorem mM (xs:List V) (lo hi:Option Int):(pQ xs lo hi).length<=xs.length:=by
 unfold pQ;rw[List.length_take,List.length_drop];lia
noncomputable def HJ (K:Fg0):V->Option Int->Option Int->Hp->VK->Prop:=fun x lo hi H Q=>∃ a xs,x=.ref a/\SqT K H a xs/\
 ¬ (HT.sIx xs.length 0 lo=0/\HT.sIx xs.length xs.length hi=xs.length)/\∀ p,H p=none->Q (.ref p) (upd H p (.tup (pQ xs lo hi)))
theorem EJ:SlR X (HJ X.K):=by
 intro pins s σ H x v vl vu lo hi sl Q I rx hs pl pu h;obtain⟨a,xs,rfl,hx,hw,q⟩:=h;cases rx;obtain⟨its,r,ht,hz⟩:=I.tuple hx;have hlen:its.toArray.size=xs.length:=by rw[List.size_toArray];exact r.length.symm
 refine⟨"tuple",_,PyProof.Rows.slot_tuple_getitem.lookup,ht.typeIs,?_⟩;refine HT.kH ht hs pl pu (by rw[hlen];exact hw) ?_ (by rw[hlen];exact hz);rw[hlen];refine⟨.ref s.heap.objs.size,_,I.laid (t':=s.toks) (o:=.tup (pQ xs lo hi)) (fun b ob q=>Heap.get?_push_of_some _ q) (Nat.le_refl _) ?_,rfl,q _ (I.hok.fresh (Nat.le_refl _))⟩;exact⟨Nat.le_trans (mM xs lo hi) hz,_,(r.drop (HT.sIx xs.length 0 lo)).take (HT.sIx xs.length xs.length hi - HT.sIx xs.length 0 lo),IsTup.new _ _⟩
end
noncomputable def ixN (n:Nat) (i:Int):Option Nat:=if 0<=i then (if i < n then some i.toNat else none) else if -(n:Int)<=i then some (i + n).toNat else none
noncomputable def atI {α:Type} (xs:List α) (i:Int):Option α:=(ixN xs.length i).bind fun j=>xs[j]?
theorem w6 {n:Nat} {i:Int} {j:Nat} (h:ixN n i=some j):seqIndex? i n=some j/\j < n/\-(n:Int)<=i/\i < n:=by
 unfold ixN at h;by_cases h0:0<=i
 ·rw[if_pos h0] at h;by_cases h1:i < n
  ·rw[if_pos h1] at h;have e:i.toNat=j:=Option.some.inj h;exact⟨by rw[seqIndex_of h0 h1,e],by lia,by lia,h1⟩
  ·rw[if_neg h1] at h;cases h
 ·rw[if_neg h0] at h;by_cases h1:-(n:Int)<=i
  ·rw[if_pos h1] at h;have e:(i + n).toNat=j:=Option.some.inj h;exact⟨by rw[seqIndex_neg (by lia) h1,e],by lia,h1,by lia⟩
  ·rw[if_neg h1] at h;cases h
theorem sk {α:Type} {xs:List α} {i:Int} {v:α} (h:atI xs i=some v):∃ j,seqIndex? i xs.length=some j/\xs[j]?=some v/\j < xs.length/\-(xs.length:Int)<=i/\i < xs.length:=by
 unfold atI at h;cases e:ixN xs.length i with
 | none=>rw[e] at h;cases h
 | some j=>
  rw[e] at h;obtain⟨h1,h2,h3,h4⟩:=w6 e;exact⟨j,h1,h,h2,h3,h4⟩
theorem Dp {α:Type} {xs:List α} {j:Nat} {v:α} (h:xs[j]?=some v):atI xs (j:Int)=some v:=by
 have hj:j < xs.length:=(gS0 h).1;have e:ixN xs.length (j:Int)=some j:=by
  unfold ixN;rw[if_pos (by lia),if_pos (by lia)];simp
 unfold atI;rw[e];exact h
def xN (b:Expr):Prop:=∀ o i,subscripted b false o i=operate [o,i] (getItem o i)
def IxR (X:Cx) (r:R2):Prop:=
 ∀ (value slice:Expr) (pins:Pn) (s:Shared) (σ:St) (H:Hp) (x y:V) (v u:Value) (Q:VK),Inv X pins σ H s->RelV x v->RelV y u->r x y H Q->
  subscripted slice false v u=operate [v,u] (getItem v u)->wpAny (model X.prog X.w) X.A (subscriptTail value slice v u) (EP X pins σ Q) X.xe s
def MtR (X:Cx) (id:String) (r:V->List V->Hp->VK->Prop):Prop:=
 ∀ (pins:Pn) (s:Shared) (σ:St) (H:Hp) (x:V) (xs:List V) (v:Value) (us:Lv) (Q:VK),Inv X pins σ H s->RelV x v->Vals xs us->r x xs H Q->
  wpAny (model X.prog X.w) X.A (call (.builtin id) (v::us)) (EP X pins σ Q) X.xe s
section
variable {X:Cx} {a b:Expr} {ta tb:TE} {pos:Pos}
theorem IxR.or {r r':R2} (h:IxR X r) (h':IxR X r'):IxR X (fun x y H Q=>r x y H Q\/r' x y H Q):=by
 intro value slice pins s σ H x y v u Q I rx ry q hs;rcases q with q | q
 ·exact h value slice pins s σ H x y v u Q I rx ry q hs
 ·exact h' value slice pins s σ H x y v u Q I rx ry q hs
theorem HY {r:R2} (hr:IxR X r) (ha:PE X a ta) (hb:PE X b tb) (hs:xN b):PE X (.Subscript a b pos) (tOp r ta tb):=by
 intro pins s σ H Q I h;exact Subscript_ (GY ha hb I h fun v u s2 x y H2 I2 rx ry q=>hr a b pins s2 σ H2 x y v u Q I2 rx ry q (hs _ _))
def HP (K:Fg0):R2:=fun x y H Q=>∃ p xs i v,x=.ref p/\y=.int i/\SqL K H p xs/\atI xs i=some v/\Q v H
def HM (K:Fg0):R2:=fun x y H Q=>∃ p xs i v,x=.ref p/\y=.int i/\SqT K H p xs/\atI xs i=some v/\Q v H
def HN:R2:=fun x y H Q=>∃ z i c,x=.str z/\y=.int i/\z.length<=sizeLine/\atI z.cps.toList i=some c/\Q (.str ⟨#[c]⟩) H
theorem C4:IxR X (HP X.K):=by
 intro value slice pins s σ H x y v u Q I rx ry h hs;obtain⟨p,xs,i,z,rfl,rfl,hq,he,q⟩:=h;cases rx;obtain⟨t,rfl⟩:=ry;obtain⟨its,r,pl,hz⟩:=I.list hq;obtain⟨j,h1,h2,h3,h4,h5⟩:=sk he;obtain⟨w,ew,rw'⟩:=r.get h2;have hl:=r.length;have hn:=lY;have fin:EP X pins σ Q w s:=⟨z,H,I,rw',q⟩;by_cases h0:0<=i
 ·have hj:i.toNat=j:=by
   rw[seqIndex_of h0 h5] at h1;exact Option.some.inj h1
  exact item_listR pl.isList h0 (by lia) (by rw[hj];simpa using ew) fin hs
 ·have hj:(i + (its.toArray.size:Int)).toNat=j:=by
   rw[seqIndex_neg (by lia) h4] at h1;rw[List.size_toArray,<- hl];exact Option.some.inj h1
  exact subscriptTail_builtinR (x:=w) pl.isList.typeIs slot_list_getitem.lookup
   (wpAny_getItem_list_neg (Q:=fun r s'=>r=w/\EP X pins σ Q r s') pl.isList (by lia) (by rw[List.size_toArray] <;> lia) (by lia) (by rw[hj];simpa using ew) ⟨rfl,fin⟩) hs
theorem Gh:IxR X (HM X.K):=by
 intro value slice pins s σ H x y v u Q I rx ry h hs;obtain⟨p,xs,i,z,rfl,rfl,hq,he,q⟩:=h;cases rx;obtain⟨t,rfl⟩:=ry;obtain⟨its,r,pl,hz⟩:=I.tuple hq;obtain⟨j,h1,h2,h3,h4,h5⟩:=sk he;obtain⟨w,ew,rw'⟩:=r.get h2;have hl:=r.length;have hn:=lY;have fin:EP X pins σ Q w s:=⟨z,H,I,rw',q⟩;exact subscriptTail_builtinR (x:=w) pl.typeIs slot_tuple_getitem.lookup
  (getItem_tuple (j:=j) (Q:=fun r s'=>r=w/\EP X pins σ Q r s') pl (by lia) (by lia) (by rw[List.size_toArray,<- hl];exact h1) (by simpa using ew) ⟨rfl,fin⟩) hs
theorem Gi:IxR X HN:=by
 intro value slice pins s σ H x y v u Q I rx ry h hs;obtain⟨z,i,c,rfl,rfl,hz,he,q⟩:=h;obtain⟨t,rfl⟩:=rx;obtain⟨t',rfl⟩:=ry;obtain⟨j,h1,h2,h3,h4,h5⟩:=sk he;have hl:z.cps.toList.length=z.length:=by simp [Str.length]
 rw[hl] at h1 h4 h5;have hn:=lY;exact tail_any (typeIs_str s z t) slot_str_getitem.lookup (getItem_str (c:=c) (by
  have e1:decide (i < -(2 ^ 63:Int))=false:=decide_eq_false (by lia);have e2:decide (i≥2 ^ 63)=false:=decide_eq_false (by lia);rw[e1,e2,Bool.or_false]) (by rw[h1];simpa using h2) ⟨.str ⟨#[c]⟩,H,I.tok _,⟨_,rfl⟩,q⟩) hs
def rIx (K:Fg0):R2:=fun x y H Q=>HP K x y H Q\/HM K x y H Q\/HN x y H Q
theorem Gj:IxR X (rIx X.K):=C4.or (Gh.or Gi)
theorem vi (its:Lv) (n j:Nat) (u:Value):Obj.mapSeq (·.setIfInBounds j u) { cls:=.type "list",data:=.seq its.toArray n }={ cls:=.type "list",data:=.seq (its.set j u).toArray n }:=by
 simp [Obj.mapSeq]
theorem Inv.lst {pins:Pn} {σ:St} {H:Hp} {s:Shared} {p:Addr} {xs:List V} (I:Inv X pins σ H s) (h:H p=some (.lst xs)) :
  ∃ (its:Lv) (n:Nat),Vals xs its/\s.heap.get? p=some { cls:=.type "list",data:=.seq its.toArray n }/\xs.length<=sizeLine:=by
 obtain⟨z,its,n,r,e⟩:=I.hok p _ h;exact⟨its,n,r,e,z⟩
theorem Inv.Ar {pins:Pn} {σ:St} {H:Hp} {s:Shared} {p:Addr} {xs ys:List V} {its its':Lv} {n n':Nat} {f:Obj->Obj} (I:Inv X pins σ H s) (h:H p=some (.lst xs))
  (ho:s.heap.get? p=some { cls:=.type "list",data:=.seq its.toArray n }) (hf:f { cls:=.type "list",data:=.seq its.toArray n }={ cls:=.type "list",data:=.seq its'.toArray n' }) (r:Vals ys its') (hz:ys.length<=sizeLine) (t:Nat) :
  Inv X pins σ (upd H p (.lst ys)) { s with heap:=s.heap.update p f,toks:=t }:=by
 have e:(s.heap.update p f).get? p=some { cls:=.type "list",data:=.seq its'.toArray n' }:=by
  rw[Heap.get?_update_self f ho (by rw[hf] <;> rfl),hf]
 refine I.write (x:=p) (e:=p) (by rw[h];trivial) (.inl rfl) (fun b u hb q=>(Heap.get?_update_other _ _ (Ne.symm hb)).trans q) ⟨_,e⟩ ?_;exact⟨hz,its',n',r,e⟩
noncomputable def p8:V->V->V->Hp->(Hp->Prop)->Prop:=fun o i v H Q=>∃ p xs k j,o=.ref p/\i=.int k/\H p=some (.lst xs)/\ixN xs.length k=some j/\Q (upd H p (.lst (xs.set j v)))
theorem set_list:JI X p8:=by
 intro pins s σ H o i v ov iv u Q I ro ri rv h;obtain⟨p,xs,k,j,rfl,rfl,hp,hj,q⟩:=h;cases ro;obtain⟨t,rfl⟩:=ri;obtain⟨its,n,r,ho,hz⟩:=I.lst hp;obtain⟨h1,h2,h3,h4⟩:=w6 hj;have hl:=r.length;have hn:=lY;have I':Inv X pins σ (upd H p (.lst (xs.set j v))) { s with heap:=s.heap.update p (Obj.mapSeq (·.setIfInBounds j u)) }:=
  I.Ar hp ho (vi its n j u) (r.set rv j) (by rw[List.length_set];exact hz) s.toks
 by_cases h0:0<=k
 ·have hk:k.toNat=j:=by
   rw[seqIndex_of h0 h4] at h1;exact Option.some.inj h1
  exact PySem.W.ki_setAt ho h0 (by lia) (by rw[List.size_toArray,<- hl];exact h4) (by rw[hk];exact⟨_,I',q⟩)
 ·have hk:(k + (its.toArray.size:Int)).toNat=j:=by
   rw[seqIndex_neg (by lia) h3] at h1;rw[List.size_toArray,<- hl];exact Option.some.inj h1
  exact PySem.W.ki_setBack ho (by lia) (by rw[List.size_toArray,<- hl];exact h3) (by lia) (by rw[hk];exact⟨_,I',q⟩)
theorem qN (lo hi:Option Int) (n:Nat):(sliceBounds lo hi none n).1=((HT.sIx n 0 lo:Nat):Int)/\(sliceBounds lo hi none n).2.1=((HT.sIx n n hi:Nat):Int)/\(sliceBounds lo hi none n).2.2=1:=by
 refine⟨?_,?_,rfl⟩
 ·cases lo with
  | none=>simp [sliceBounds,HT.sIx]
  | some i=>
   simp only[sliceBounds,HT.sIx,Option.getD_none,show (1:Int) > 0 by decide,if_true];by_cases h:i < 0
   ·simp only[h,if_true] <;> lia
   ·simp only[h,if_false] <;> lia
 ·cases hi with
  | none=>simp [sliceBounds,HT.sIx]
  | some i=>
   simp only[sliceBounds,HT.sIx,Option.getD_none,show (1:Int) > 0 by decide,if_true];by_cases h:i < 0
   ·simp only[h,if_true] <;> lia
   ·simp only[h,if_false] <;> lia
theorem pq (its:Lv) (lo hi:Option Int):slicePick its.toArray lo hi none=((its.drop (HT.sIx its.length 0 lo)).take (HT.sIx its.length its.length hi - HT.sIx its.length 0 lo)).toArray:=by
 obtain⟨h1,h2,h3⟩:=qN lo hi its.toArray.size;unfold slicePick;rw[h1,h2,h3];simp only[sliceRange_one,pick_run,List.size_toArray] <;> rfl
noncomputable def HL (K:Fg0):V->Option Int->Option Int->Hp->VK->Prop:=fun x lo hi H Q=>∃ a xs,x=.ref a/\SqL K H a xs/\∀ p,H p=none->Q (.ref p) (upd H p (.lst (pQ xs lo hi)))
theorem BU:SlR X (HL X.K):=by
 intro pins s σ H x v vl vu lo hi sl Q I rx hs pl pu h;obtain⟨a,xs,rfl,hx,q⟩:=h;cases rx;obtain⟨its,r,ht,hz⟩:=I.list hx;have hlen:=r.length;refine⟨"list",_,slot_list_getitem.lookup,ht.isList.typeIs,?_⟩;refine wpAny_getItem_list_slice ht.isList hs pl pu .none (by simp) ?_ (by rw[List.size_toArray] <;> lia);rw[pq,<- hlen];refine⟨.ref s.heap.objs.size,_,I.laid (t':=s.toks) (o:=.lst (pQ xs lo hi)) (fun b ob q=>Heap.get?_push_of_some _ q) (Nat.le_refl _) ?_,rfl,q _ (I.hok.fresh (Nat.le_refl _))⟩;exact⟨Nat.le_trans (mM xs lo hi) hz,_,0,(r.drop (HT.sIx xs.length 0 lo)).take (HT.sIx xs.length xs.length hi - HT.sIx xs.length 0 lo),Heap.get?_push_size _ rfl⟩
noncomputable def jH:V->Bool
 | .non=>true
 | .bl _=>true
 | .int _=>true
 | .str _=>true
 | _=>false
noncomputable def eqV:V->V->Bool
 | .non,.non=>true
 | .bl a,.bl b=>a == b
 | .bl a,.int b=>(if a then 1 else 0) == b
 | .int a,.bl b=>a == (if b then 1 else 0)
 | .int a,.int b=>a == b
 | .str a,.str b=>a == b
 | _,_=>false
theorem GQ {A:Around} {s:Shared} {y x:V} {u v:Value} (ry:RelV y u) (rx:RelV x v) (fy:jH y=true) (fx:jH x=true):SeqAt.EqAt A s u v (eqV y x):=by
 cases y with
 | non=>
  cases ry;cases x with
  | non=>cases rx;exact SeqAt.EqAt.same _
  | bl b=>cases rx;exact SeqAt.EqAt.none_bool b
  | int b=>obtain⟨t,rfl⟩:=rx;exact SeqAt.EqAt.none_int b t
  | str b=>obtain⟨t,rfl⟩:=rx;exact SeqAt.EqAt.none_str b t
  | _=>exact absurd (show false=true from fx) Bool.false_ne_true
 | bl a=>
  cases ry;cases x with
  | non=>cases rx;exact SeqAt.EqAt.bool_none a
  | bl b=>cases rx;exact SeqAt.EqAt.bool_bool a b
  | int b=>obtain⟨t,rfl⟩:=rx;exact SeqAt.EqAt.bool_int a b t
  | str b=>obtain⟨t,rfl⟩:=rx;exact SeqAt.EqAt.bool_str a b t
  | _=>exact absurd (show false=true from fx) Bool.false_ne_true
 | int a=>
  obtain⟨t',rfl⟩:=ry;cases x with
  | non=>cases rx;exact SeqAt.EqAt.int_none a t'
  | bl b=>cases rx;exact SeqAt.EqAt.int_bool a t' b
  | int b=>obtain⟨t,rfl⟩:=rx;exact SeqAt.EqAt.int_int a t' b t
  | str b=>obtain⟨t,rfl⟩:=rx;exact SeqAt.EqAt.int_str a t' b t
  | _=>exact absurd (show false=true from fx) Bool.false_ne_true
 | str a=>
  obtain⟨t',rfl⟩:=ry;cases x with
  | non=>cases rx;exact SeqAt.EqAt.str_none a t'
  | bl b=>cases rx;exact SeqAt.EqAt.str_bool a t' b
  | int b=>obtain⟨t,rfl⟩:=rx;exact SeqAt.EqAt.str_int a t' b t
  | str b=>obtain⟨t,rfl⟩:=rx;exact SeqAt.EqAt.str_str a t' b t
  | _=>exact absurd (show false=true from fx) Bool.false_ne_true
 | _=>exact absurd (show false=true from fy) Bool.false_ne_true
noncomputable def eqU (x:V) (u:Value):Bool:=match u with
 | .none=>eqV .non x
 | .bool b=>eqV (.bl b) x
 | .int i _=>eqV (.int i) x
 | .str z _=>eqV (.str z) x
 | _=>false
theorem AS {x y:V} {u:Value} (r:RelV y u) (f:jH y=true):eqU x u=eqV y x:=by
 cases y with
 | non=>cases r;rfl
 | bl b=>cases r;rfl
 | int i=>obtain⟨t,rfl⟩:=r;rfl
 | str z=>obtain⟨t,rfl⟩:=r;rfl
 | _=>exact absurd (show false=true from f) Bool.false_ne_true
theorem sA {x:V}:∀ {xs:List V} {us:Lv},Vals xs us->xs.all jH=true->us.any (eqU x)=xs.any fun y=>eqV y x
 | _,_,.nil,_=>rfl
 | y::xs,u::us,.cons r t,f=>by
  rw[List.all_cons,Bool.and_eq_true] at f;rw[List.any_cons,List.any_cons,AS r f.1,sA t f.2]
theorem ot {A:Around} {s:Shared} {x:V} {v:Value} (rx:RelV x v) (fx:jH x=true):∀ {xs:List V} {us:Lv},Vals xs us->xs.all jH=true->∀ u∈us,SeqAt.EqAt A s u v (eqU x u)
 | _,_,.nil,_=>fun u hu=>by cases hu
 | y::xs,u::us,.cons r t,f=>fun u' hu=>by
  rw[List.all_cons,Bool.and_eq_true] at f;rcases List.mem_cons.mp hu with rfl | hu
  ·rw[AS r f.1];exact GQ r rx f.1 fx
  ·exact ot rx fx t f.2 u' hu
noncomputable def inV (x:V) (xs:List V):Bool:=xs.any fun y=>eqV y x
def rIn (K:Fg0) (neg:Bool):R2:=fun x y H Q=>∃ p xs,y=.ref p/\(SqL K H p xs\/SqT K H p xs)/\jH x=true/\xs.all jH=true/\Q (.bl (if neg then !inV x xs else inV x xs)) H
theorem yh:OpR X (compareOp .In) (rIn X.K false):=by
 intro pins s σ H x y v u Q I rx ry h;obtain⟨p,xs,rfl,hq,fx,fs,q⟩:=h;cases ry;rcases hq with hq | hq
 ·obtain⟨its,r,pl,hz⟩:=I.list hq;refine SeqAt.in_listAt (eqU x) pl.isList (fun w hw=>ot rx fx r fs w (by simpa using hw)) ⟨.bl _,H,I,rfl,?_⟩;rw[show its.toArray.any (eqU x)=its.any (eqU x) by simp,sA r fs];exact q
 ·obtain⟨its,r,pl,hz⟩:=I.tuple hq;refine SeqAt.in_tupleAt (eqU x) pl (fun w hw=>ot rx fx r fs w (by simpa using hw)) ⟨.bl _,H,I,rfl,?_⟩;rw[show its.toArray.any (eqU x)=its.any (eqU x) by simp,sA r fs];exact q
theorem sj:cK X (.builtin "len") (fun xs H Q=>∃ p ys,xs=[.ref p]/\(SqL X.K H p ys\/SqT X.K H p ys)/\Q (.int ys.length) H):=by
 intro pins s σ H xs us Q I r h;obtain⟨p,ys,rfl,hq,q⟩:=h;obtain⟨u,rfl,rx⟩:=vals1 r;cases rx;have hn:=lY;rcases hq with hq | hq
 ·obtain⟨its,r',pl,hz⟩:=I.list hq;have hlen:=r'.length;exact Calls.call_len_list pl.isList (by simp only[List.size_toArray] <;> lia) ⟨.int ys.length,H,I.tok _,⟨s.toks + 1,by rw[List.size_toArray,hlen]⟩,q⟩
 ·obtain⟨its,r',pl,hz⟩:=I.tuple hq;have hlen:=r'.length;exact len_tuple pl (by simp only[List.size_toArray] <;> lia) ⟨.int ys.length,H,I.tok _,⟨s.toks + 1,by rw[List.size_toArray,hlen]⟩,q⟩
theorem sh:cK X (.builtin "len") (fun xs H Q=>∃ z,xs=[.str z]/\z.length<=sizeLine/\Q (.int z.length) H):=by
 intro pins s σ H xs us Q I r h;obtain⟨z,rfl,hz,q⟩:=h;obtain⟨u,rfl,t,rfl⟩:=vals1 r;have hn:=lY;exact len_str (by lia) ⟨.int z.length,H,I.tok _,⟨_,rfl⟩,q⟩
theorem sf:cK X (.type "list") (fun xs H Q=>∃ p ys,xs=[.ref p]/\(SqL X.K H p ys\/SqT X.K H p ys)/\∀ l,H l=none->Q (.ref l) (upd H l (.lst ys))):=by
 intro pins s σ H xs us Q I r h;obtain⟨p,ys,rfl,hq,q⟩:=h;obtain⟨u,rfl,rx⟩:=vals1 r;cases rx;have fin:∀ (its:Lv),Vals ys its->ys.length<=sizeLine->∀ (h':Heap) (c':Nat),(∀ b o',s.heap.get? b=some o'->h'.get? b=some o')->
   h'.get? s.heap.objs.size=some { cls:=.type "list",dict:=none,data:=.seq its.toArray c',slots:=#[] }->EP X pins σ Q (.ref s.heap.objs.size) { s with heap:=h' }:=fun its r' hz h' c' kp e=>
  ⟨.ref s.heap.objs.size,_,I.laid (t':=s.toks) kp (Nat.le_refl _) (show cU X.prog X.w _ h' _ (.lst ys) from ⟨hz,its,c',r',e⟩),rfl,q _ (I.hok.fresh (Nat.le_refl _))⟩
 rcases hq with hq | hq
 ·obtain⟨its,r',pl,hz⟩:=I.list hq;have hlen:=r'.length;obtain⟨o,ho,hc,n,hd⟩:=pl.isList;exact call_list_seq p (.inl rfl) ho hc hd (fun h' c' kp e=>fin its r' hz h' c' kp e) (by simp only[List.size_toArray] <;> lia)
 ·obtain⟨its,r',pl,hz⟩:=I.tuple hq;have hlen:=r'.length;obtain⟨o,ho,hc,n,hd⟩:=pl;exact call_list_seq p (.inr rfl) ho hc hd (fun h' c' kp e=>fin its r' hz h' c' kp e) (by simp only[List.size_toArray] <;> lia)
theorem pS:cK X (.type "tuple") (fun xs H Q=>∃ p ys,xs=[.ref p]/\((SqL X.K H p ys/\∀ l,H l=none->Q (.ref l) (upd H l (.tup ys)))\/(SqT X.K H p ys/\Q (.ref p) H))):=by
 intro pins s σ H xs us Q I r h;obtain⟨p,ys,rfl,h⟩:=h;obtain⟨u,rfl,rx⟩:=vals1 r;cases rx;rcases h with ⟨hq,q⟩ | ⟨hq,q⟩
 ·obtain⟨its,r',pl,hz⟩:=I.list hq;have hlen:=r'.length;refine call_tuple_list pl.isList (fun h' kp=>?_) (by simp only[List.size_toArray] <;> lia);have I1:Inv X pins σ H { s with heap:=h' }:=I.kept (t':=s.toks) kp;have I2:Inv X pins σ (upd H h'.objs.size (.tup ys)) { s with heap:=h'.push { cls:=.type "tuple",data:=.seq its.toArray } }:=
   I1.laid (t':=s.toks) (fun b o e=>Heap.get?_push_of_some _ e) (Nat.le_refl _) (show cU X.prog X.w _ _ _ (.tup ys) from ⟨hz,its,r',IsTup.new _ _⟩)
  exact⟨.ref h'.objs.size,_,I2,rfl,q _ (I1.hok.fresh (Nat.le_refl _))⟩
 ·obtain⟨its,r',pl,hz⟩:=I.tuple hq;exact call_tuple_same pl ⟨.ref p,H,I,rfl,q⟩
def tyV (K:Fg0) (T:String) (x:V) (H:Hp):Prop:=match x with
 | .str _=>T="str"
 | .int _=>T="int"
 | .ref p=>(T="list"/\∃ xs,SqL K H p xs)\/(T="tuple"/\∃ o,K.lookup p=some o/\o.cls=.type "tuple"/\o.dict=none)\/
   (T="dict"/\((∃ kvs,H p=some (.dK kvs))\/∃ kvs,H p=some (.dT kvs)))\/(T="set"/\∃ S n,H p=some (.set S n))
 | _=>False
theorem yS {pins:Pn} {σ:St} {H:Hp} {s:Shared} {T:String} {x:V} {v:Value} (I:Inv X pins σ H s) (r:RelV x v) (ty:tyV X.K T x H) :
  s.TypeIs v T/\∀ a,v=.ref a->∃ ob,s.heap.get? a=some ob/\ob.dict=none:=by
 cases x with
 | str z=>
  obtain⟨t,rfl⟩:=r;cases (show T="str" from ty);exact⟨typeIs_str s z t,fun _ e=>nomatch e⟩
 | int i=>
  obtain⟨t,rfl⟩:=r;cases (show T="int" from ty);exact⟨typeIs_int s i t,fun _ e=>nomatch e⟩
 | ref p=>
  cases r;rcases ty with ⟨rfl,xs,hq⟩ | ⟨rfl,o,hk,hc,hd⟩ | ⟨rfl,hk⟩ | ⟨rfl,S,n,hk⟩
  ·obtain⟨its,_,pl,_⟩:=I.list hq;refine⟨pl.isList.typeIs,fun a e=>?_⟩;cases e;obtain⟨o,n,e,c,hd,_⟩:=pl;exact⟨o,e,hd⟩
  ·refine⟨⟨o,I.kIn p o hk,hc⟩,fun a e=>?_⟩;cases e;exact⟨o,I.kIn _ o hk,hd⟩
  ·have z:∃ o,s.heap.get? p=some o/\o.ExactDict:=by
    rcases hk with ⟨kvs,hk⟩ | ⟨kvs,hk⟩
    ·obtain⟨_,_,_,_,o,_,_,e,ex,_⟩:=I.hok p _ hk;exact⟨o,e,ex⟩
    ·obtain⟨_,_,_,_,o,_,_,e,ex,_⟩:=I.hok p _ hk;exact⟨o,e,ex⟩
   obtain⟨o,e,ex⟩:=z;refine⟨⟨o,e,ex.1⟩,fun a e2=>?_⟩;cases e2;exact⟨o,e,ex.2.1⟩
  ·obtain⟨o,_,_,_,e,ex,_⟩:=I.hok p _ hk;refine⟨⟨o,e,ex.1⟩,fun a e2=>?_⟩;cases e2;exact⟨o,e,ex.2.1⟩
 | _=>exact False.elim ty
def EG (K:Fg0) (T:String) (r:V->List V->Hp->VK->Prop) (to:TE):TE:=fun σ H Q=>to σ H fun x H1=>tyV K T x H1/\r x [] H1 Q
def tBM (K:Fg0) (T:String) (r:V->List V->Hp->VK->Prop) (to:TE) (t:TA):TE:=fun σ H Q=>to σ H fun x H1=>tyV K T x H1/\t σ H1 fun xs H2=>r x xs H2 Q
variable {o e:Expr} {es:List Expr} {to:TE} {t:TA} {name:Str} {apos cpos:Pos} {T id:String} {r:V->List V->Hp->VK->Prop}
theorem Fo (pa:PlainAttrs T) (slot:Slot T name id) (hty:typeOf (.builtin id)=pure (.type "method_descriptor")) (hm:MtR X id r) (ho:PE X o to)
  (hbase:autoParam (attributeBase o name X.env (eval o X.env)=eval o X.env) wE) (hline:autoParam ((apos.endLine == cpos.line)=true) wE):PE X (.Call (.Attribute o name apos) [] [] cpos) (EG X.K T r to):=by
 intro pins s σ H Q I h;refine wpAny_Call_method0_late hbase hline (thn (ho pins s σ H _ I h) fun v s1 Z=>?_);obtain⟨x,H1,I1,r1,ty,q1⟩:=Z;obtain⟨h1,h2⟩:=yS I1 r1 ty;exact⟨T,id,pa,slot,hty,h1,h2,Calls.callWith_builtin rfl (PySem.evalArgs_none (hm pins s1 σ H1 x [] v [] Q I1 r1 .nil q1))⟩
theorem DP (pa:PlainAttrs T) (slot:Slot T name id) (hty:typeOf (.builtin id)=pure (.type "method_descriptor")) (hm:MtR X id r) (ho:PE X o to) (ha:PA X (e::es) t)
  (hbase:autoParam (attributeBase o name X.env (eval o X.env)=eval o X.env) wE)
  (hfew:((backTo cpos (starEach (e::es) X.env)).all (fun x=>!x.1) && (backToKw cpos (keywordEach [] X.env)).all (fun x=>x.1.isSome)
   && decide ((e::es).length + ([]:List Keyword).length + (if ([]:List Keyword).isEmpty then 0 else 1) < 30))=true:=by rfl)
  (hline:autoParam ((apos.endLine == cpos.line)=true) wE) (hs:autoParam (starEach (e::es) X.env=(false,eval e X.env)::starEach es X.env) wE) (hplain:autoParam ((backTo cpos (starEach es X.env)).any (·.1)=false) wE) :
  PE X (.Call (.Attribute o name apos) (e::es) [] cpos) (tBM X.K T r to t):=by
 intro pins s σ H Q I h;refine wpAny_Call_method_late hbase hfew hline rfl (thn (ho pins s σ H _ I h) fun v s1 Z=>?_);obtain⟨x,H1,I1,r1,ty,q1⟩:=Z;obtain⟨h1,h2⟩:=yS I1 r1 ty;refine⟨T,id,pa,slot,hty,h1,h2,?_⟩;have hA:=ha cpos pins s1 σ H1 _ I1 q1;rw[hs] at hA ⊢;refine Calls.callWith_builtin (by show (false || (backTo cpos (starEach es X.env)).any (·.1))=false;rw[hplain] <;> rfl) (Calls.evalArgs_plain ?_);exact thn hA fun us s2 ⟨vs,H2,I2,r2,q2⟩=>hm pins s2 σ H2 x vs v us Q I2 r1 r2 q2
end
def MtM (X:Cx) (id:String) (r:V->List V->Hp->VK->Prop):Prop:=
 ∀ (pins:Pn) (s:Shared) (σ:St) (H:Hp) (x:V) (xs:List V) (v:Value) (us:Lv) (Q:VK),Inv X pins σ H s->RelV x v->Vals xs us->r x xs H Q->
  wpAny (model X.prog X.w) X.A (call (.builtin id) (v::us)) (EP X pins σ Q) X.xe s
theorem Vals.one {x:V} {us:Lv} (h:Vals [x] us):∃ u,us=[u]/\RelV x u:=by
 cases h with
 | cons r t=>cases t;exact⟨_,rfl,r⟩
theorem Vals.zero:∀ {us:Lv},Vals [] us->us=[]
 | _,.nil=>rfl
theorem Vals.dropLast {xs:List V} {us:Lv} (h:Vals xs us):Vals xs.dropLast us.dropLast:=by
 induction h with
 | nil=>exact .nil
 | cons r t ih=>
  cases t with
  | nil=>exact .nil
  | cons q t'=>exact .cons r ih
theorem vO {α:Type} (l:List α):l.eraseIdx (l.length - 1)=l.dropLast:=by
 induction l with
 | nil=>rfl
 | cons a r ih=>
  cases r with
  | nil=>rfl
  | cons b r=>
   have e:(a::b::r).length - 1=((b::r).length - 1) + 1:=by
    have h1:(a::b::r).length=r.length + 2:=rfl;have h2:(b::r).length=r.length + 1:=rfl;lia
   rw[e,List.eraseIdx_cons_succ,ih]
   all_goals rfl
section
variable {X:Cx} {pins:Pn} {σ:St} {H:Hp} {s:Shared} {l b:Addr} {xs ys zs:List V}
theorem Inv.CT {its its':Lv} {n:Nat} {f:Array Value->Array Value} {t':Nat} (I:Inv X pins σ H s) (hH:H l=some (.lst xs))
  (e:s.heap.get? l=some { cls:=.type "list",data:=.seq its.toArray n }) (hf:f its.toArray=its'.toArray) (hv:Vals ys its') (hz:ys.length<=sizeLine) :
  Inv X pins σ (upd H l (.lst ys)) { s with heap:=s.heap.update l (Obj.mapSeq f),toks:=t' }:=by
 have q:=PySem.IsL.update e f;rw[hf] at q;refine I.write (x:=l) (e:=l) (by rw[hH];exact trivial) (.inl rfl) (fun b' u hb hu=>(Heap.get?_update_other s.heap (Obj.mapSeq f) (Ne.symm hb)).trans hu) ⟨_,q⟩ ?_;exact⟨hz,its',_,hv,q⟩
theorem Inv.Ki {its:Lv} {t':Nat} (I:Inv X pins σ H s) (hv:Vals ys its) (hz:ys.length<=sizeLine) :
  Inv X pins σ (upd H s.heap.objs.size (.lst ys)) { s with heap:=s.heap.push { cls:=.type "list",data:=.seq its.toArray },toks:=t' }:=
 I.laid (fun _ _ q=>Heap.get?_push_of_some _ q) (Nat.le_refl _) ⟨hz,its,0,hv,Heap.get?_push_size _ rfl⟩
theorem Inv.fresh (I:Inv X pins σ H s):H s.heap.objs.size=none:=I.hok.fresh (Nat.le_refl _)
theorem Inv.vp (I:Inv X pins σ H s) (hH:H l=some (.lst xs)):xs.length<=sizeLine/\∃ (its:Lv) (n:Nat),Vals xs its/\xs.length=its.length/\s.heap.get? l=some { cls:=.type "list",data:=.seq its.toArray n }:=by
 obtain⟨z,its,n,r,e⟩:=I.hok l _ hH;exact⟨z,its,n,r,r.length,e⟩
theorem tL {n:Nat} (h:n<=sizeLine):Builtin.List.listTooLong n=false:=by
 unfold Builtin.List.listTooLong;exact decide_eq_false (by lia)
end
section
variable {X:Cx}
noncomputable def qY:V->List V->Hp->VK->Prop:=fun x vs H Q=>∃ l xs y,x=.ref l/\vs=[y]/\H l=some (.lst xs)/\xs.length < sizeLine/\Q .non (upd H l (.lst (xs++[y])))
theorem ym:MtM X "list.append" qY:=by
 intro pins s σ H x vs v us Q I rx rv h;obtain⟨l,xs,y,rfl,rfl,hH,hz,q⟩:=h;cases rx;obtain⟨u,rfl,ru⟩:=rv.one;obtain⟨z,its,n,r,hl,e⟩:=I.vp hH;refine call_meets F.slot_list_append ⟨_,e,rfl⟩ F.entry_list_append (F.args_list_append_2 _ _) (PySem.list_append l its.toArray n u (by rw[List.size_toArray];lia)) ⟨e,?_⟩;refine⟨.non,_,I.CT (its':=its++[u]) hH e (by simp) (r.append (.cons ru .nil)) ?_,rfl,q⟩;rw[List.length_append,List.length_singleton];lia
noncomputable def qX:V->List V->Hp->VK->Prop:=fun x vs H Q=>∃ l b xs zs,x=.ref l/\vs=[.ref b]/\H l=some (.lst xs)/\H b=some (.lst zs)/\xs.length + zs.length<=sizeLine/\Q .non (upd H l (.lst (xs++zs)))
theorem yk:MtM X "list.extend" qX:=by
 intro pins s σ H x vs v us Q I rx rv h;obtain⟨l,b,xs,zs,rfl,rfl,hH,hB,hz,q⟩:=h;cases rx;obtain⟨u,rfl,ru⟩:=rv.one;cases ru;obtain⟨z,its,n,r,hl,e⟩:=I.vp hH;obtain⟨z2,its2,n2,r2,hl2,e2⟩:=I.vp hB;have hsz:its.toArray.size + its2.toArray.size<=sizeLine:=by rw[List.size_toArray,List.size_toArray];lia
 have hlong:¬ (!its.toArray.isEmpty && Builtin.List.listTooLong (its.toArray.size + its2.toArray.size))=true:=by
  rw[tL hsz,Bool.and_false];exact Bool.false_ne_true
 refine call_meets F.slot_list_extend ⟨_,e,rfl⟩ F.entry_list_extend (F.args_list_extend_2 _ _)
  (AutoSeq1.list_extend_list_list_0 l its.toArray n b its2.toArray n2 hlong (by rw[List.size_toArray];lia) (by lia)) ⟨e,e2,?_⟩
 refine⟨.non,_,I.CT (its':=its++its2) hH e (by simp) (r.append r2) ?_,rfl,q⟩;rw[List.length_append];lia
noncomputable def uV:V->List V->Hp->VK->Prop:=fun x vs H Q=>∃ l xs,x=.ref l/\vs=[]/\H l=some (.lst xs)/\Q .non (upd H l (.lst []))
theorem Aj:MtM X "list.clear" uV:=by
 intro pins s σ H x vs v us Q I rx rv h;obtain⟨l,xs,rfl,rfl,hH,q⟩:=h;cases rx;have hus:=rv.zero;subst hus;obtain⟨z,its,n,r,hl,e⟩:=I.vp hH;refine call_meets F.slot_list_clear ⟨_,e,rfl⟩ F.entry_list_clear (F.args_list_clear_1 _) (AutoSeq1.list_clear_list_0 l its.toArray n (by rw[List.size_toArray];lia)) ⟨e,?_⟩;exact⟨.non,_,I.CT (its':=[]) (ys:=[]) hH e rfl .nil (Nat.zero_le _),rfl,q⟩
def HQ:R2:=fun x y H Q=>∃ l b xs zs,x=.ref l/\y=.ref b/\H l=some (.lst xs)/\H b=some (.lst zs)/\xs.length + zs.length<=sizeLine/\∀ p,H p=none->Q (.ref p) (upd H p (.lst (xs++zs)))
theorem FC:OpR X (binaryOp .Add) HQ:=by
 intro pins s σ H x y v u Q I rx ry h;obtain⟨l,b,xs,zs,rfl,rfl,hH,hB,hz,q⟩:=h;cases rx;cases ry;obtain⟨z,its,n,r,hl,e⟩:=I.vp hH;obtain⟨z2,its2,n2,r2,hl2,e2⟩:=I.vp hB;refine PySem.P.add_list e e2 ?_ (by rw[List.size_toArray,List.size_toArray];lia);have ea:its.toArray++its2.toArray=(its++its2).toArray:=by simp
 rw[ea];exact⟨.ref _,_,I.Ki (t':=s.toks) (r.append r2) (by rw[List.length_append];lia),rfl,q _ I.fresh⟩
end
section
variable {prog:Program} {w:World} {A:Around} {E:VS} {s:Shared}
end
section
variable {X:Cx}
end
section
variable {κ:Type} [DecidableEq κ]
end
section
variable {P:Program} {w:World} {H:Hp} {h:Heap} {a:Addr}
end
section
variable {X:Cx} {pins:Pn} {σ:St} {H:Hp} {s:Shared} {a:Addr} {y v:V} {u r:Value} {o:Option V} {A:Around} {E:VS}
end
section
variable {X:Cx} {pins:Pn} {σ:St} {H:Hp} {s:Shared} {a:Addr} {kvs:List (Key×V)} {k:Key} {u:Value} {A:Around} {E:VS}
end
section
variable {X:Cx} {o i e value:Expr} {pos pos' tpos:Pos} {td ty tv:TE}
end
section
variable {X:Cx} {pos:Pos}
end
section
variable {X:Cx} {pins:Pn} {σ:St} {H:Hp} {s:Shared} {a:Addr} {y d:V} {u r:Value} {o:Option V} {A:Around} {E:VS}
end
section
variable {X:Cx} {o e f:Expr} {apos cpos:Pos} {td ty tx:TE}
end
section
variable {X:Cx} {pins:Pn} {σ:St} {H:Hp} {s:Shared} {a:Addr} {kvs:List (Key×V)} {A:Around} {E:VS}
end
section
variable {X:Cx} {pins:Pn} {σ:St} {H:Hp} {s:Shared} {a:Addr} {y:V} {u:Value} {A:Around} {E:VS}
end
end L2
namespace Att
open PySem PySem.W PySem.Calls PyProof.Rows
theorem m8 {P:Params} {h:Heap}:∀ (ns:Li) (vs:Lv),WellAll P h vs (ns.map WData.int)->IntsAre vs ns:=by
 intro ns
 induction ns with
 | nil=>
  intro vs w;rw[List.map_nil] at w;cases w;exact .nil
 | cons n ns ih=>
  intro vs w;rw[List.map_cons] at w;cases w with
  | cons a b=>
   cases a;exact .cons _ _ (ih _ b)
theorem xV {l:OpenLaw} {n:Nat} (hn:l.most=some n) {P:Params} {h:Heap} {args:List WData} {vals:Lv}
  (hpre:l.row.toRowW.claim.pre args=true) (hwl:WellAll P h vals args) :
  ∃ a vs ns,vals=[Value.ref a]/\args=[WData.list (ns.map WData.int)]/\h.get? a=some { cls:=.type "list",data:=.seq vs.toArray }/\IntsAre vs ns/\ns.length<=n:=by
 have hsh:WShape.hasAll [] args [.list .int]=true:=(pre_splitW hpre).1;have hc:l.pre.holds [] { args:=args }=true:=(pre_splitW hpre).2;obtain⟨d,r,rfl,h1,h2⟩:=hasAllW_cons hsh;obtain rfl:=hasAllW_nil h2;obtain⟨xs,rfl,h3⟩:=hasW_list h1;obtain⟨ns,rfl⟩:=items_int h3;have hlen:ns.length<=n:=by
  unfold OpenLaw.pre at hc;have h4:(WTm.not (.lt (.lit (.int (n:Int))) (.len (.arg 0)))).holds [] { args:=[.list (ns.map .int)] }=true:=by
   have h4:=(holds_andW hc).1;rw[hn] at h4;exact h4
  have h5:=condW_of h4 (w_not (w_lt w_lit (w_len_list (w_arg rfl))));rw[lM0] at h5;refine Nat.le_of_not_lt fun q=>?_;have q':(n:Int) < ((ns.length:Nat):Int):=by lia
  first
   | (rw[decide_eq_true q'] at h5;exact absurd h5 (by decide))
   | (simp at h5;lia)
 cases hwl with
 | cons w1 w2=>
  cases w2;cases w1 with
  | list ho hall=>exact⟨_,_,ns,rfl,rfl,ho,m8 ns _ hall,hlen⟩
theorem x_ (l:OpenLaw) (args:List WData):l.row.toRowW.claim.post args (.bool true) args=true:=
 postW_of (r:=l.row.toRowW) (X:=(true == true))
  (show WShape.has [] (.bool true) .bool=true by first | rfl | decide | simp [WShape.has,WShape.arms,WShape.armsAll])
  (show (WTm.eq .res (.lit (.bool true))).value [] { args:=args,res:=some (.bool true),after:=args }=some (.bool (true == true)) from w_eq_bool (w_res rfl) w_lit) rfl
theorem uz {l:OpenLaw} {n:Nat} {q:Program} {loose:Ls} {XP:(SV)->Heap->Prop} {YP:World->Heap->Prop} {d:DefRec}
  (hn:l.most=some n) (hdf:d.params.defaults=[])
  (call:∀ (w:World) (s₀ s₁:Shared) (mg mb:SV) (fa:Addr) (o:Obj) (pm cd doc:Value) (a:Addr) (vs:Lv) (ns:Li),
   Ground q loose [] XP w s₀ mg mb s₁.heap->YP w s₁.heap->
   s₁.heap.get? fa=some o->o.data=.func (docDef d.name d.params d.body d.scope pm cd doc)->s₁.heap.CodeRec cd d.name->mg d.name=some (.ref fa)->
   s₁.heap.get? a=some { cls:=.type "list",data:=.seq vs.toArray }->IntsAre vs ns->ns.length<=n->s₁.gens=#[]->
   codeAny (model l.prog w) callerA (.call (.ref fa) ⟨[.ref a],[]⟩) (fun r s'=>r=.ok (.ret (.bool true))/\OldK s₁.heap s'.heap/\s'.os=s₁.os/\AllBare s'.gens) s₁) :
  WalkO q loose XP YP l.row.toRowW d [] (fun f vs=>PySem.call f vs):=by
 intro w s₀ s₁ mg mb G Y fa o pm cd doc dV kV ho hd hcd hD hmg hg args vals as hpre hlay hrd hwl hlo;obtain rfl:dV=.none:=Dflts.none hD hdf;obtain rfl:kV=.none:=Dflts.noKw hD;obtain⟨a,vs,ns,rfl,rfl,hobj,hints,hlen⟩:=xV hn hpre hwl;refine enter_call (codeAny_mono (call w s₀ s₁ mg mb fa o pm cd doc a vs ns G Y ho (fd_plain hd) hcd hmg hobj hints hlen hg) fun r s' hq=>?_);obtain⟨rfl,h2,h3,h4⟩:=hq;exact⟨.inl ⟨.bool true,.bool true,[],rfl,fun _=>rfl,.bool true,x_ l _,fun _=>⟨List.Pairwise.nil,fun _ hm=>(nomatch hm)⟩⟩,h2,h3,h4⟩
section
variable {prog:Program} {w:World} {A:Around} {E:VS} {s:Shared} {K:Frag}
end
end Att
namespace L2
open PySem PySem.Spec PyProof.Rows
theorem pW:∀ {vs:Lv} {ns:Li},IntsAre vs ns->Vals (ns.map V.int) vs
 | _,_,.nil=>.nil
 | _,_,.cons n t h=>.cons ⟨t,rfl⟩ (pW h)
def G5 (H:Hp):Prop:=∀ b,H b=none\/(∃ o xs,H b=some (.frz o (.lst xs)))\/∃ ps,H b=some (.tbl ps)
noncomputable def inClass (s:Stmt) (j:Nat):Stmt:=match s with
 | .ClassDef _ _ _ body _ _ _ _ _ _ _=>body.getD j (.Pass ⟨0,0,0,0⟩)
 | _=>.Pass ⟨0,0,0,0⟩
noncomputable def jl (s:Stmt):Arguments:=match s with
 | .FunctionDef _ a _ _ _ _ _ _ _ _=>a
 | _=>{ posonlyargs:=[],args:=[],vararg:=none,kwonlyargs:=[],kw_defaults:=[],kwarg:=none,defaults:=[] }
noncomputable def eS (s:Stmt):List Stmt:=match s with
 | .FunctionDef _ _ b _ _ _ _ _ _ _=>b
 | _=>[]
noncomputable def ah (s:Stmt):Scope:=match s with
 | .FunctionDef _ _ _ _ _ _ sc _ _ _=>sc
 | _=>{ kind:=.function,names:=[],isGenerator:=false,isCoroutine:=false }
abbrev CX0:CXT:=fun _ _ _ _ _ _=>False
abbrev E0:XK:=fun _ _ _=>False
theorem nZ {X:Cx}:Passes CX0 X E0:=fun _ _ _ _ _ _ _ h=>h.elim
structure Fun (K:Fg0) (x qual:Str) (st:Stmt) (f:Addr) (fd:FuncData):Prop where
 ex:∃ (oc:Value) (od:Option Addr) (kV doc pm:Value) (an:Option Addr) (cdv ct:Value) (osl:Array (Option Value)),
  fd=PySem.W.fnOf x qual (jl st) (eS st) (ah st) .none kV doc pm an cdv ct/\K.lookup f=some ⟨oc,od,.func fd,osl⟩/\PySem.W.codeIn K cdv qual=true
 kp:PySem.W.keepIn K (.ref f)=true
section
variable {P:Program} {w:World} {K:Fg0} {mg:SV} {base:Heap}
theorem Fun.ok {x qual:Str} {st:Stmt} {f:Addr} {fd:FuncData} {N ps:Ls} {k:Nat} {sp:Sp} (F:Fun K x qual st f fd) (S:aC N ps (ah st)) (len:∀ vs H Q E,sp vs H Q E->vs.length=ps.length)
  (hbody:∀ (cdv:Value) (A:Around) (outer:List Env) (s:Shared) (H:Hp) (vs:List V) (Q:VK) (E:XK),cc k (A.deeper (envOfC qual (ah st) s.heap.objs.size f cdv))->sp vs H Q E->
   ∃ t,PSs (uk CX0 P w K mg base N qual (ah st) f cdv A outer s H E).nox (eS st) t/\t { nx:=fun _ H'=>Q .non H',rt:=Q } (start N vs) H):aQ P w K mg base CX0 (k + 1) f fd ps sp:=by
 obtain⟨oc,od,kV,doc,pm,an,cdv,ct,osl,rfl,lk,hcd⟩:=F.ex;refine IZ lk hcd S len fun A outer s H vs Q E hr hsp=>?_;obtain⟨t,h,q⟩:=hbody cdv A outer s H vs Q E hr hsp;exact⟨t,h.nox,q⟩
theorem Fun.binds {x qual:Str} {st:Stmt} {f:Addr} {fd:FuncData} {ps:Ls} (F:Fun K x qual st f fd)
  (h:∀ (kV doc pm:Value) (an:Option Addr) (cdv ct:Value) (us:Lv),us.length=ps.length->bindArgs (PySem.W.fnOf x qual (jl st) (eS st) (ah st) .none kV doc pm an cdv ct) ⟨us,[]⟩=pure (ps.zip us)):Binds K fd ps []:=by
 obtain⟨oc,od,kV,doc,pm,an,cdv,ct,osl,rfl,lk,hcd⟩:=F.ex;exact .all (h kV doc pm an cdv ct)
theorem AJ {x qual:Str} {st:Stmt} {f:Addr} {oc:Value} {od an:Option Addr} {osl:Array (Option Value)} {kV doc pm cdv ct:Value} (l:K.lookup f=some ⟨oc,od,.func (PySem.W.fnOf x qual (jl st) (eS st) (ah st) .none kV doc pm an cdv ct),osl⟩)
  (c:PySem.W.codeIn K cdv qual=true) (k:PySem.W.keepIn K (.ref f)=true):Fun K x qual st f (PySem.W.fnOf x qual (jl st) (eS st) (ah st) .none kV doc pm an cdv ct):=⟨⟨oc,od,kV,doc,pm,an,cdv,ct,osl,rfl,l,c⟩,k⟩
end
section
variable {X:Cx}
theorem pv (i:Nat) {x:Str} {pos:Pos} (hN:autoParam (X.N[i]?=some x) wE) (hv:Vis X.env.scope x:=by first | exact Or.inl rfl | exact Or.inr (Or.inl rfl) | exact Or.inr (Or.inr rfl)) (hd:autoParam ((x == ("__debug__":Str))=false) wP)
  (hcd:autoParam ((x == ("__classdict__":Str))=false) wP):PE X (.Name x pos) (cX i):=rm hN hv hd hcd
end
theorem vy {A B:Prop} (h:B):if false=true then A else B:=by
 rw[if_neg Bool.false_ne_true];exact h
theorem vw {A B:Prop} (h:A):if true=true then A else B:=by
 rw[if_pos rfl];exact h
def aw (H H':Hp):Prop:=∀ b o,H b=some o->H' b=some o
theorem aw.refl (H:Hp):aw H H:=fun _ _ h=>h
theorem aw.trans {H H1 H2:Hp} (a:aw H H1) (b:aw H1 H2):aw H H2:=fun c o h=>b c o (a c o h)
theorem aw.seq {K:Fg0} {H H':Hp} {a:Addr} {xs:List V} (e:aw H H') (h:SqL K H a xs):SqL K H' a xs:=by
 rcases h with (h | ⟨o,h⟩) | h
 ·exact .inl (.inl (e _ _ h))
 ·exact .inl (.inr ⟨o,e _ _ h⟩)
 ·exact .inr h
section
variable {κ:Type} [DecidableEq κ]
end
noncomputable def takes (cells:List (Str×Addr)):List (Str×NameKind)->List (Str×Addr)->List (Str×Addr)
 | [],acc=>acc
 | (n,k)::r,acc=>takes cells r (if k=NameKind.free then (n,(cells.lookup n).getD 0)::acc else acc)
theorem pR {sc:Scope} {env:Env} (h:∀ y∈sc.names,y.2=.free->∃ c,env.cells.lookup y.1=some c):closureFor sc env=pure (takes env.cells sc.names []):=by
 have go:∀ (l:List (Str×NameKind)) (acc:List (Str×Addr)),(∀ y∈l,y.2=.free->∃ c,env.cells.lookup y.1=some c)->
   (forIn l acc (fun (x:Str×NameKind) (cs:List (Str×Addr))=>match x with
    | (name,kind)=>if (kind == NameKind.free)=true then do let c <- cellOf env name;pure (ForInStep.yield ((name,c)::cs)) else pure (ForInStep.yield cs)):Sem (List (Str×Addr)))=pure (takes env.cells l acc):=by
  intro l
  induction l with
  | nil=>intro acc _;rfl
  | cons x l ih=>
   intro acc hl;obtain⟨n,k⟩:=x;rw[List.forIn_cons];by_cases hk:k=NameKind.free
   ·subst hk;obtain⟨c,hc⟩:=hl (n,.free) List.mem_cons_self rfl;have hc':env.cells.lookup n=some c:=hc;have e1:cellOf env n=pure c:=by unfold cellOf;rw[hc']
    have e2:takes env.cells ((n,NameKind.free)::l) acc=takes env.cells l ((n,c)::acc):=by
     show takes env.cells l (if NameKind.free=NameKind.free then (n,(env.cells.lookup n).getD 0)::acc else acc)=_;rw[if_pos rfl,hc']
     rfl
    rw[e2,<- ih ((n,c)::acc) fun y hy=>hl y (List.mem_cons_of_mem _ hy)];show ((if (NameKind.free == NameKind.free)=true then (do let c <- cellOf env n;pure (ForInStep.yield ((n,c)::acc))) else pure (ForInStep.yield acc)) >>= _)=_;rw[if_pos (by decide),e1,pure_bind,pure_bind]
   ·have e2:takes env.cells ((n,k)::l) acc=takes env.cells l acc:=by
     show takes env.cells l (if k=NameKind.free then _ else acc)=_;rw[if_neg hk]
    have hb:(k == NameKind.free)=false:=by simpa using hk
    rw[e2,<- ih acc fun y hy=>hl y (List.mem_cons_of_mem _ hy)];show ((if (k == NameKind.free)=true then _ else pure (ForInStep.yield acc)) >>= _)=_;rw[hb,if_neg Bool.false_ne_true,pure_bind]
 have:=go sc.names [] h;unfold closureFor
 first
  | exact(congrArg (fun z=>z >>= fun cs=>pure cs) this).trans (pure_bind _ _)
  | exact this
  | simpa using this
theorem pX {cells:List (Str×Addr)} {n:Str} {c:Addr}:∀ (names:List (Str×NameKind)) (acc:List (Str×Addr)),(takes cells names acc).lookup n=some c->
  acc.lookup n=some c\/((n,NameKind.free)∈names/\c=(cells.lookup n).getD 0)
 | [],_,h=>.inl h
 | (m,k)::r,acc,h=>by
  rcases pX r _ h with q | ⟨q1,q2⟩
  ·by_cases hk:k=NameKind.free
   ·rw[if_pos hk] at q;subst hk;by_cases e:n=m
    ·subst e;rw[List.lookup_cons,beq_self_eq_true] at q;exact .inr ⟨List.mem_cons_self,(Option.some.inj q).symm⟩
    ·have:(n == m)=false:=by simpa using e
     rw[List.lookup_cons,this] at q;exact .inl q
   ·rw[if_neg hk] at q;exact .inl q
  ·exact .inr ⟨List.mem_cons_of_mem _ q1,q2⟩
theorem pY {cells:List (Str×Addr)} {n:Str}:∀ (names:List (Str×NameKind)) (acc:List (Str×Addr)),(acc.lookup n).isSome=true->((takes cells names acc).lookup n).isSome=true
 | [],_,h=>h
 | (m,k)::r,acc,h=>by
  refine pY r _ ?_;by_cases hk:k=NameKind.free
  ·rw[if_pos hk];cases e:n == m with
   | true=>rw[List.lookup_cons,e];rfl
   | false=>rw[List.lookup_cons,e];exact h
  ·rw[if_neg hk];exact h
theorem lI {cells:List (Str×Addr)} {n:Str}:∀ (names:List (Str×NameKind)) (acc:List (Str×Addr)),(n,NameKind.free)∈names->((takes cells names acc).lookup n).isSome=true
 | [],_,h=>by simp at h
 | (m,k)::r,acc,h=>by
  rcases List.mem_cons.mp h with e | h
  ·cases e;refine pY r _ ?_;rw[if_pos rfl,List.lookup_cons,beq_self_eq_true]
   rfl
  ·exact lI r _ h
structure Blk (N:Ls) (osc sc:Scope) (Nc:Ls) (fr:On):Prop where
 kind:sc.kind=.function
 own:∀ y∈sc.names,y.2=.cell->sc.names.lookup y.1=some .cell
 free:∀ y∈sc.names,y.2=.free->osc.names.lookup y.1=some .cell\/osc.names.lookup y.1=some .free
 locs:∀ y∈sc.names,y.2=.local->sc.names.lookup y.1=some .local
 nd:Nc.Nodup
 len:Nc.length=fr.length
 whence:∀ p∈Nc.zip fr,(p.2.all fun j=>decide (N[j]?=some p.1) && decide (sc.names.lookup p.1=some .free))=true
noncomputable abbrev bcl (cells:List (Str×Addr)) (sc:Scope) (C:Addr):List (Str×Addr):=cellsFrom (C + 1) sc.names (takes cells sc.names [])
theorem xy {x:Str} {c:Addr}:∀ (names:List (Str×NameKind)) (n:Nat) (acc:List (Str×Addr)),(cellsFrom n names acc).lookup x=some c->acc.lookup x=some c\/(n<=c/\(x,NameKind.cell)∈names)
 | [],_,_,h=>.inl h
 | (y,k)::r,n,acc,h=>by
  unfold cellsFrom at h;split at h
  ·rename_i hk;have ek:k=NameKind.cell:=by simpa using hk
   subst ek;rcases xy r _ _ h with q | ⟨q1,q2⟩
   ·rw[List.lookup_cons] at q;cases hx:x == y with
    | true=>
     rw[hx] at q;cases q;rw[beq_iff_eq.mp hx];exact .inr ⟨Nat.le_refl _,List.mem_cons_self⟩
    | false=>rw[hx] at q;exact .inl q
   ·exact .inr ⟨Nat.le_of_succ_le q1,List.mem_cons_of_mem _ q2⟩
  ·rcases xy r _ _ h with q | ⟨q1,q2⟩
   ·exact .inl q
   ·exact .inr ⟨q1,List.mem_cons_of_mem _ q2⟩
theorem vT {x:Str} {c:Addr}:∀ (names:List (Str×NameKind)) (n:Nat) (acc:List (Str×Addr)),(x,NameKind.cell)∈names->(cellsFrom n names acc).lookup x=some c->n<=c
 | [],_,_,m,_=>nomatch m
 | (y,k)::r,n,acc,m,h=>by
  unfold cellsFrom at h;by_cases hr:(x,NameKind.cell)∈r
  ·split at h
   ·exact Nat.le_of_succ_le (vT r _ _ hr h)
   ·exact vT r _ _ hr h
  ·have e:(x,NameKind.cell)=(y,k):=(List.mem_cons.mp m).resolve_right hr;cases e;rw[if_pos (by rfl)] at h;rcases xy r _ _ h with q | ⟨q1,_⟩
   ·rw[List.lookup_cons,beq_self_eq_true] at q;cases q;exact Nat.le_refl _
   ·exact Nat.le_of_succ_le q1
theorem vS {x:Str}:∀ (names:List (Str×NameKind)) (n:Nat) (acc:List (Str×Addr)),(x,NameKind.cell)∉names->(cellsFrom n names acc).lookup x=acc.lookup x
 | [],_,_,_=>rfl
 | (y,k)::r,n,acc,m=>by
  unfold cellsFrom;have hr:(x,NameKind.cell)∉r:=fun z=>m (List.mem_cons_of_mem _ z);split
  ·rename_i hk;have ek:k=NameKind.cell:=by simpa using hk
   subst ek;rw[vS r _ _ hr,List.lookup_cons];have:(x == y)=false:=by
    cases hx:x == y with
    | false=>rfl
    | true=>exact absurd (by rw[beq_iff_eq.mp hx];exact List.mem_cons_self) m
   rw[this]
  ·exact vS r _ _ hr
theorem vU:∀ (names:List (Str×NameKind)) (n:Nat) (acc:List (Str×Addr)),(∀ x y c,acc.lookup x=some c->acc.lookup y=some c->x=y)->(∀ x c,acc.lookup x=some c->c < n)->
  ∀ x y c,(cellsFrom n names acc).lookup x=some c->(cellsFrom n names acc).lookup y=some c->x=y
 | [],_,_,h,_=>h
 | (z,k)::r,n,acc,h,lt=>by
  unfold cellsFrom;split
  ·refine vU r (n + 1) ((z,n)::acc) (fun x y c h1 h2=>?_) fun x c h1=>?_
   ·rw[List.lookup_cons] at h1 h2;cases hx:x == z with
    | true=>
     cases hy:y == z with
     | true=>rw[beq_iff_eq.mp hx,beq_iff_eq.mp hy]
     | false=>
      rw[hx] at h1;rw[hy] at h2;cases h1;exact absurd (lt y n h2) (Nat.lt_irrefl _)
    | false=>
     cases hy:y == z with
     | true=>
      rw[hx] at h1;rw[hy] at h2;cases h2;exact absurd (lt x n h1) (Nat.lt_irrefl _)
     | false=>rw[hx] at h1;rw[hy] at h2;exact h x y c h1 h2
   ·rw[List.lookup_cons] at h1;cases hx:x == z with
    | true=>rw[hx] at h1;cases h1;exact Nat.lt_succ_self _
    | false=>rw[hx] at h1;exact Nat.lt_succ_of_lt (lt x c h1)
  ·exact vU r n acc h lt
theorem qc {M:Model} {A:Around} {E:VS} {s:Shared} {sc:Scope} {g:Addr} {cl:List (Str×Addr)} {qual:Str} {oe:Env} {Q:Env->Shared->Prop}
  (hQ:∀ h':Heap,h'.Ns s.heap.objs.size (fun _=>none)->(∀ b o,s.heap.get? b=some o->h'.get? b=some o)->(∀ n c,(cellsFrom (s.heap.objs.size + 1) sc.names cl).lookup n=some c->cl.lookup n=some c\/h'.IsCell c none)->
   Q { scope:=sc,locals:=s.heap.objs.size,globals:=g,cells:=cellsFrom (s.heap.objs.size + 1) sc.names cl,qual:=qual,func:=none,code:=oe.code,frame:=oe.frame,builtins:=oe.builtins } { s with heap:=h' }) :
  wpAny M A (newFunctionEnv sc g cl [] qual none .none (some oe)) Q E s:=by
 simp only[newFunctionEnv,Option.isSome_some,if_true];refine wpAny_bind (wpAny_alloc ?_);refine wpAny_bind (wpAny_layCells _ (fun name kind cells=>by cases hkc:kind == NameKind.cell <;> simp [hkc]) _ _ _ _ ?_);have go:∀ (names:List (Str×NameKind)) (h:Heap) (acc:List (Str×Addr)) (P:Str->Addr->Prop),(∀ n c,acc.lookup n=some c->P n c\/h.IsCell c none)->∀ n c,(cellsFrom h.objs.size names acc).lookup n=some c->P n c\/(pushCells h names).IsCell c none:=by
  intro names
  induction names with
  | nil=>intro h acc P x;exact x
  | cons p r ih=>
   intro h acc P x;obtain⟨y,k⟩:=p;unfold cellsFrom pushCells;split
   ·have:=ih (h.push { cls:=.type "cell",data:=.cell none }) ((y,h.objs.size)::acc) P fun n c e=>by
     rw[List.lookup_cons] at e;cases hx:n == y with
     | true=>rw[hx] at e;cases e;exact .inr ⟨_,Heap.get?_push_size _ rfl,rfl⟩
     | false=>
      rw[hx] at e;rcases x n c e with q | q
      ·exact .inl q
      ·exact .inr (q.keeps fun b o e=>Heap.get?_push_of_some _ e)
    rwa [Heap.size_push] at this
   ·exact ih h acc P x
 have ok:=go sc.names (s.heap.push { cls:=.type "dict",data:=.dict #[] }) cl (fun n c=>cl.lookup n=some c) fun n c e=>.inl e;rw[Heap.size_push] at ok;rw[show ({ s with heap:=s.heap.push { cls:=.type "dict",data:=.dict #[] } }:Shared).heap.objs.size=s.heap.objs.size + 1 from Heap.size_push ..];refine wpAny_bind ?_;rw[List.forIn_nil];exact wpAny_pure (wpAny_pure (hQ _ ((Heap.Ns.new s.heap (.type "dict")).keeps (pushCells_keeps _ _)) (fun b o e=>pushCells_keeps _ _ b o (Heap.get?_push_of_some _ e)) ok))
noncomputable abbrev aF (X:Cx) (sc:Scope) (Nc:Ls) (s₀:Shared) (H₀:Hp) (C:Addr) (ex:La0) (pn:Pn):Cx where
 prog:=X.prog
 w:=X.w
 K:=X.K
 mg:=X.mg
 base:=X.base
 A:=X.A
 N:=Nc
 s₀:=s₀
 H₀:=H₀
 env:=compEnvC sc (bcl X.env.cells sc C) C X.env
 outer:=X.stack
 stack:=X.stack
 ex:=ex
 fn:=fun x=>sc.names.lookup x == some .cell
 calm:=X.calm
 pn:=pn
 xe:=fun _ _=>False
noncomputable def i_ (fr:On) (σ:St):St:=fr.map fun o=>o.bind fun j=>(σ[j]?).join
def Eu (J:It) (g:TG) (te:TE) (σ0:St) (H1:Hp) (Q:VK):Prop:=
 ∃ W:Nat->Nat->List V->St->Hp->Prop,(∃ m,W 0 m [] σ0 H1)/\∀ i m ys σc H,W i m ys σc H->ys.length < sizeLine/\
  ((J.stop i H/\∀ l,H l=none->Q (.ref l) (upd H l (.lst ys)))\/
   (J.go i H/\∀ x H',J.yld i H x H'->g x σc H' fun σ2 H2=>∃ N:VK,(∀ y H3,N y H3->∃ m',m' < m/\W (i + 1) m' (ys++[y]) σ2 H3)/\te σ2 H2 N))
def nH (fr:On) (wi:TI) (g:TG) (te:TE):TE:=fun σ H Q=>wi σ H fun J H1=>Eu J g te (i_ fr σ) H1 Q
theorem ix {sc:Scope} {env:Env} {x:Str} {k:NameKind} (h:(relabel sc env).names.lookup x=some k):sc.names.lookup x=some k\/(k=.cell/\sc.names.lookup x=some .free):=by
 have go:∀ l:List (Str×NameKind),(l.map fun (n,k)=>if (k == NameKind.free && env.scope.kind == .function && env.kindOf n == some .cell) then (n,NameKind.cell) else (n,k)).lookup x=some k->l.lookup x=some k\/(k=.cell/\l.lookup x=some .free):=by
  intro l
  induction l with
  | nil=>intro h;simp at h
  | cons p r ih=>
   intro h;obtain⟨n,k'⟩:=p;rw[List.map_cons] at h;by_cases hc:(k' == NameKind.free && env.scope.kind == .function && env.kindOf n == some .cell)=true
   ·have h2:List.lookup x ((n,NameKind.cell)::r.map fun (n,k)=>if (k == NameKind.free && env.scope.kind == .function && env.kindOf n == some .cell) then (n,NameKind.cell) else (n,k))=some k:=by
     have h3:=h;simp only[hc,if_true] at h3;exact h3
    have hk:k'=.free:=by
     simp only[Bool.and_eq_true] at hc;simpa using hc.1.1
    subst hk;cases hx:x == n with
    | true=>
     rw[List.lookup_cons,hx] at h2;rw[List.lookup_cons,hx];cases h2;exact .inr ⟨rfl,rfl⟩
    | false=>
     rw[List.lookup_cons,hx] at h2;rw[List.lookup_cons,hx];exact ih h2
   ·have hc':(k' == NameKind.free && env.scope.kind == .function && env.kindOf n == some .cell)=false:=by simpa using hc
    have h2:List.lookup x ((n,k')::r.map fun (n,k)=>if (k == NameKind.free && env.scope.kind == .function && env.kindOf n == some .cell) then (n,NameKind.cell) else (n,k))=some k:=by
     have h3:=h;simp only[hc',Bool.false_eq_true,if_false] at h3;exact h3
    cases hx:x == n with
    | true=>
     rw[List.lookup_cons,hx] at h2;rw[List.lookup_cons,hx];exact .inl h2
    | false=>
     rw[List.lookup_cons,hx] at h2;rw[List.lookup_cons,hx];exact ih h2
 exact go _ h
theorem qW {sc:Scope} {env:Env} {x:Str} (h:sc.names.lookup x=some .free):(relabel sc env).names.lookup x=some .cell\/(relabel sc env).names.lookup x=some .free:=by
 have go:∀ l:List (Str×NameKind),l.lookup x=some .free->(l.map fun (n,k)=>if (k == NameKind.free && env.scope.kind == .function && env.kindOf n == some .cell) then (n,NameKind.cell) else (n,k)).lookup x=some .cell\/(l.map fun (n,k)=>if (k == NameKind.free && env.scope.kind == .function && env.kindOf n == some .cell) then (n,NameKind.cell) else (n,k)).lookup x=some .free:=by
  intro l
  induction l with
  | nil=>intro h;simp at h
  | cons p r ih=>
   intro h;obtain⟨n,k'⟩:=p;rw[List.map_cons];by_cases hc:(k' == NameKind.free && env.scope.kind == .function && env.kindOf n == some .cell)=true
   ·simp only[hc,if_true];cases hx:x == n with
    | true=>left;simp [List.lookup_cons,hx]
    | false=>
     rw[List.lookup_cons,hx] at h;simp only[List.lookup_cons,hx];exact ih h
   ·have hc':(k' == NameKind.free && env.scope.kind == .function && env.kindOf n == some .cell)=false:=by simpa using hc
    simp only[hc',Bool.false_eq_true,if_false];cases hx:x == n with
    | true=>
     rw[List.lookup_cons,hx] at h
     right
     simp only[List.lookup_cons,hx];exact h
    | false=>
     rw[List.lookup_cons,hx] at h;simp only[List.lookup_cons,hx];exact ih h
 exact go _ h
section
variable {X:Cx} {pins:Pn} {σ:St}
theorem eY {sc:Scope} {Nc:Ls} {fr:On} (B:Blk X.N X.env.scope sc Nc fr) (ok:X.Ok) {n:Str} {c:Addr} (h:(takes X.env.cells sc.names []).lookup n=some c):X.env.cells.lookup n=some c:=by
 rcases pX _ _ h with q | ⟨q1,q2⟩
 ·simp at q
 ·obtain⟨c',hc'⟩:=ok.has n (B.free _ q1 rfl);rw[hc'] at q2;rw[hc',q2]
  rfl
theorem qw {sc:Scope} {Nc:Ls} {fr:On} {C:Addr} (B:Blk X.N X.env.scope sc Nc fr) (ok:X.Ok) {n:Str} {c:Addr} (h:(bcl X.env.cells sc C).lookup n=some c):X.env.cells.lookup n=some c\/C < c:=by
 rcases xy _ _ _ h with q | ⟨q,_⟩
 ·exact .inl (eY B ok q)
 ·exact .inr q
theorem dj {n:Str} {k:NameKind}:∀ {l:List (Str×NameKind)},l.lookup n=some k->(n,k)∈l:=fun h=>PySem.mem_of_lookup h
theorem Bl {sc:Scope} {Nc:Ls} {fr:On} (B:Blk X.N X.env.scope sc Nc fr) {s₀:Shared} {H₀:Hp} {C:Addr} {ex:La0} {pn:Pn} (I:Inv X pins σ H₀ s₀) (hC:s₀.heap.objs.size<=C)
  (hex:∀ b∈ex,b < s₀.heap.objs.size/\b∉X.fs/\b≠X.env.locals/\(∀ x c,X.env.cells.lookup x=some c->c≠b)/\∀ o,X.base.get? b≠some o):(aF X sc Nc s₀ H₀ C ex pn).Ok where
 mod:=I.ok.mod
 kind:=B.kind
 glob:=I.ok.glob
 blt:=I.ok.blt
 above:=hC
 inj:=vU _ _ _ (fun x y c h1 h2=>I.ok.inj x y c (eY B I.ok h1) (eY B I.ok h2)) fun x c h=>by
  obtain⟨v,o,e,_⟩:=I.cell x c (eY B I.ok h);exact Nat.lt_succ_of_lt (Nat.lt_of_lt_of_le (Heap.lt_size e) hC)
 has:=fun x hx=>by
  have hf:sc.names.lookup x=some .cell\/sc.names.lookup x=some .free:=by
   rcases hx with hx | hx
   ·rcases ix hx with q | ⟨_,q⟩
    ·exact .inl q
    ·exact .inr q
   ·rcases ix hx with q | ⟨_,q⟩
    ·exact .inr q
    ·exact .inr q
  refine Option.isSome_iff_exists.mp (PySem.W.cellsFrom_some _ _ _ ?_);rcases hf with q | q
  ·exact .inl q
  ·exact .inr (lI _ _ (dj q))
 cab:=fun x c h e=>by
  have h':sc.names.lookup x=some .cell:=by simpa using h
  exact Nat.le_trans hC (Nat.le_of_succ_le (vT _ _ _ (dj h') e))
 hd:=I.ok.hd
 frames:=I.ok.frames
 stk:=.inl rfl
 exf:=fun b hb=>⟨fun e=>by have:=(hex b hb).1;rw[e] at this;exact absurd (Nat.lt_of_lt_of_le this hC) (Nat.lt_irrefl _),fun x c h=>by
  rcases qw B I.ok h with q | q
  ·exact(hex b hb).2.2.2.1 x c q
  ·exact fun z=>absurd (Nat.lt_trans (Nat.lt_of_lt_of_le (hex b hb).1 hC) q) (by rw[z];exact Nat.lt_irrefl _)⟩
 bs:=fun b o e=>I.bs b o e
 bsz:=Nat.le_trans I.ok.bsz I.sz
 noex:=fun b o e hb=>(hex b hb).2.2.2.2 o e
 exfs:=fun b hb hf=>by
  rcases List.mem_cons.mp (I.qL b hf) with e | e
  ·exact(hex b hb).2.2.1 e
  ·exact(hex b hb).2.1 e
 l8:=I.stack
 frf:=fun b hb=>I.wu b hb
 tb:=I.tb
end
section
variable {X:Cx}
noncomputable abbrev c6 (us:Lv) (n:Nat):Obj:={ cls:=.type "list",data:=.seq us.toArray n }
theorem vt {α:Type} {Nc:Ls} {fr:List α} {i:Nat} {x:Str} {o:α} (h1:Nc[i]?=some x) (h2:fr[i]?=some o):(x,o)∈Nc.zip fr:=by
 have h3:(Nc.zip fr)[i]?=some (x,o):=by
  rw[List.getElem?_zip_eq_some];exact⟨h1,h2⟩
 exact List.mem_of_getElem? h3
theorem xC {pins:Pn} {σ:St} {sc:Scope} {Nc:Ls} {fr:On} (B:Blk X.N X.env.scope sc Nc fr) {s₀ s₄:Shared} {H₀:Hp} {C D:Addr} {o:Obj} {ex:La0} {mC:SV}
  (ok:(aF X sc Nc s₀ H₀ C ex (X.pn++pins)).Ok) (I:Inv X pins σ H₀ s₀) (hC:s₀.heap.objs.size<=C) (ho:s₄.os=s₀.os) (hg:s₄.gens=s₀.gens) (hk:∀ b u,s₀.heap.get? b=some u->s₄.heap.get? b=some u) (hn:s₄.heap.Ns C mC)
  (hw:∀ x c,(bcl X.env.cells sc C).lookup x=some c->(takes X.env.cells sc.names []).lookup x=some c\/s₄.heap.IsCell c none) (hD:s₀.heap.get? D=some o) (hDH:H₀ D=none) (hDL:D≠X.env.locals) (hDf:D∉X.fs) (hDc:∀ v,o.data≠.cell v) :
  Inv (aF X sc Nc s₀ H₀ C ex (X.pn++pins)) [(D,o)] (i_ fr σ) H₀ s₄:=by
 have stk:∀ b,b≠X.env.locals->b∉X.fs->b∉frs X.stack:=fun b h1 h2 h3=>by
  rcases List.mem_cons.mp (I.qL b h3) with e | e
  ·exact h1 e
  ·exact h2 e
 have ltC:∀ {b:Addr} {u:Obj},s₀.heap.get? b=some u->b≠C:=fun e z=>absurd (Nat.lt_of_lt_of_le (Heap.lt_size e) (by rw[z];exact hC)) (Nat.lt_irrefl _);refine⟨ok,ho,by rw[hg];exact I.bare,Un.kept hk,⟨mC,hn,fun i x v h1 h2 h3=>?_⟩,fun x c h=>?_,I.hok.fresh hC,fun x c h=>?_,fun p hp=>?_,I.hok.kept hk,?_⟩
 ·have h2':(fr.map fun o=>o.bind fun j=>(σ[j]?).join)[i]?=some (some v):=h2;rw[List.getElem?_map] at h2';cases ef:fr[i]? with
  | none=>rw[ef] at h2';cases h2'
  | some oj=>
   rw[ef] at h2';have h4:(oj.bind fun j=>(σ[j]?).join)=some v:=Option.some.inj h2';cases oj with
   | none=>cases h4
   | some j=>
    have hz:=B.whence _ (vt h1 ef);have hz':(decide (X.N[j]?=some x) && decide (sc.names.lookup x=some .free))=true:=hz;rw[Bool.and_eq_true] at hz';have e1:X.N[j]?=some x:=of_decide_eq_true hz'.1;have e2:sc.names.lookup x=some .free:=of_decide_eq_true hz'.2;have h5:σ[j]?=some (some v):=by
     have h6:(σ[j]?).join=some v:=h4;cases e3:σ[j]? with
     | none=>rw[e3] at h6;cases h6
     | some y=>rw[e3] at h6;exact congrArg some h6
    have hkd:=B.free _ (dj e2) rfl;obtain⟨m,hm,hl⟩:=I.loc;have vis:Vis X.env.scope x:=by rcases hkd with k | k;exact .inr (.inl k);exact .inr (.inr k)
    obtain⟨u,r,l⟩:=hl j x v e1 h5 vis;refine⟨u,r,.inr ⟨qW e2,?_⟩⟩;rcases l with ⟨k,_⟩ | ⟨_,c,hc,hcell⟩
    ·have k':X.env.scope.names.lookup x=some .local:=k;rcases hkd with q | q
     ·rw[q] at k';cases k'
     ·rw[q] at k';cases k'
    ·obtain⟨c',hc'⟩:=Option.isSome_iff_exists.mp (lI (cells:=X.env.cells) sc.names [] (dj e2));have hc2:=eY B I.ok hc';rw[hc] at hc2;cases hc2;obtain⟨oc,ho1,ho2⟩:=hcell;exact⟨c,(vS _ _ _ fun z=>by have:=B.own _ z rfl;rw[e2] at this;cases this).trans hc',oc,hk _ _ ho1,ho2⟩
 ·rcases hw x c h with q | q
  ·obtain⟨v,oc,h1,h2⟩:=I.cell x c (eY B I.ok q);exact⟨v,oc,hk _ _ h1,h2⟩
  ·exact⟨_,q⟩
 ·rcases qw B I.ok h with q | q
  ·exact I.freeC x c q
  ·exact I.hok.fresh (Nat.le_trans hC (Nat.le_of_lt q))
 ·rcases List.mem_append.mp hp with hp | hp
  ·obtain⟨e1,e2,e3,e4,e5⟩:=I.pin p hp;exact⟨hk _ _ e1,e2,ltC e1,stk _ e3 e4,e5⟩
  ·have e:p=(D,o):=by simpa using hp
   subst e;exact⟨hk _ _ hD,hDH,ltC hD,stk _ hDL hDf,hDc⟩
 ·show (fr.map _).length=Nc.length;rw[lM0,B.len]
abbrev Runs (prog:Program) (w:World) (A:Around) {α:Type} (c:Sem α) (t:Shared) (Q:α->Shared->Prop):Prop:=wpAny (model prog w) A c Q (fun _ _=>False) t
theorem Runs.go {prog:Program} {w:World} {A:Around} {α:Type} {c:Sem α} {t:Shared} {Q Q':α->Shared->Prop} {E:VS} (h:Runs prog w A c t Q) (f:∀ a u,Q a u->Q' a u):wpAny (model prog w) A c Q' E t:=wpAny_mono h f fun _ _ z=>z.elim
theorem r9 {prog:Program} {w:World} {A:Around} {R:Result->Shared->Prop} {s:Shared} {elt tg iter:Expr} {sc:Scope} {pos:Pos} {it acc:Value} {env:Env} (J:Nat->Shared->Prop)
  (one:∀ k t,J k t->Runs prog w A (pyNext it) t fun r t1=>match r with
   | none=>R (.ok .next) t1
   | some v=>Runs prog w A (letOwnedTupleGo tg it v) t1 fun _ t2=>Runs prog w A (assign tg env v) t2 fun _ t3=>Runs prog w A (eval elt env) t3 fun x t4=>
     Runs prog w A (call (.builtin "list.append") [acc,x]) t4 fun _ t5=>∃ j,j < k/\J j t5)
  (k:Nat) (h:J k s):codeAny (model prog w) A (.compLoop (.ListComp elt [⟨tg,iter,[],0⟩] sc pos) 0 it acc env) R s:=
 PySem.W.kcp_loop J (fun k t hJ=>(one k t hJ).go fun r t1 q=>match r,q with
  | none,q=>q
  | some _,q=>Runs.go q fun _ _ q=>Runs.go q fun _ _ q=>Runs.go q fun _ _ q=>Runs.go q fun _ _ q=>q) k h
theorem oR {elt iter tg:Expr} {sc:Scope} {pos:Pos} {Nc:Ls} {fr:On} {g:TG} {te:TE} (B:Blk X.N X.env.scope sc Nc fr) (hc:X.calm=true)
  (hg:∀ s₀ H₀ C ex pn,PG (aF X sc Nc s₀ H₀ C ex pn) tg g) (he:∀ s₀ H₀ C ex pn,PE (aF X sc Nc s₀ H₀ C ex pn) elt te)
  {pins:Pn} {σ:St} {s2:Shared} {H2:Hp} {it:Addr} {fp:La0} {tn:Nat->Heap->Prop} {J:It} (I2:Inv X pins σ H2 s2) (T:Turn X.prog X.w X.K tg J fp it tn) (st2:tn 0 s2.heap) (f2:∀ b∈fp,fN X pins H2 b)
  {Q:VK} (cw:Eu J g te (i_ fr σ) H2 Q) {RR:Value->Addr->Result->Shared->Prop} {E:VS}
  (hRR:∀ D C s' H',Inv X pins σ H' s'->(∃ m,s'.heap.Ns C m)->fN X pins H' C->Q (.ref D) H'->RR (.ref D) C (.ok .next) s') :
  wpAny (model X.prog X.w) X.A (newList []) (fun acc s₃=>wpAny (model X.prog X.w) X.A (newFunctionEnv sc X.env.globals (takes X.env.cells sc.names []) [] X.env.qual none .none (some X.env)) (fun cenv s₄=>
   codeAny (model X.prog X.w) X.A (.compStart (.ListComp elt [⟨tg,iter,[],0⟩] sc pos) 0 (.ref it) acc { cenv with scope:=relabel sc X.env }) (RR acc cenv.locals) s₄) E s₃) E s2:=by
 obtain⟨W,⟨m0,w0⟩,turn⟩:=cw;refine wpAny_newObj_type (qc fun h₁ hns₁ old₁ cl₁=>?_);dsimp only at hns₁ old₁ cl₁ ⊢;generalize hH2:s2.heap.push { cls:=.type "list",dict:=none,data:=.seq ([]:Lv).toArray }=hp at hns₁ old₁ cl₁ ⊢;have hCs:hp.objs.size=s2.heap.objs.size + 1:=by rw[<- hH2,Heap.size_push]
 generalize hCe:hp.objs.size=C at hns₁ cl₁ ⊢;generalize hDe:s2.heap.objs.size=D at hCs ⊢;have hDC:D≠C:=by rw[<- hCe,hCs];exact Nat.ne_of_lt (Nat.lt_succ_self _)
 have up:∀ b o,s2.heap.get? b=some o->hp.get? b=some o:=fun b o e=>by rw[<- hH2];exact Heap.get?_push_of_some _ e
 have hDp:hp.get? D=some (c6 [] 0):=by rw[<- hH2,<- hDe];exact Heap.get?_push_size _ rfl
 have I3:Inv X pins σ H2 { s2 with heap:=hp }:=I2.kept (t':=s2.toks) up;have hD0:H2 D=none:=I2.hok.fresh (by rw[hDe];exact Nat.le_refl _);have fD:fN X pins H2 D:=I2.pP (by rw[hDe];exact Nat.le_refl _) hD0;have fpo:∀ b∈fp,∃ o,s2.heap.get? b=some o/\∀ v,o.data≠.cell v:=T.obj 0 _ st2;have fplt:∀ b∈fp,b < D:=fun b hb=>by obtain⟨o,e,_⟩:=fpo b hb;rw[<- hDe];exact Heap.lt_size e
 have hDfp:D∉fp:=fun hb=>Nat.lt_irrefl _ (fplt D hb);have hCfp:C∉fp:=fun hb=>by have:=fplt C hb;rw[<- hCe,hCs] at this;exact absurd (Nat.lt_of_succ_lt this) (Nat.lt_irrefl _)
 have nobase:∀ b,(b∈X.ex\/X.s₀.heap.objs.size<=b)->∀ o,X.base.get? b≠some o:=fun b h o e=>by
  rcases h with h | h
  ·exact I2.ok.noex b o e h
  ·exact absurd (Nat.lt_of_lt_of_le (Heap.lt_size e) (Nat.le_trans I2.ok.bsz h)) (Nat.lt_irrefl _)
 have hex:∀ b∈D::fp,b < hp.objs.size/\b∉X.fs/\b≠X.env.locals/\(∀ x c,X.env.cells.lookup x=some c->c≠b)/\∀ o,X.base.get? b≠some o:=fun b hb=>by
  have fb:fN X pins H2 b:=by
   rcases List.mem_cons.mp hb with e | hb
   ·rw[e];exact fD
   ·exact f2 b hb
  refine⟨?_,fb.2.2.1,fb.2.1,fb.2.2.2.2.1,nobase b fb.2.2.2.1⟩;rcases List.mem_cons.mp hb with e | hb
  ·rw[e,hCs];exact Nat.lt_succ_self _
  ·rw[hCs];exact Nat.lt_succ_of_lt (fplt b hb)
 have hCle:hp.objs.size<=C:=by rw[hCe];exact Nat.le_refl _
 have ok:(aF X sc Nc { s2 with heap:=hp } H2 C (D::fp) (X.pn++pins)).Ok:=Bl B I3 hCle hex;have old:∀ b u,hp.get? b=some u->h₁.get? b=some u:=old₁;have J0:Inv (aF X sc Nc { s2 with heap:=hp } H2 C (D::fp) (X.pn++pins)) [(D,c6 [] 0)] (i_ fr σ) H2 { s2 with heap:=h₁ }:=
  xC B ok I3 hCle rfl rfl old hns₁ cl₁ hDp hD0 fD.2.1 fD.2.2.1 (fun v z=>by cases z)
 have fpY:∀ {H':Hp} {u:Obj},(∀ b∈fp,H' b=none)->∀ b∈fp,fN (aF X sc Nc { s2 with heap:=hp } H2 C (D::fp) (X.pn++pins)) [(D,u)] H' b:=fun {H' u} hn b hb=>
  ⟨hn b hb,fun e=>hCfp (by have e':b=C:=e;rw[<- e'];exact hb),ok.exfs b (List.mem_cons_of_mem _ hb),.inl (List.mem_cons_of_mem _ hb),(ok.exf b (List.mem_cons_of_mem _ hb)).2,fun p hp'=>by
   rcases List.mem_append.mp hp' with q | q
   ·exact(f2 b hb).2.2.2.2.2 p q
   ·have e:p=(D,u):=by simpa using q
    rw[e];exact fun z=>hDfp (by have z':D=b:=z;rw[z'];exact hb)⟩
 have loop:codeAny (model X.prog X.w) X.A (.compLoop (.ListComp elt [⟨tg,iter,[],0⟩] sc pos) 0 (.ref it) (.ref D) (compEnvC sc (bcl X.env.cells sc C) C X.env)) (RR (.ref D) C) { s2 with heap:=h₁ }:=by
  refine r9 (fun n s'=>∃ (i:Nat) (ys:List V) (us:Lv) (σc:St) (H':Hp),Inv (aF X sc Nc { s2 with heap:=hp } H2 C (D::fp) (X.pn++pins)) [(D,c6 us us.length)] σc H' s'/\Vals ys us/\tn i s'.heap/\(∀ b∈fp,H' b=none)/\W i n ys σc H')
   ?_ m0 ⟨0,[],[],_,H2,J0,.nil,T.keep _ _ _ st2 (fun b _ o e=>old b o (up b o e)),fun b hb=>(f2 b hb).1,w0⟩
  rintro n s3 ⟨i,ys,us,σ3,H3,I3',rv,st3,fr3,w3⟩;obtain⟨hsz,hcase⟩:=turn i n ys σ3 H3 w3;rcases hcase with ⟨stop,qn⟩ | ⟨go,step⟩
  ·refine thn (T.done (aF X sc Nc { s2 with heap:=hp } H2 C (D::fp) (X.pn++pins)) rfl rfl rfl hc i _ s3 σ3 H3 _ I3' (fpY fr3) st3 stop) fun r s4 Z=>?_;obtain⟨hr,I4⟩:=Z;subst hr;obtain⟨pD,pH,_,_,_⟩:=I4.pin (D,c6 us us.length) (List.mem_append_right _ List.mem_cons_self);obtain⟨mC',hnC,_⟩:=I4.loc;have un:Un (frs X.stack) fp H2 (upd H3 D (.lst ys)) s2.heap s4.heap:=by
    have u0:Un (frs X.stack) (D::fp) H2 H3 hp s4.heap:=I4.base;have neD:∀ {b:Addr} {o:Obj},s2.heap.get? b=some o->b≠D:=fun e=>by rw[<- hDe];exact Nat.ne_of_lt (Heap.lt_size e)
    have nx:∀ {b:Addr} {o:Obj},s2.heap.get? b=some o->b∉fp->b∉D::fp:=fun e h1 h2=>by
     rcases List.mem_cons.mp h2 with z | z
     ·exact neD e z
     ·exact h1 z
    have neT:∀ {b:Addr} {o:HO},H2 b=some o->b≠D:=fun e z=>by rw[z,hD0] at e;cases e
    exact⟨fun b o e n hb hx=>u0.keep b o (up b o e) n hb (nx e hx),fun b o e n hb hx=>u0.slot b o (up b o e) n hb (nx e hx),fun b o e n hx=>by rw[aj (neD e)];exact u0.free b o (up b o e) n (nx e hx),
     fun b o e hx=>u0.there b o (up b o e) (nx e hx),fun b xs e=>by rw[aj (neT e)];exact u0.tups b xs e,fun b o xs e=>by rw[aj (neT e)];exact u0.frzs b o xs e,fun b ps e=>by rw[aj (neT e)];exact u0.tbls b ps e⟩
   have hok:HOk X.prog X.w (upd H3 D (.lst ys)) s4.heap:=fun b u e=>by
    by_cases hb:b=D
    ·subst hb;rw[aA] at e;cases e;exact⟨Nat.le_of_lt hsz,us,us.length,rv,pD⟩
    ·rw[aj hb] at e;refine(I4.hok b u e).sP (fun c v _ q=>q) (fun c q=>?_) fun c xs q=>?_
     ·rw[aj (fun z=>by rw[z] at q;rw[show H3 D=none from pH] at q;cases q)];exact q
     ·rw[aj (fun z=>by rw[z] at q;rw[show H3 D=none from pH] at q;cases q)];exact q
   have I5:Inv X pins σ (upd H3 D (.lst ys)) s4:=I2.Ei I4.os un hok I4.bare fun b hb=>⟨(f2 b hb).2.2.2.1,(f2 b hb).2.1,(f2 b hb).2.2.2.2.1,(f2 b hb).2.2.2.2.2⟩;refine hRR D C s4 _ I5 ⟨mC',hnC⟩ ?_ (qn D pH);have hC2:s2.heap.objs.size<=C:=by rw[hDe,<- hCe,hCs];exact Nat.le_succ _
   refine I2.pP hC2 ?_;rw[aj (Ne.symm hDC)];exact I4.free
  ·refine thn (T.item (aF X sc Nc { s2 with heap:=hp } H2 C (D::fp) (X.pn++pins)) rfl rfl rfl hc i _ s3 σ3 H3 _ I3' (fpY fr3) st3 go) fun r s4 Z=>?_;obtain⟨u,hr,h4⟩:=Z;subst hr;refine thn h4 fun _ s5 Z=>?_;obtain⟨x,H5,I5,r5,y5,st5,fr5⟩:=Z;have I5':=I5.pinned (fpY fr5) (T.obj _ _ st5);refine thn (hg _ _ _ _ _ _ s5 σ3 H5 x u _ I5' r5 (step x H5 y5)) fun _ s6 Z=>?_;obtain⟨σ6,H6,I6,N,hN,q6⟩:=Z;refine thn (he _ _ _ _ _ _ s6 σ6 H6 _ I6 q6) fun y s7 Z=>?_;obtain⟨yv,H7,I7,r7,q7⟩:=Z;obtain⟨pD,pH,pL,pF,pc⟩:=I7.pin (D,c6 us us.length) (List.mem_append_right _ (List.mem_append_left _ List.mem_cons_self));have hlen:us.length=ys.length:=rv.length.symm;refine append_at (hsz:=by rw[List.size_toArray,hlen];exact Nat.le_of_lt hsz) pD fun h8 sb8 hD8=>?_;obtain⟨m',hm,w8⟩:=hN yv H7 q7;have st7:tn (i + 1) s7.heap:=T.keep _ _ _ st5 fun b hb o e=>(I7.pin (b,o) (List.mem_append_right _ (List.mem_append_right _ (dz hb e)))).1;have fr7:∀ b∈fp,H7 b=none:=fun b hb=>by
    obtain⟨o,e,d⟩:=T.obj _ _ st5 b hb;exact(I7.pin (b,o) (List.mem_append_right _ (List.mem_append_right _ (dz hb e)))).2.1
   have I7n:Inv (aF X sc Nc { s2 with heap:=hp } H2 C (D::fp) (X.pn++pins)) [] σ6 H7 s7:=I7.gP fun p z=>absurd z (by simp);have I8:Inv (aF X sc Nc { s2 with heap:=hp } H2 C (D::fp) (X.pn++pins)) [] σ6 H7 { s7 with heap:=h8 }:=
    I7n.turned (t':=s7.toks) (it:=D) (fun b o hb e=>(sb8.2 b hb).trans e) pH pL (.inl List.mem_cons_self) (fun x c e=>(ok.exf D List.mem_cons_self).2 x c e) fun p hp'=>by
     have hp2:p∈X.pn++pins:=by simpa using hp'
     exact fD.2.2.2.2.2 p hp2
   have e8:h8.get? D=some (c6 (us++[y]) (us++[y]).length):=by
    rw[hD8];simp
   refine⟨m',hm,i + 1,ys++[yv],us++[y],σ6,H7,I8.gP fun p z=>?_,rv.append (.cons r7 .nil),T.keep _ _ _ st7 fun b hb o e=>(sb8.2 b fun z=>hDfp (by rw[<- z];exact hb)).trans e,fr7,w8⟩;have e:p=(D,c6 (us++[y]) (us++[y]).length):=by simpa using z
   subst e;exact⟨e8,pH,pL,pF,fun v z=>by cases z⟩
 exact codeAny_compStart_list loop (wpAny_mono (T.self X.A 0 _ _ (fun _ _=>False) (T.keep _ _ _ st2 (fun b _ o e=>old b o (up b o e))) loop) (fun _ _ h=>h) fun _ _ h=>h.elim)
theorem nB {pins:Pn} {σ:St} {H:Hp} {s:Shared} {sc:Scope} {Nc:Ls} {fr:On} (B:Blk X.N X.env.scope sc Nc fr) (I:Inv X pins σ H s):closureFor sc X.env=pure (takes X.env.cells sc.names []):=
 pR fun y hy hf=>I.ok.has y.1 (B.free y hy hf)
theorem wO {elt iter tg:Expr} {sc:Scope} {pos:Pos} {Nc:Ls} {fr:On} {wi:TI} {g:TG} {te:TE} (hc:X.calm=true) (hi:PI X tg iter wi) (B:Blk X.N X.env.scope sc Nc fr)
  (hg:∀ s₀ H₀ C ex pn,PG (aF X sc Nc s₀ H₀ C ex pn) tg g) (he:∀ s₀ H₀ C ex pn,PE (aF X sc Nc s₀ H₀ C ex pn) elt te) (hs:autoParam (∀ x,foldedSetIterable iter X.env x=pure x) wT) :
  PE X (.ListComp elt [⟨tg,iter,[],0⟩] sc pos) (nH fr wi g te):=by
 intro pins s σ H Q I h;rw[eval_ListComp];refine wpAny_comprehension_free (use:=none) rfl hs (nB B I) B.kind B.locs (thn (hi pins s σ H _ I h) fun v s1 h1=>thn h1 fun itv s2 h2=>?_);obtain⟨it,fp,tn,J,H2,e,I2,T,st2,f2,cw⟩:=h2;subst e;refine oR (RR:=fun acc C=>compPost (model X.prog X.w) X.A X.xe none (EP X pins σ Q) acc C) B hc hg he I2 T st2 f2 cw fun D C s' H' I' hn fC q=>?_;obtain⟨m,hn⟩:=hn;exact⟨m,hn,fun h' sb=>⟨.ref D,H',I'.turned (t':=s'.toks) (fun b o hb e=>(sb.2 b hb).trans e) fC.1 fC.2.1 fC.2.2.2.1 fC.2.2.2.2.1 fC.2.2.2.2.2,rfl,q⟩⟩
theorem uW {i:Nat} {x:Str} {px spos:Pos} {elt iter tg:Expr} {sc:Scope} {pos:Pos} {Nc:Ls} {fr:On} {wi:TI} {g:TG} {te:TE} (hN:X.N.Nodup) (hi':X.N[i]?=some x) (hx:X.env.scope.names.lookup x=some .local)
  (hc:X.calm=true) (hi:PI X tg iter wi) (B:Blk X.N X.env.scope sc Nc fr)
  (hg:∀ s₀ H₀ C ex pn,PG (aF X sc Nc s₀ H₀ C ex pn) tg g) (he:∀ s₀ H₀ C ex pn,PE (aF X sc Nc s₀ H₀ C ex pn) elt te)
  (hsw:autoParam (swapsWith (.ListComp elt [⟨tg,iter,[],0⟩] sc pos) (some (.Name x px)) spos.line X.env=pure true) wE) (hs:autoParam (∀ x,foldedSetIterable iter X.env x=pure x) wT) :
  PS X (.Assign [.Name x px] (.ListComp elt [⟨tg,iter,[],0⟩] sc pos) spos) (eZ (nH fr wi g te) (cS i)):=by
 intro pins s σ H D I h;rw[exec_Assign_Name_used _ _ _ _ hsw];refine wpAny_bind (wpAny_standAt (wpAny_bind ?_));show wpAny _ X.A (do let _ <- comprehension (.ListComp elt [⟨tg,iter,[],0⟩] sc pos) sc X.env _ (newList []) false (eval iter X.env) (some (assign (.Name x px) X.env))) _ _ s;refine wpAny_bind (wpAny_mono (wpAny_comprehension_free (use:=some (assign (.Name x px) X.env)) (Q:=fun _ s'=>SP X pins D .next s') rfl hs (nB B I) B.kind B.locs
  (thn (hi pins s σ H _ I h) fun v s1 h1=>thn h1 fun itv s2 h2=>?_)) (fun _ s' hq=>wpAny_pure (wpAny_pure hq)) fun _ _ e=>e)
 obtain⟨it,fp,tn,J,H2,e,I2,T,st2,f2,cw⟩:=h2;subst e;refine oR (RR:=fun acc C=>compPost (model X.prog X.w) X.A X.xe (some (assign (.Name x px) X.env)) (fun _ s'=>SP X pins D .next s') acc C) B hc hg he I2 T st2 f2 cw fun L C s' H' I' hn fC q=>?_;obtain⟨m,hn⟩:=hn;show wpAny _ X.A (assign (.Name x px) X.env (.ref L)) _ _ _;refine wpAny_assign_Name (lJ I' hN hi' (.inl hx) (v:=.ref L) rfl (fun s3 I3 hs3=>?_) (.inr hx));obtain⟨a,sb,ha⟩:=hs3;have hCa:C≠a:=by
  rcases ha with e | e
  ·rw[e];exact fC.2.1
  ·exact fun z=>fC.2.2.2.2.1 _ _ e (by rw[z])
 exact⟨m,hn.sameBut sb hCa,fun h' sb'=>⟨_,H',I3.turned (t':=s3.toks) (fun b o hb e=>(sb'.2 b hb).trans e) fC.1 fC.2.1 fC.2.2.2.1 fC.2.2.2.2.1 fC.2.2.2.2.2,q⟩⟩
structure eU (K:Fg0):Prop where
 bb:PySem.W.kitOne K (.type "bool") (.type "bool")=some true
 bi:PySem.W.kitOne K (.type "bool") (.type "int")=some true
 bl:PySem.W.kitOne K (.type "bool") (.type "list")=some false
 bt:PySem.W.kitOne K (.type "bool") (.type "tuple")=some false
 ib:PySem.W.kitOne K (.type "int") (.type "bool")=some false
 ii:PySem.W.kitOne K (.type "int") (.type "int")=some true
 il:PySem.W.kitOne K (.type "int") (.type "list")=some false
 it:PySem.W.kitOne K (.type "int") (.type "tuple")=some false
 nb:PySem.W.kitOne K (.type "NoneType") (.type "bool")=some false
 ni:PySem.W.kitOne K (.type "NoneType") (.type "int")=some false
 nl:PySem.W.kitOne K (.type "NoneType") (.type "list")=some false
 nt:PySem.W.kitOne K (.type "NoneType") (.type "tuple")=some false
 sb:PySem.W.kitOne K (.type "str") (.type "bool")=some false
 si:PySem.W.kitOne K (.type "str") (.type "int")=some false
 sl:PySem.W.kitOne K (.type "str") (.type "list")=some false
 st:PySem.W.kitOne K (.type "str") (.type "tuple")=some false
 lb:PySem.W.kitOne K (.type "list") (.type "bool")=some false
 li:PySem.W.kitOne K (.type "list") (.type "int")=some false
 ll:PySem.W.kitOne K (.type "list") (.type "list")=some true
 lt:PySem.W.kitOne K (.type "list") (.type "tuple")=some false
 tb:PySem.W.kitOne K (.type "tuple") (.type "bool")=some false
 ti:PySem.W.kitOne K (.type "tuple") (.type "int")=some false
 tl:PySem.W.kitOne K (.type "tuple") (.type "list")=some false
 tt:PySem.W.kitOne K (.type "tuple") (.type "tuple")=some true
 db:PySem.W.kitOne K (.type "dict") (.type "bool")=some false
 di:PySem.W.kitOne K (.type "dict") (.type "int")=some false
 dl:PySem.W.kitOne K (.type "dict") (.type "list")=some false
 dt:PySem.W.kitOne K (.type "dict") (.type "tuple")=some false
inductive Kn (H:Hp):V->Prop where
 | non:Kn H .non
 | bl (b:Bool):Kn H (.bl b)
 | int (i:Int):Kn H (.int i)
 | str (x:Str):Kn H (.str x)
 | lst {a:Addr} {xs:List V} (e:H a=some (.lst xs)):Kn H (.ref a)
 | tup {a:Addr} {xs:List V} (e:H a=some (.tup xs)):Kn H (.ref a)
 | dK {a:Addr} {kvs:List (Key×V)} (e:H a=some (.dK kvs)):Kn H (.ref a)
noncomputable def isB:V->Bool
 | .bl _=>true
 | _=>false
noncomputable def isI:V->Bool
 | .bl _=>true
 | .int _=>true
 | _=>false
noncomputable def isL (H:Hp):V->Bool
 | .ref a=>match H a with
  | some (.lst _)=>true
  | _=>false
 | _=>false
noncomputable def isT (H:Hp):V->Bool
 | .ref a=>match H a with
  | some (.tup _)=>true
  | _=>false
 | _=>false
theorem xc {H:Hp} {a:Addr} {xs:List V} (h:H a=some (.lst xs)):isL H (.ref a)=true:=by simp only[isL,h]
theorem xb {H:Hp} {a:Addr} {xs:List V} (h:H a=some (.tup xs)):isL H (.ref a)=false:=by simp only[isL,h]
theorem vA {H:Hp} {a:Addr} {xs:List (Key×V)} (h:H a=some (.dK xs)):isL H (.ref a)=false:=by simp only[isL,h]
theorem xa {H:Hp} {a:Addr} {xs:List V} (h:H a=some (.lst xs)):isT H (.ref a)=false:=by simp only[isT,h]
theorem w_ {H:Hp} {a:Addr} {xs:List V} (h:H a=some (.tup xs)):isT H (.ref a)=true:=by simp only[isT,h]
theorem vz {H:Hp} {a:Addr} {xs:List (Key×V)} (h:H a=some (.dK xs)):isT H (.ref a)=false:=by simp only[isT,h]
theorem ar {pins:Pn} {s:Shared} {σ:St} {H:Hp} {x:V} {c:String} {us:Lv} {t:Value} {b b':Bool} {Q:VK} (I:Inv X pins σ H s) (r:Vals [x,.ty c] us) (ty:l_ X.K H x t) (e:PySem.W.kitOne X.K t (.type c)=some b) (eb:b'=b) (q:Q (.bl b') H) :
  wpAny (model X.prog X.w) X.A (call (.builtin "isinstance") us) (EP X pins σ Q) X.xe s:=by
 obtain⟨u,w',rfl,ru,rw'⟩:=vals2 r;obtain rfl:w'=Value.type c:=rw';subst eb;exact yx I ru ty e fun tk=>⟨.bl b',H,I.tok _,rfl,q⟩
theorem Bh (F:eU X.K):cK X (.builtin "isinstance") (fun xs H Q=>∃ x,xs=[x,.ty "bool"]/\Kn H x/\Q (.bl (isB x)) H):=by
 intro pins s σ H xs us Q I r h;obtain⟨x,rfl,k,q⟩:=h;cases k with
 | non=>exact ar I r .non F.nb rfl q
 | bl b=>exact ar I r (.bl b) F.bb rfl q
 | int i=>exact ar I r (.int i) F.ib rfl q
 | str y=>exact ar I r (.str y) F.sb rfl q
 | lst e=>exact ar I r (.lst e) F.lb rfl q
 | tup e=>exact ar I r (.tup e) F.tb rfl q
 | dK e=>exact ar I r (.dK e) F.db rfl q
theorem Bg (F:eU X.K):cK X (.builtin "isinstance") (fun xs H Q=>∃ x,xs=[x,.ty "int"]/\Kn H x/\Q (.bl (isI x)) H):=by
 intro pins s σ H xs us Q I r h;obtain⟨x,rfl,k,q⟩:=h;cases k with
 | non=>exact ar I r .non F.ni rfl q
 | bl b=>exact ar I r (.bl b) F.bi rfl q
 | int i=>exact ar I r (.int i) F.ii rfl q
 | str y=>exact ar I r (.str y) F.si rfl q
 | lst e=>exact ar I r (.lst e) F.li rfl q
 | tup e=>exact ar I r (.tup e) F.ti rfl q
 | dK e=>exact ar I r (.dK e) F.di rfl q
theorem Bf (F:eU X.K):cK X (.builtin "isinstance") (fun xs H Q=>∃ x,xs=[x,.ty "list"]/\Kn H x/\Q (.bl (isL H x)) H):=by
 intro pins s σ H xs us Q I r h;obtain⟨x,rfl,k,q⟩:=h;cases k with
 | non=>exact ar I r .non F.nl rfl q
 | bl b=>exact ar I r (.bl b) F.bl rfl q
 | int i=>exact ar I r (.int i) F.il rfl q
 | str y=>exact ar I r (.str y) F.sl rfl q
 | lst e=>exact ar I r (.lst e) F.ll (xc e) q
 | tup e=>exact ar I r (.tup e) F.tl (xb e) q
 | dK e=>exact ar I r (.dK e) F.dl (vA e) q
theorem Bb (F:eU X.K):cK X (.builtin "isinstance") (fun xs H Q=>∃ x,xs=[x,.ty "tuple"]/\Kn H x/\Q (.bl (isT H x)) H):=by
 intro pins s σ H xs us Q I r h;obtain⟨x,rfl,k,q⟩:=h;cases k with
 | non=>exact ar I r .non F.nt rfl q
 | bl b=>exact ar I r (.bl b) F.bt rfl q
 | int i=>exact ar I r (.int i) F.it rfl q
 | str y=>exact ar I r (.str y) F.st rfl q
 | lst e=>exact ar I r (.lst e) F.lt (xa e) q
 | tup e=>exact ar I r (.tup e) F.tt (w_ e) q
 | dK e=>exact ar I r (.dK e) F.dt (vz e) q
end
section
variable {X:Cx} {pins:Pn} {σ:St} {H:Hp} {s:Shared}
end
section
variable {X:Cx}
noncomputable def mi (xs:List V) (lo hi st:Option Int):List V:=
 (sliceRange (sliceBounds lo hi st xs.length).1 (sliceBounds lo hi st xs.length).2.1 (sliceBounds lo hi st xs.length).2.2).filterMap (xs[·]?)
theorem Vals.places:∀ {xs:List V} {us:Lv},Vals xs us->∀ js:List Nat,Vals (js.filterMap (xs[·]?)) (js.filterMap (us[·]?))
 | _,_,_,[]=>.nil
 | xs,us,h,j::js=>by
  have ih:=Vals.places h js;cases hn:xs[j]? with
  | some x=>
   obtain⟨u,hu,r⟩:=h.get hn;simp only[List.filterMap_cons,hn,hu];exact .cons r ih
  | none=>
   have hv:=h.none_of hn;simp only[List.filterMap_cons,hn,hv];exact ih
def Hh (K:Fg0) (te:TE) (tl th ts:TO):TE:=fun σ H Q=>te σ H fun x H1=>tl σ H1 fun l H2=>th σ H2 fun u H3=>ts σ H3 fun k H4=>k≠some 0/\∃ a xs,x=.ref a/\SqL K H4 a xs/\∀ p,H4 p=none->Q (.ref p) (upd H4 p (.lst (mi xs l u k)))
theorem yb {e:Expr} {te:TE} {lo hi:Option Expr} {st:Expr} {tl th ts:TO} {p2 pos:Pos} (he:PE X e te) (hl:PO X lo tl) (hu:PO X hi th) (hs:PO X (some st) ts):PE X (.Subscript e (.Slice lo hi (some st) p2) pos) (Hh X.K te tl th ts):=by
 intro pins s σ H Q I h;refine Subscript_ (thn (he pins s σ H _ I h) fun v s1 Z=>?_);obtain⟨x,H1,I1,r1,q1⟩:=Z;refine wpAny_Slice (thn (hl pins s1 σ H1 _ I1 q1) fun vl s2 ⟨l,H2,I2,pl,q2⟩=>thn (hu pins s2 σ H2 _ I2 q2) fun vu s3 ⟨u,H3,I3,pu,q3⟩=>thn (hs pins s3 σ H3 _ I3 q3) fun vk s4 Z=>?_);obtain⟨k,H4,I4,pk,q4⟩:=Z;obtain⟨k0,a,xs,rfl,hx,q⟩:=q4;cases r1;have I5:Inv X pins σ H4 { s4 with heap:=s4.heap.push { cls:=.type "slice",data:=.fields #[vl,vu,vk] } }:=I4.kept (t':=s4.toks) fun b ob q=>Heap.get?_push_of_some _ q;obtain⟨its,r,ht,hz⟩:=I5.list hx;have hlen:=r.length;show wpAny (model X.prog X.w) X.A (subscriptTail e (.Slice lo hi (some st) p2) (.ref a) (.ref s4.heap.objs.size)) (EP X pins σ Q) X.xe { s4 with heap:=s4.heap.push { cls:=.type "slice",data:=.fields #[vl,vu,vk] } };refine tail_any (ops:=[.ref a,.ref s4.heap.objs.size]) ht.isList.typeIs slot_list_getitem.lookup (wpAny_getItem_list_slice ht.isList (Heap.IsSliceOf.new ..) pl pu pk k0 ?_ (by rw[List.size_toArray] <;> lia)) (by with_unfolding_all rfl);refine⟨.ref _,_,I5.laid (t':=s4.toks) (o:=.lst (mi xs l u k)) (fun b ob q=>Heap.get?_push_of_some _ q) (Nat.le_refl _) ?_,rfl,q _ (I5.hok.fresh (Nat.le_refl _))⟩;have rp:Vals (mi xs l u k) (slicePick its.toArray l u k).toList:=by
  have e:(slicePick its.toArray l u k).toList=(sliceRange (sliceBounds l u k xs.length).1 (sliceBounds l u k xs.length).2.1 (sliceBounds l u k xs.length).2.2).filterMap (its[·]?):=by
   simp [slicePick,hlen]
  rw[e];exact r.places _
 have hsz:=slicePick_size_le its.toArray l u k;have h2:=rp.length;simp only[Array.length_toList,List.size_toArray] at h2 hsz;exact⟨by lia,_,0,rp,Heap.get?_push_size _ rfl⟩
end
section
variable {prog:Program} {w:World} {A:Around} {E:VS} {s:Shared}
end
section
variable {X:Cx} {pins:Pn} {σ:St} {H:Hp} {s:Shared}
theorem Inv.adopt {S:Addr} {xs:List V} {us:Lv} {c:Nat} (I:Inv X pins σ H s) (fS:fN X pins H S) (hS:s.heap.get? S=some (c6 us c)) (r:Vals xs us) (hz:xs.length<=sizeLine):Inv X pins σ (upd H S (.lst xs)) s:=by
 have neH:∀ {b:Addr} {u:HO},H b=some u->b≠S:=fun e z=>by rw[z,fS.1] at e;cases e
 refine⟨I.ok,I.os,I.bare,⟨I.base.keep,I.base.slot,fun b o e n hx=>?_,I.base.there,fun b ys e=>?_,fun b o u e=>?_,fun b ps e=>?_⟩,I.loc,I.cell,?_,fun x d e=>?_,fun p hp=>?_,fun b u e=>?_,I.len⟩
 ·have nb:b≠S:=fun z=>by
   rcases fS.2.2.2.1 with q | q
   ·exact hx (by rw[z];exact q)
   ·exact absurd (Nat.lt_of_lt_of_le (Heap.lt_size e) (by rw[z];exact q)) (Nat.lt_irrefl _)
  rw[aj nb];exact I.base.free b o e n hx
 ·have q:=I.base.tups b ys e;rw[aj (neH q)];exact q
 ·have q:=I.base.frzs b o u e;rw[aj (neH q)];exact q
 ·obtain⟨m,q⟩:=I.base.tbls b ps e;exact⟨m,by rw[aj (neH q)];exact q⟩
 ·rw[aj (Ne.symm fS.2.1)];exact I.free
 ·rw[aj (fS.2.2.2.2.1 x d e)];exact I.freeC x d e
 ·obtain⟨e1,e2,e3⟩:=I.pin p hp;exact⟨e1,by rw[aj (fS.2.2.2.2.2 p hp)];exact e2,e3⟩
 ·by_cases hb:b=S
  ·subst hb;rw[aA] at e;cases e;exact⟨hz,us,c,r,hS⟩
  ·rw[aj hb] at e;exact(I.hok b u e).sP (fun _ _ _ q=>q) (fun d q=>by rw[aj (neH q)];exact q) (fun d ys q=>by rw[aj (neH q)];exact q) fun d o φ q=>by rw[aj (neH q)];exact q
theorem fN.heap {b:Addr} {H':Hp} (f:fN X pins H b) (h:H' b=none):fN X pins H' b:=⟨h,f.2⟩
end
section
variable {X:Cx} {C:Addr} {x:Str} {p pos:Pos}
structure Mk0 (K:Fg0) (C:Addr):Prop where
 makes:PySem.W.makesIn K C=true
 init:PySem.W.findIn K (.ref C) "__init__"=some (some (.builtin "object.__init__"))
 kp:PySem.W.keepIn K (.ref C)=true
def wt (C:Addr):TE:=fun _ H Q=>∀ x dx,H x=none->H dx=none->dx≠x->Q (.ref x) (upd (upd H dx (.own x)) x (.ins C dx []))
theorem yc (M:Mk0 X.K C) (hg:Gl X x) (hm:X.mg x=some (.ref C)) (hdb:autoParam ((x == ("__debug__":Str))=false) wP):PE X (.Call (.Name x p) [] [] pos) (wt C):=by
 intro pins s σ H Q I h;refine wpAny_Call_Name_kw (kE I hg hm ?_ hdb);refine PySem.W.callWith_K0 I.kIn M.kp (wpAny_call ?_);have hq:=h (s.heap.objs.size + 1) s.heap.objs.size (I.hok.fresh (Nat.le_succ _)) (I.hok.fresh (Nat.le_refl _)) (Nat.ne_of_lt (Nat.lt_succ_self _));have I2:=Inv.made (C:=C) I;have Y:=PySem.W.makes_of (M:=model X.prog X.w) I.kIn M.makes;refine yn I.kIn M.makes M.init (fun self=>PySem.W.Looks.of_pure (PySem.W.oi_bind self)) ?_;have e2:((s.heap.push PySem.W.emptyDict).push (PySem.W.instObj C s.heap.objs.size)).get? (s.heap.objs.size + 1)=some (PySem.W.instObj C s.heap.objs.size):=by
  have:=Heap.get?_push_size (s.heap.push PySem.W.emptyDict) (o:=PySem.W.instObj C s.heap.objs.size) rfl
  rwa [Heap.size_push] at this
 have t1:PySem.W.Looks (model X.prog X.w) ((s.heap.push PySem.W.emptyDict).push (PySem.W.instObj C s.heap.objs.size)) (typeOf (.ref (s.heap.objs.size + 1))) (.ref C):=(PySem.W.Looks.ld e2).andThen .now;have t2:PySem.W.Looks (model X.prog X.w) ((s.heap.push PySem.W.emptyDict).push (PySem.W.instObj C s.heap.objs.size)) (isInstance (.ref (s.heap.objs.size + 1)) (.type "object")) true:=t1.andThen (Y.top.keeps fun b o e=>Heap.get?_push_of_some _ (Heap.get?_push_of_some _ e));refine codeAny_call_builtin PySem.W.oi_plain PySem.W.entry_oi (@PySem.W.check_slot (model X.prog X.w) _ _ _ "object.__init__" "object" "__init__" (.ref (s.heap.objs.size + 1)) [] [] _ PySem.W.oi_kind PySem.W.oi_split t2 (PySem.W.oi_args (.ref (s.heap.objs.size + 1))) ?_);rw[PySem.W.oi_run];exact wpAny_pure (And.intro rfl ⟨V.ref (s.heap.objs.size + 1),_,I2,rfl,hq⟩)
end
theorem xm {α β:Type} {f:α->Option β} {g:α->β}:∀ {l:List α},(∀ k∈l,f k=some (g k))->l.filterMap f=l.map g
 | [],_=>rfl
 | k::l,h=>by
  rw[List.filterMap_cons,h k List.mem_cons_self,List.map_cons,xm fun j hj=>h j (List.mem_cons_of_mem _ hj)]
theorem Kt (ns:Li) {k:Nat} (h:k < ns.length):(ns.map V.int)[k]?=some (V.int (ns.getD k 0)):=by
 rw[List.getElem?_map,List.getD_eq_getElem?_getD,gE0 h]
 rfl
theorem HV (ns:Li):mi (ns.map V.int) (some 0) none (some 2)=(List.range ((ns.length + 1) / 2)).map fun k=>V.int (ns.getD (2 * k) 0):=by
 have e:sliceBounds (some 0) none (some 2) (ns.map V.int).length=(0,(ns.length:Int),2):=by
  simp [sliceBounds];lia
 unfold mi;rw[e];have e2:sliceRange 0 (ns.length:Int) 2=(List.range ((ns.length + 1) / 2)).map fun k=>2 * k:=by
  unfold sliceRange;have ec:(if (2:Int) > 0 then (if (0:Int) < (ns.length:Int) then ((ns.length:Int) - 0 + 2 - 1) / 2 else 0) else (if (0:Int) > (ns.length:Int) then (0 - (ns.length:Int) - 2 - 1) / (-2) else 0)).toNat=(ns.length + 1) / 2:=by
   rw[if_pos (by decide)];split <;> lia
  simp only[ec];refine List.map_congr_left fun k _=>?_;lia
 simp only[e2,List.filterMap_map];refine xm fun k hk=>?_;have:=List.mem_range.mp hk;exact Kt ns (show 2 * k < ns.length by lia)
noncomputable def G7 (lo c:Int) (n:Nat):It:=⟨fun i _=>i < n,fun i H x H'=>H'=H/\x=.int (lo + i * c),fun i _=>n<=i⟩
theorem sI {P:Program} {w:World} {K:Fg0} {tg:Expr} (it:Addr) (lo c:Int) (n:Nat):Turn P w K tg (G7 lo c n) [it] it (fun i h=>IsRangeIter h it (lo + (i:Nat) * c) ((n:Int) - (i:Nat)) c) where
 mem:=by simp
 obj:=fun i h st b hb=>by
  obtain rfl:b=it:=by simpa using hb
  exact⟨_,st,fun v z=>by cases (show Data.fields _=Data.cell v from z)⟩
 keep:=fun i h h' st k=>k it (by simp) _ st
 item:=by
  intro X hP hw hK hc i pins s σ H E I hf st hg;subst hP hw hK;obtain⟨f0,f1,f2,f3,f4,f5⟩:=hf it (by simp);refine(Walks.range (prog:=X.prog) (w:=X.w) (I.ok.hd hc) it lo c n).item i s _ _ hg st fun v h' tk hv st' kk=>?_;obtain⟨t,rfl⟩:=hv;have I1:Inv X pins σ H { s with heap:=h',toks:=tk }:=I.turned (fun b o hb e=>kk b o (by simpa using hb) e) f0 f1 f3 f4 f5;exact⟨_,rfl,uc (s:={ s with heap:=h',toks:=tk }) (n:="range_iterator") st' rfl rfl (by decide) ⟨.int (lo + i * c),H,I1,⟨t,rfl⟩,⟨rfl,rfl⟩,st',fun b hb=>(hf b hb).1⟩⟩
 done:=by
  intro X hP hw hK hc i pins s σ H E I hf st hg;subst hP hw hK;obtain⟨f0,f1,f2,f3,f4,f5⟩:=hf it (by simp);have hg':n<=i:=hg;exact wpAny_pyNext_range_end (I.ok.hd hc) st (by lia) fun h' eb=>⟨rfl,I.turned (t':=s.toks) (fun b o hb e=>eb b o hb e) f0 f1 f3 f4 f5⟩
 self:=fun _ _ _ _ _ st h=>wpAny_pyIter_rangeiter st h
section
variable {X:Cx} {tg:Expr}
end
theorem iW (ns:Li) (k:Nat) (h:k<=ns.length):pQ (ns.map V.int) (some (k:Int)) none=(ns.drop k).map V.int:=by
 have e:HT.sIx (ns.map V.int).length 0 (some (k:Int))=k:=by
  simp only[HT.sIx,lM0];split <;> lia
 unfold pQ;rw[e,show HT.sIx (ns.map V.int).length (ns.map V.int).length none=ns.length by simp [HT.sIx]];rw[List.take_of_length_le (by simp),List.map_drop]
noncomputable def sgn (c:Nat):Str:=⟨#[c]⟩
noncomputable def Its (x:Str):It:=⟨fun i _=>i < x.cps.size,fun i H v H'=>H'=H/\∃ c,x.cps[i]?=some c/\v=.str (sgn c),fun i _=>x.cps.size<=i⟩
theorem yV {P:Program} {w:World} {K:Fg0} {tg:Expr} (it:Addr) (x:Str) (t:Tok):Turn P w K tg (Its x) [it] it (fun i h=>h.IsStrIter it "str_ascii_iterator" x t i) where
 mem:=by simp
 obj:=fun i h st b hb=>by
  obtain rfl:b=it:=by simpa using hb
  obtain⟨o,e,c,d⟩:=st;exact⟨o,e,fun v z=>by rw[d] at z;cases z⟩
 keep:=fun i h h' st k=>let ⟨o,e,r⟩:=st;⟨o,k it (by simp) o e,r⟩
 item:=by
  intro X hP hw hK hc i pins s σ H E I hf st hg;subst hP hw hK;obtain⟨f0,f1,f2,f3,f4,f5⟩:=hf it (by simp);have hg':i < x.cps.size:=hg;refine wpAny_pyNext_ascii_item st (c:=x.cps[i]) (by simp [hg']) fun h' st' sb=>?_;have I1:Inv X pins σ H { s with heap:=h',toks:=s.toks + 1 }:=I.turned (fun b o hb e=>(sb.2 b hb).trans e) f0 f1 f3 f4 f5;obtain⟨o,e,c,d⟩:=id st';exact⟨_,rfl,uc (s:={ s with heap:=h',toks:=s.toks + 1 }) e c d (by decide) ⟨.str (sgn x.cps[i]),H,I1,⟨_,rfl⟩,⟨rfl,_,by simp [hg'],rfl⟩,st',fun b hb=>(hf b hb).1⟩⟩
 done:=by
  intro X hP hw hK hc i pins s σ H E I hf st hg;subst hP hw hK;obtain⟨f0,f1,f2,f3,f4,f5⟩:=hf it (by simp);have hg':x.cps.size<=i:=hg;exact wpAny_pyNext_ascii_end (I.ok.hd hc) st (by simpa using hg') fun h' eb=>⟨rfl,I.turned (t':=s.toks) (fun b o hb e=>eb b o hb e) f0 f1 f3 f4 f5⟩
 self:=fun _ _ _ _ _ st h=>wpAny_pyIter_striter_ascii st h
section
variable {X:Cx} {tg:Expr}
def IJ (tl:TE):TI:=fun σ H R=>tl σ H fun x H1=>∃ z,x=.str z/\z.cps.all (· < 128)=true/\R (Its z) H1
theorem Fc {l:Expr} {tl:TE} (hl:PE X l tl):PI X tg l (IJ tl):=by
 intro pins s σ H R I h;refine thn (hl pins s σ H _ I h) fun v s1 Z=>?_;obtain⟨x,H1,I1,r1,q1⟩:=Z;obtain⟨z,rfl,ha,q⟩:=q1;obtain⟨t,rfl⟩:=r1;refine wpAny_pyIter_ascii ha ?_;refine⟨s1.heap.objs.size,[s1.heap.objs.size],_,_,H1,rfl,I1.kept (t':=s1.toks) fun b o e=>Heap.get?_push_of_some _ e,yV _ z t,⟨_,Heap.get?_push_size _ rfl,rfl,rfl⟩,fun b hb=>?_,q⟩;obtain rfl:b=s1.heap.objs.size:=by simpa using hb
 exact I1.pP (Nat.le_refl _) (I1.hok.fresh (Nat.le_refl _))
def zD:R2:=fun x y H Q=>∃ z n,x=.str z/\y=.int n/\(n=0\/n=1)/\z.length<=sizeLine/\Q (.str (if n=0 then Str.empty else z)) H
theorem CA:OpR X (binaryOp .Mult) zD:=by
 intro pins s σ H x y v u Q I rx ry h;obtain⟨z,n,rfl,rfl,hn,hz,q⟩:=h;obtain⟨t,rfl⟩:=rx;obtain⟨t',rfl⟩:=ry;rcases hn with rfl | rfl
 ·refine PySem.P.mul_str_none (by decide) (by decide) ⟨.str Str.empty,H,I.tok _,⟨_,rfl⟩,by simpa using q⟩
 ·refine PySem.P.mul_str (by decide) (fun _ h=>absurd h (by simp)) (fun _ h=>absurd h (by simp)) ?_;rw[if_neg (by decide),if_pos (by simp)];exact⟨.str z,H,I,⟨_,rfl⟩,by simpa using q⟩
noncomputable def HK:V->Option Int->Option Int->Hp->VK->Prop:=fun x lo hi H Q=>∃ z,x=.str z/\z.length<=sizeLine/\Q (.str (Txt.slice z lo hi)) H
theorem EK:SlR X HK:=by
 intro pins s σ H x v vl vu lo hi sl Q I rx hs pl pu h;obtain⟨z,rfl,hz,q⟩:=h;obtain⟨t,rfl⟩:=rx;refine⟨"str",_,F.slot_str_getitem.lookup,typeIs_str _ _ _,?_⟩;cases pl with
 | none=>cases pu with
  | none=>exact wpAny_getItem_str_slice (l:=none) (u:=none) (st:=none) hs rfl (post_val_or_str ⟨Nat.le_trans (Txt.slice_le z _ _) hz,fun t' k=>⟨.str _,H,I.tok _,⟨_,rfl⟩,q⟩⟩)
  | int j tj=>exact wpAny_getItem_str_slice (l:=none) (u:=some (j,tj)) (st:=none) hs rfl (post_val_or_str ⟨Nat.le_trans (Txt.slice_le z _ _) hz,fun t' k=>⟨.str _,H,I.tok _,⟨_,rfl⟩,q⟩⟩)
 | int i ti=>cases pu with
  | none=>exact wpAny_getItem_str_slice (l:=some (i,ti)) (u:=none) (st:=none) hs rfl (post_val_or_str ⟨Nat.le_trans (Txt.slice_le z _ _) hz,fun t' k=>⟨.str _,H,I.tok _,⟨_,rfl⟩,q⟩⟩)
  | int j tj=>exact wpAny_getItem_str_slice (l:=some (i,ti)) (u:=some (j,tj)) (st:=none) hs rfl (post_val_or_str ⟨Nat.le_trans (Txt.slice_le z _ _) hz,fun t' k=>⟨.str _,H,I.tok _,⟨_,rfl⟩,q⟩⟩)
structure TyS (K:Fg0):Prop where
 bs:PySem.W.kitOne K (.type "bool") (.type "str")=some false
 is:PySem.W.kitOne K (.type "int") (.type "str")=some false
 ns:PySem.W.kitOne K (.type "NoneType") (.type "str")=some false
 ss:PySem.W.kitOne K (.type "str") (.type "str")=some true
 ls:PySem.W.kitOne K (.type "list") (.type "str")=some false
 ts:PySem.W.kitOne K (.type "tuple") (.type "str")=some false
 ds:PySem.W.kitOne K (.type "dict") (.type "str")=some false
noncomputable def isS:V->Bool
 | .str _=>true
 | _=>false
theorem Bc (F:TyS X.K):cK X (.builtin "isinstance") (fun xs H Q=>∃ x,xs=[x,.ty "str"]/\Kn H x/\Q (.bl (isS x)) H):=by
 intro pins s σ H xs us Q I r h;obtain⟨x,rfl,k,q⟩:=h;cases k with
 | non=>exact ar I r .non F.ns rfl q
 | bl b=>exact ar I r (.bl b) F.bs rfl q
 | int i=>exact ar I r (.int i) F.is rfl q
 | str y=>exact ar I r (.str y) F.ss rfl q
 | lst e=>exact ar I r (.lst e) F.ls rfl q
 | tup e=>exact ar I r (.tup e) F.ts rfl q
 | dK e=>exact ar I r (.dK e) F.ds rfl q
end
section
variable {prog:Program} {w:World} {A:Around} {E:VS} {s:Shared}
noncomputable abbrev wF (n:Int):Obj:={ cls:=.type "range_iterator",data:=.fields #[rawInt (n - 1),rawInt n,rawInt (-1)] }
theorem Hs {n:Int} (h:0<=n):Builtin.Range.rangeSize 0 n 1=n:=by
 unfold Builtin.Range.rangeSize;rw[if_pos (by decide),Int.ediv_one];split <;> lia
theorem jr {r:Addr} {n:Int} {t u v:Tok} {Q:VS} (hr:IsRange s.heap r 0 n 1 t u v) (h0:0<=n) (h1:n < 2 ^ 62)
  (h:Q (.ref s.heap.objs.size) { s with heap:=s.heap.push (wF n) }):wpAny (model prog w) A (call (.builtin "range.__reversed__") [.ref r]) Q E s:=by
 have hT:s.TypeIs (.ref r) "range":=⟨_,hr,rfl⟩;have e2:(Builtin.Range.rangeFitsLong 0 && Builtin.Range.rangeFitsLong n && Builtin.Range.rangeFitsLong 1 && Builtin.Range.rangeFitsLong (-1) && Builtin.Range.rangeFitsLong (0 - 1) && Builtin.Range.rangeFitsLong n)=true:=by
  simp only[Builtin.Range.rangeFitsLong,Bool.and_eq_true,decide_eq_true_eq];lia
 refine wpAny_call_entry F.slot_range_reversed hT F.entry_range_reversed ?_ (F.args_range_reversed_1 _);unfold Builtin.«range.__reversed__»;refine wpAny_bind (wpAny_of_eq (a:=Value.ref r) rfl ?_);refine wpAny_bind ?_;unfold Builtin.Range.rangeFields;refine wpAny_bind (wpAny_field hr rfl (x:=.int 0 t) rfl ?_);refine wpAny_bind (wpAny_of_eq (a:=some (0:Int)) rfl ?_);refine wpAny_bind (wpAny_field hr rfl (x:=.int n u) rfl ?_);refine wpAny_bind (wpAny_of_eq (a:=some n) rfl ?_);refine wpAny_bind (wpAny_field hr rfl (x:=.int 1 v) rfl ?_);refine wpAny_bind (wpAny_of_eq (a:=some (1:Int)) rfl ?_);refine wpAny_pure ?_;dsimp only;rw[Hs h0,e2];simp only[Bool.not_true,Bool.false_eq_true,if_false,if_true];have e3:(0:Int) + (n - 1) * 1=n - 1:=by lia
 rw[e3]
 first
 | exact wpAny_bind (wpAny_newObj_type (wpAny_pure ⟨_,rfl,h⟩))
 | exact wpAny_bind (wpAny_pure (wpAny_bind (wpAny_newObj_type (wpAny_pure ⟨_,rfl,h⟩))))
theorem mU:isSubtype (.type "range_iterator") (.type "reversed")=pure false:=by rw[isSubtype_type];kernel_rfl
theorem jo {r:Addr} {n:Int} {t u v:Tok} {Q₁:VS} (hr:IsRange s.heap r 0 n 1 t u v) (h0:0<=n) (h1:n < 2 ^ 62)
  (h:Q₁ (.ref s.heap.objs.size) { s with heap:=s.heap.push (wF n) }) :
  codeAny (model prog w) A (.call (.builtin "reversed.__new__") ⟨[.type "reversed",.ref r],[]⟩) (wants Q₁ E) s:=by
 have hT:s.TypeIs (.ref r) "range":=⟨_,hr,rfl⟩;refine codeAny_of_tree ?_;show wpAny _ A.in1 (checkBuiltinCall "reversed.__new__" ⟨[.type "reversed",.ref r],[]⟩ >>= fun _=>again (.builtin "reversed.__new__" ⟨[.type "reversed",.ref r],[]⟩)) _ _ s;refine wpAny_bind (wpAny_of_eq (F.newCall_reversed_1 _) (wpAny_pure ⟨plainId_quiet F.plain_reversed_new _,codeAny_builtin F.entry_reversed_new ?_⟩));rw[Around.under_plainId F.plain_reversed_new _];unfold Builtin.«reversed.__new__»;refine wpAny_bind (wpAny_of_eq (newClass_reversed _) ?_)
 try dsimp only
 refine wpAny_bind (wpAny_of_eq (a:=()) (by first | rfl | kernel_rfl) ?_);refine wpAny_bind (wpAny_of_eq (a:=()) (by first | rfl | kernel_rfl) ?_)
 try dsimp only
 refine wpAny_bind (wpAny_specialOf hT F.slot_range_reversed.lookup ?_)
 try dsimp only
 refine wpAny_bind (wpAny_of_eq (F.slot_range_reversed.bind _) ?_)
 try dsimp only
 have ng:¬ ((Value.builtin "range.__reversed__" == Value.none)=true):=Bool.false_ne_true
 first
 | rw[if_neg ng]
 | (show wpAny _ _ (if (Value.builtin "range.__reversed__" == Value.none)=true then _ else _) _ _ _;rw[if_neg ng])
 refine wpAny_bind (wpAny_rule ?_);refine wpAny_bind (m:=runValue (.call (.builtin "range.__reversed__") ⟨[.ref r],[]⟩)) (show wpAny _ _ (call (.builtin "range.__reversed__") [.ref r]) _ _ _ from jr hr h0 h1 ?_)
 first
 | exact wpAny_pure h
 | exact wpAny_bind (wpAny_pure (wpAny_pure h))
theorem jq {r:Addr} {n:Int} {t u v:Tok} {Q:VS} (hr:IsRange s.heap r 0 n 1 t u v) (h0:0<=n) (h1:n < 2 ^ 62)
  (h:Q (.ref s.heap.objs.size) { s with heap:=s.heap.push (wF n) }):wpAny (model prog w) A (call (.type "reversed") [.ref r]) Q E s:=by
 refine callType_other (U:="range_iterator") (Q₁:=fun obj s₁=>obj=.ref s.heap.objs.size/\s₁={ s with heap:=s.heap.push (wF n) }) (by decide +kernel) F.create_reversed ⟨_,_,F.mro_reversed⟩ F.made_reversed mU (F.typeCall_reversed_1 _) (jo hr h0 h1 ⟨rfl,rfl⟩) ?_;rintro obj s₁ ⟨rfl,rfl⟩;exact⟨⟨_,Heap.get?_push_size _ rfl,rfl⟩,h⟩
end
section
variable {X:Cx} {tg:Expr}
def IM (ta:TA):TI:=fun σ H R=>ta σ H fun vs H1=>∃ j:Int,vs=[.int j]/\0<=j/\j < 2 ^ 62/\R (G7 (j - 1) (-1) j.toNat) H1
theorem Fd {a:Expr} {ta:TA} {p p' pos pos':Pos} (hg':Gl X "reversed") (hm':X.mg "reversed"=none) (hg:Gl X "range") (hm:X.mg "range"=none) (ha:PA X [a] ta) (hs:autoParam (starEach [a] X.env=[(false,eval a X.env)]) wE)
  (hs':autoParam (starEach [.Call (.Name "range" p) [a] [] pos] X.env=[(false,eval (.Call (.Name "range" p) [a] [] pos) X.env)]) wE) :
  PI X tg (.Call (.Name "reversed" p') [.Call (.Name "range" p) [a] [] pos] [] pos') (IM ta):=by
 intro pins s σ H R I h;refine Call_ (jZ I hg' hm' (by decide +kernel:bootBuiltins "reversed"=some (.type "reversed")) (PyProof.Rows.callWith_type1 ?_ hs' rfl));rw[hs'];have hsp:∀ (q:Sem Value) (Q:Lv->Shared->Prop) (s:Shared),wpAny (model X.prog X.w) X.A q (fun v s'=>Q [v] s') X.xe s->wpAny (model X.prog X.w) X.A (spliced (backTo pos' [(false,q)])) Q X.xe s:=fun q Q s hq=>by
  show wpAny _ _ (spliced ((false,q)::backTo pos' [])) _ _ s;exact Calls.spliced_cons (thn hq fun v s' z=>Calls.spliced_nil z)
 refine hsp _ _ _ ?_;refine Call_ (jZ I hg hm boot_range (PyProof.Rows.callWith_type1 (thn (ha pos pins s σ H _ I h) fun us s1 Z=>?_) hs rfl));obtain⟨vs,H1,I1,r1,q1⟩:=Z;obtain⟨j,e,q0,q2,q⟩:=q1;subst e;obtain⟨u,rfl,ru⟩:=vals1 r1;obtain⟨t,rfl⟩:=ru;refine call_range_1 ?_;have I2:Inv X pins σ H1 { s1 with heap:=s1.heap.push { cls:=.type "range",data:=.fields #[.int 0 s1.toks,.int j t,.int 1 (s1.toks + 1)] },toks:=s1.toks + 1 + 1 }:=I1.kept fun b o e=>Heap.get?_push_of_some _ e;refine jq (IsRange.new ..) q0 q2 ?_;refine wpAny_pyIter_rangeiter (x:=j - 1) (left:=j) (step:=-1) (Heap.get?_push_size _ rfl) ?_;refine⟨_,_,_,_,H1,rfl,I2.kept (t':=s1.toks + 1 + 1) fun b o e=>Heap.get?_push_of_some _ e,sI _ (j - 1) (-1) j.toNat,?_,fun b hb=>?_,q⟩
 ·show IsRangeIter _ _ (j - 1 + ((0:Nat):Int) * (-1)) (((j.toNat:Nat):Int) - ((0:Nat):Int)) (-1);rw[show j - 1 + ((0:Nat):Int) * (-1)=j - 1 by simp,show ((j.toNat:Nat):Int) - ((0:Nat):Int)=j by simp;lia];exact Heap.get?_push_size _ rfl
 ·have eb:b=s1.heap.objs.size + 1:=by simpa using hb
  have hge:(s1.heap.push { cls:=.type "range",data:=.fields #[.int 0 s1.toks,.int j t,.int 1 (s1.toks + 1)] }).objs.size<=b:=by rw[Heap.size_push,eb];exact Nat.le_refl _
  exact I2.pP hge (I2.hok.fresh hge)
end
section
variable {prog:Program} {w:World} {A:Around} {E:VS} {s:Shared}
end
section
variable {X:Cx} {pins:Pn} {σ:St} {H:Hp} {s:Shared}
end
section
variable {prog:Program} {w:World} {A:Around} {E:VS} {s:Shared}
end
section
variable {X:Cx}
end
structure ExcAt (n:Nat) (H:Hp) (h:Heap) (e:Addr) (cls:Value) (dx:Option Addr):Prop where
 ge:n<=e
 free:H e=none
 rcd:∃ oe vs,h.get? e=some oe/\oe.cls=cls/\oe.dict=dx/\oe.data=.fields vs/\1 < vs.size/\
  (vs[1]?=some .none\/∃ T oT ts,vs[1]?=some (.ref T)/\n<=T/\T≠e/\H T=none/\h.get? T=some oT/\oT.data=.fields ts/\ts[3]?=some .none)
section
variable {M:Model} {A:Around} {E:VS} {s:Shared} {base:Heap} {env:Env} {outer:List Env} {L e:Addr} {n:Nat} {H:Hp} {cls:Value} {dx:Option Addr}
end
section
variable {P:Program} {w:World} {K:Fg0} {mg:SV} {base:Heap} {N:Ls} {qual:Str} {scope:Scope} {f:Addr} {cd:Value} {A:Around} {outer:List Env} {s:Shared} {H:Hp} {E:XK}
end
open PySem PySem.Spec PyProof.Rows PySem.W
section
variable {prog:Program} {w:World} {A:Around} {K:Frag} {C:Addr} {R:Result->Shared->Prop} {h:Heap} {g:Array GenState} {d:Drawn} {t:Nat} {os:OsState}
end
section
variable {P:Program} {w:World} {K:Fg0} {mg:SV} {base:Heap} {N:Ls} {qual:Str} {scope:Scope} {f:Addr} {cd:Value} {A:Around} {outer:List Env} {s:Shared} {H:Hp} {E:XK}
end
section
variable {X:Cx} {CX:CXT} {k:Nat} {f C:Addr} {fd:FuncData} {ps:Ls} {sp:Sp} {dvs:List V} {ds:Lv} {E E':XK} {x m:Str} {p pos apos cpos:Pos} {e o:Expr} {es:List Expr} {ta:TE} {t:TA}
end
open Builtin Builtin.ObjectAttr
section
variable {prog:Program} {w:World} {A:Around} {E:VS} {s:Shared} {K:Fg0} {e C:Addr} {name:Str} {v:Value} {R:Result->Shared->Prop}
open PySem.W in
end
noncomputable def XdO (d:Addr) (fs:List (Str×V)):HO:=HO.ext fun h=>∃ mA,h.Ns1 d mA/\(∀ f,o_ (fs.lookup f) (mA f))/\PySem.Within mA (fs.map (·.1))
section
variable {X:Cx} {pins:Pn} {σ:St} {H:Hp} {s:Shared} {A:Around} {E:VS} {e C d:Addr} {f:Str} {fs:List (Str×V)}
end
section
variable {X:Cx} {CX:CXT} {k:Nat} {g C:Addr} {fd:FuncData} {ps:Ls} {sp:Sp} {dvs:List V} {ds:Lv} {E:XK} {x m f:Str} {p pos pos' apos:Pos} {e o value:Expr} {es:List Expr} {ta tv:TE} {t:TA} {mc:Value}
end
namespace XI
open PySem.W
end XI
section
variable {prog:Program} {w:World} {A:Around} {E:VS} {s:Shared} {K:Fg0} {e C t:Addr} {dx:Option Addr} {u:Value}
end
section
variable {X:Cx} {p pos apos:Pos} {a:Expr} {es:List Expr} {t:TA}
end
end L2
namespace L2
open PySem PySem.Spec PyProof.Rows
structure XAt (X:Cx) (pins:Pn) (n:Nat):Prop where
 s0:X.s₀.heap.objs.size<=n
 loc:X.env.locals < n
 cel:∀ x c,X.env.cells.lookup x=some c->c < n
 pin:∀ p∈X.pn++pins,p.1 < n
section
variable {X:Cx} {pins:Pn} {σ:St} {H:Hp} {s:Shared} {n:Nat} {h':Heap} {e L:Addr} {cls:Value} {dx:Option Addr} {M:Model} {E:VS}
end
def XP (X:Cx) (W:St->XK) (ev:Value) (s':Shared):Prop:=∃ e cls dx H' σ' n,ev=.ref e/\Inv X [] σ' H' s'/\XAt X [] n/\ExcAt n H' s'.heap e cls dx/\W σ' cls dx H'
section
variable {X:Cx} {pins:Pn} {σ:St} {H:Hp} {s:Shared} {n:Nat} {e:Addr} {cls:Value} {dx:Option Addr}
noncomputable def KS (e:Addr) (cls:Value) (dx:Option Addr):HO:=HO.ext fun h=>∃ o vs,h.get? e=some o/\o.cls=cls/\o.dict=dx/\o.data=.fields vs
end
section
variable {prog:Program} {w:World} {A:Around} {E:VS} {s:Shared} {K:Fg0} {e C C₀:Addr} {oe:Obj} {b:Bool} {Q:Bool->Shared->Prop}
end
section
variable {X:Cx} {pins:Pn} {σ:St} {H:Hp} {s:Shared} {e:Addr}
end
section
variable {X:Cx} {x nm:Str} {i:Nat} {C₀ L:Addr} {body suite:List Stmt} {b₀:Stmt} {np hpos pos:Pos} {tb:(St->XK)->TS} {ts:TS}
end
section
variable {X:Cx} {CX:CXT} {k:Nat} {f C:Addr} {fd:FuncData} {ps:Ls} {sp:Sp} {dvs:List V} {ds:Lv} {E:St->XK} {x m:Str} {p pos apos:Pos} {e o:Expr} {es:List Expr} {ta:TE} {t:TA}
end
section
variable {prog:Program} {w:World} {A:Around} {E:VS} {s:Shared} {K:Fg0} {e C dx:Addr} {name:Str} {v:Value} {mA:SV} {oe:Obj} {vs:Array Value}
open PySem.W in
end
section
variable {X:Cx} {o:Expr} {f:Str} {pos:Pos} {ta:TE}
end
section
variable {prog:Program} {w:World} {A:Around} {E:VS} {s:Shared} {K:Fg0} {e C:Addr} {oe:Obj} {od:Option Obj}
open PySem.W in
open PySem.W in
end
noncomputable def XDk (H:Hp):Option Addr->List (Str×V)->Prop
 | some d,gs=>H d=some (XdO d gs)
 | none,gs=>gs=[]
theorem XDk.mono {H H':Hp} (e:∀ b o,H b=some o->H' b=some o):∀ {dx:Option Addr} {gs:List (Str×V)},XDk H dx gs->XDk H' dx gs
 | some _,_,h=>e _ _ h
 | none,_,h=>h
section
variable {X:Cx}
end
end L2
namespace L3
open PySem L2
def JL (o:Obj) (c:Addr) (q:Str):Prop:=∃ fd,o.data=.func fd/\fd.code=.ref c/\fd.qualname=q
set_option genSizeOf true in
inductive D where
 | non | bl (b:Bool) | int (i:Int) | str (x:Str) | lst (xs:List D) | tup (xs:List D) | ktup (xs:List D) | ins (C:Addr) (ns:Ls) (xs:List D) | scr (ns:Li) | ty (n:String) | adr (a:Addr) | cel (p:Addr) (xs:List D) | exc (C:Addr) (ns:Ls) (xs:List D) | dct | dcs (k:Str) (i:Int) | fn (o:Unit->Obj) (f:Addr) (v:V) (r:D) | obj (p:Addr) (c:Option Addr) | mp (kvs:List (Int×Int×Int))
noncomputable def mpT (kvs:List (Int×Int×Int)):List (List Key×V):=kvs.map fun q=>([.inl q.1,.inl q.2.1],.int q.2.2)
noncomputable def Dx (F:Hp) (p:Addr):Option Addr->Prop
 | some C=>∃ dx,F p=some (.ins C dx [])
 | none=>F p=some (.dK [])
theorem Dx.to {F F':Hp} {p:Addr} (e:∀ o,F p=some o->(∀ vs,o≠.lst vs)->F' p=some o):∀ {c:Option Addr},Dx F p c->Dx F' p c
 | some _,⟨dx,h⟩=>⟨dx,e _ h fun _ z=>by cases z⟩
 | none,h=>e _ h fun _ z=>by cases z
mutual
noncomputable def Rep (K:Fg0) (F:Hp):D->V->Prop
 | .non,v=>v=.non
 | .bl b,v=>v=.bl b
 | .int i,v=>v=.int i
 | .str x,v=>v=.str x
 | .ty n,v=>v=.ty n
 | .adr a,v=>v=.ref a
 | .cel p xs,v=>v=.ref p/\∃ vs,F p=some (.lst vs)/\au K F xs vs
 | .scr ns,v=>∃ p,v=.ref p/\SqL K F p (ns.map V.int)
 | .lst xs,v=>∃ p vs,v=.ref p/\F p=some (.lst vs)/\au K F xs vs
 | .tup xs,v=>∃ p vs,v=.ref p/\F p=some (.tup vs)/\au K F xs vs
 | .ktup xs,v=>∃ p vs,v=.ref p/\SqT K F p vs/\au K F xs vs
 | .ins C ns xs,v=>∃ p dx gs,v=.ref p/\F p=some (.ins C dx gs)/\gs.map (·.1)=ns/\au K F xs (gs.map (·.2))
 | .dct,v=>∃ p,v=.ref p/\F p=some (.dK [])
 | .dcs k i,v=>∃ p,v=.ref p/\F p=some (.dK [(.inr k,.int i)])
 | .exc C ns xs,v=>∃ p d gs,v=.ref p/\F p=some (KS p (.ref C) d)/\XDk F d gs/\gs.map (·.1)=ns/\au K F xs (gs.map (·.2))
 | .fn o f v r,x=>x=.ref f/\(∃ c q,F f=some (.frz (o ()) (.cod c q))/\JL (o ()) c q)/\Rep K F r v
 | .obj p c,v=>v=.ref p/\Dx F p c
 | .mp kvs,v=>∃ p,v=.ref p/\F p=some (.dT (mpT kvs))
noncomputable def au (K:Fg0) (F:Hp):List D->List V->Prop
 | [],vs=>vs=[]
 | x::xs,vs=>∃ v ws,vs=v::ws/\Rep K F x v/\au K F xs ws
end
theorem SqT.same {K:Fg0} {H H':Hp} {a:Addr} {xs:List V} (e:aw H H') (h:SqT K H a xs):SqT K H' a xs:=by
 rcases h with (h | ⟨o,h⟩) | h
 ·exact .inl (.inl (e _ _ h))
 ·exact .inl (.inr ⟨o,e _ _ h⟩)
 ·exact .inr h
mutual
theorem Rep.mono {K:Fg0} {F F':Hp} (e:aw F F'):∀ {d:D} {v:V},Rep K F d v->Rep K F' d v
 | .non,_,h=>h
 | .bl _,_,h=>h
 | .int _,_,h=>h
 | .str _,_,h=>h
 | .ty _,_,h=>h
 | .adr _,_,h=>h
 | .cel _ _,_,⟨h1,vs,h2,h3⟩=>⟨h1,vs,e _ _ h2,au.mono e h3⟩
 | .scr _,_,⟨p,h1,h2⟩=>⟨p,h1,e.seq h2⟩
 | .lst _,_,⟨p,vs,h1,h2,h3⟩=>⟨p,vs,h1,e _ _ h2,au.mono e h3⟩
 | .tup _,_,⟨p,vs,h1,h2,h3⟩=>⟨p,vs,h1,e _ _ h2,au.mono e h3⟩
 | .ktup _,_,⟨p,vs,h1,h2,h3⟩=>⟨p,vs,h1,SqT.same e h2,au.mono e h3⟩
 | .ins _ _ _,_,⟨p,dx,gs,h1,h2,h3,h4⟩=>⟨p,dx,gs,h1,e _ _ h2,h3,au.mono e h4⟩
 | .dct,_,⟨p,h1,h2⟩=>⟨p,h1,e _ _ h2⟩
 | .dcs _ _,_,⟨p,h1,h2⟩=>⟨p,h1,e _ _ h2⟩
 | .exc _ _ _,_,⟨p,dx,gs,h1,h2,h5,h3,h4⟩=>⟨p,dx,gs,h1,e _ _ h2,h5.mono e,h3,au.mono e h4⟩
 | .fn _ _ _ _,_,⟨h1,⟨c,q,h2,h4⟩,h3⟩=>⟨h1,⟨c,q,e _ _ h2,h4⟩,Rep.mono e h3⟩
 | .obj _ _,_,⟨h1,h2⟩=>⟨h1,h2.to fun _ h _=>e _ _ h⟩
 | .mp _,_,⟨p,h1,h2⟩=>⟨p,h1,e _ _ h2⟩
theorem au.mono {K:Fg0} {F F':Hp} (e:aw F F'):∀ {xs:List D} {vs:List V},au K F xs vs->au K F' xs vs
 | [],_,h=>h
 | _::_,_,⟨v,ws,h1,h2,h3⟩=>⟨v,ws,h1,Rep.mono e h2,au.mono e h3⟩
end
inductive Sl where
 | fz (d:D) | ow (d:D) | ln (d:D)
abbrev G:=List (Option Sl)
inductive RV where
 | fz (d:D) | fr (d:D) | two (xs ys:List D) | rws (xss:List (List D))
noncomputable def RV.pl:RV->Bool
 | .fz _=>true
 | .fr _=>true
 | _=>false
noncomputable def RV.d:RV->D
 | .fz d=>d
 | .fr d=>d
 | .two xs ys=>.tup [.lst xs,.lst ys]
 | .rws xss=>.lst (xss.map .lst)
noncomputable def RV.sl:RV->Sl
 | .fz d=>.fz d
 | .fr d=>.ow d
 | .two xs ys=>.fz (.tup [.lst xs,.lst ys])
 | .rws xss=>.ow (.lst (xss.map .lst))
set_option genInjectivity false in
structure Bs where
 F:Hp
 H:Hp
 own:List (Nat×Addr)
noncomputable def Own (K:Fg0) (F H:Hp) (p:Addr):D->Prop
 | .lst xs=>∃ vs,H p=some (.lst vs)/\au K F xs vs
 | .cel q xs=>p=q/\∃ vs,H p=some (.lst vs)/\au K F xs vs
 | .ins C ns xs=>∃ dx gs,H p=some (.ins C dx gs)/\gs.map (·.1)=ns/\au K F xs (gs.map (·.2))
 | _=>False
theorem Own.mono {K:Fg0} {F F' H H':Hp} {p:Addr} (e:aw F F') (h:H' p=H p):∀ {d:D},Own K F H p d->Own K F' H' p d
 | .lst _,⟨vs,a,b⟩=>⟨vs,h.trans a,b.mono e⟩
 | .cel _ _,⟨z,vs,a,b⟩=>⟨z,vs,h.trans a,b.mono e⟩
 | .ins _ _ _,⟨dx,gs,a,b,c⟩=>⟨dx,gs,h.trans a,b,c.mono e⟩
theorem Own.some {K:Fg0} {F H:Hp} {p:Addr}:∀ {d:D},Own K F H p d->∃ o,H p=some o
 | .lst _,⟨_,a,_⟩=>⟨_,a⟩
 | .cel _ _,⟨_,_,a,_⟩=>⟨_,a⟩
 | .ins _ _ _,⟨_,_,a,_⟩=>⟨_,a⟩
theorem Own.rep {K:Fg0} {F H:Hp} {p:Addr} {o:HO} (hF:F p=none) (ho:H p=Option.some o):∀ {d:D},Own K F H p d->Rep K (upd F p o) d (.ref p)
 | .lst _,Z=>by
  obtain⟨vs,a,b⟩:=Z;rw[ho] at a;cases a;exact⟨p,vs,rfl,aA,b.mono fun x u e=>by rw[aj (aU e hF)];exact e⟩
 | .cel _ _,Z=>by
  obtain⟨z,vs,a,b⟩:=Z;rw[ho] at a;cases a;subst z;exact⟨rfl,vs,aA,b.mono fun x u e=>by rw[aj (aU e hF)];exact e⟩
 | .ins _ _ _,Z=>by
  obtain⟨dx,gs,a,b,c⟩:=Z;rw[ho] at a;cases a;exact⟨p,dx,gs,rfl,aA,b,c.mono fun x u e=>by rw[aj (aU e hF)];exact e⟩
def Hld (Γ:G) (i:Nat) (d:D):Prop:=Γ[i]?=some (some (Sl.ow d))\/Γ[i]?=some (some (Sl.ln d))
structure En (K:Fg0) (B:Bs) (F:Hp) (σ:St) (H:Hp) (Γ:G):Prop where
 sub:aw F H
 len:σ.length=Γ.length
 fz:∀ (i:Nat) (d:D),Γ[i]?=some (some (Sl.fz d))->∃ v,σ[i]?=some (some v)/\Rep K F d v
 hl:∀ (i:Nat) (d:D),Hld Γ i d->∃ p,σ[i]?=some (some (V.ref p))/\F p=none/\Own K F H p d
 ow:∀ (i:Nat) (d:D) (p:Addr),Γ[i]?=some (some (Sl.ow d))->σ[i]?=some (some (V.ref p))->B.H p=none
 ln:∀ (i:Nat) (d:D) (p:Addr),Γ[i]?=some (some (Sl.ln d))->σ[i]?=some (some (V.ref p))->(i,p)∈B.own
 dis:∀ (i j:Nat) (d e:D) (p:Addr),Hld Γ i d->Hld Γ j e->σ[i]?=some (some (V.ref p))->σ[j]?=some (some (V.ref p))->i=j
 par:∀ (i:Nat) (p:Addr),(i,p)∈B.own->σ[i]?=some (some (V.ref p))/\∃ d,Γ[i]?=some (some (Sl.ln d))
 keep:aw B.F F
 new:∀ (b:Addr) (o:HO),F b=some o->B.F b=some o\/B.H b=none
 rest:∀ (b:Addr) (o:HO),B.H b=some o->(∀ i,(i,b)∉B.own)->H b=some o
 dom:∀ b,H b=none->B.H b=none
section
variable {K:Fg0} {B:Bs} {F:Hp} {σ:St} {H:Hp} {Γ:G}
theorem En.alloc (e:En K B F σ H Γ) {l:Addr} (hl:H l=none) (o:HO):En K B F σ (upd H l o) Γ where
 sub:=fun b u h=>by rw[aj (aU (e.sub b u h) hl)];exact e.sub b u h
 len:=e.len
 fz:=e.fz
 hl:=fun i d h=>by
  obtain⟨p,h1,h2,h3⟩:=e.hl i d h;obtain⟨u,hu⟩:=h3.some;exact⟨p,h1,h2,h3.mono (aw.refl F) (aj (aU hu hl))⟩
 ow:=e.ow
 ln:=e.ln
 dis:=e.dis
 par:=e.par
 keep:=e.keep
 new:=e.new
 rest:=fun b u h n=>by rw[aj (aU (e.rest b u h n) hl)];exact e.rest b u h n
 dom:=fun b h=>by
  by_cases q:b=l
  ·subst q;exact e.dom _ hl
  ·rw[aj q] at h;exact e.dom b h
theorem br {F:Hp} {l:Addr} {o:HO} (h:F l=none):aw F (upd F l o):=fun b u e=>by rw[aj (aU e h)];exact e
theorem En.freeze (e:En K B F σ H Γ) {l:Addr} {o:HO} (hF:F l=none) (hH:H l=some o) (hB:B.H l=none) (hn:∀ (i:Nat) (d:D),Hld Γ i d->σ[i]?≠some (some (V.ref l))):En K B (upd F l o) σ H Γ where
 sub:=fun b u h=>by
  by_cases q:b=l
  ·subst q;rw[aA] at h;cases h;exact hH
  ·rw[aj q] at h;exact e.sub b u h
 len:=e.len
 fz:=fun i d h=>by
  obtain⟨v,h1,h2⟩:=e.fz i d h;exact⟨v,h1,h2.mono (br hF)⟩
 hl:=fun i d h=>by
  obtain⟨p,h1,h2,h3⟩:=e.hl i d h;have q:p≠l:=fun z=>hn i d h (z ▸ h1);exact⟨p,h1,by rw[aj q];exact h2,h3.mono (br hF) rfl⟩
 ow:=e.ow
 ln:=e.ln
 dis:=e.dis
 par:=e.par
 keep:=e.keep.trans (br hF)
 new:=fun b u h=>by
  by_cases q:b=l
  ·subst q;exact .inr hB
  ·rw[aj q] at h;exact e.new b u h
 rest:=e.rest
 dom:=e.dom
noncomputable def c8 (K:Fg0) (F H:Hp):La0->List (List D)->Prop
 | [],xss=>xss=[]
 | q::qs,xss=>∃ xs xt vs,xss=xs::xt/\H q=some (.lst vs)/\au K F xs vs/\c8 K F H qs xt
theorem c8.mono {F F' H H':Hp} (s:aw F F'):∀ {qs:La0} {xss:List (List D)},(∀ q∈qs,H' q=H q)->c8 K F H qs xss->c8 K F' H' qs xss
 | [],_,_,h=>h
 | q::qs,_,e,⟨xs,xt,vs,h1,h2,h3,h4⟩=>⟨xs,xt,vs,h1,(e q (.head _)).trans h2,h3.mono s,c8.mono s (fun z hz=>e z (.tail _ hz)) h4⟩
noncomputable def jC (K:Fg0) (B:Bs) (F:Hp) (σ:St) (H:Hp) (Γ:G) (v:V):RV->Prop
 | .fz d=>Rep K F d v
 | .fr d=>∃ p,v=.ref p/\F p=none/\Own K F H p d/\B.H p=none/\∀ (i:Nat) (e:D),Hld Γ i e->σ[i]?≠some (some (V.ref p))
 | .rws xss=>∃ p qs,v=.ref p/\H p=some (.lst (qs.map V.ref))/\(p::qs).Nodup/\c8 K F H qs xss/\∀ z,z∈p::qs->F z=none/\B.H z=none/\∀ (i:Nat) (e:D),Hld Γ i e->σ[i]?≠some (some (V.ref z))
 | .two xs ys=>∃ t p q vs ws,v=.ref t/\H t=some (.tup [.ref p,.ref q])/\H p=some (.lst vs)/\H q=some (.lst ws)/\au K F xs vs/\au K F ys ws/\p≠q/\∀ z,z=t\/z=p\/z=q->F z=none/\B.H z=none/\∀ (i:Nat) (e:D),Hld Γ i e->σ[i]?≠some (some (V.ref z))
theorem En.xj:∀ {qs:La0} {xss:List (List D)} {F:Hp},En K B F σ H Γ->c8 K F H qs xss->qs.Nodup->(∀ z∈qs,F z=none/\B.H z=none/\∀ (i:Nat) (e:D),Hld Γ i e->σ[i]?≠some (some (V.ref z)))->
  ∃ F',aw F F'/\En K B F' σ H Γ/\au K F' (xss.map .lst) (qs.map V.ref)/\∀ z,z∉qs->F' z=F z
 | [],_,F,e,h,_,_=>by cases h;exact⟨F,aw.refl F,e,rfl,fun _ _=>rfl⟩
 | q::qs,_,F,e,⟨xs,xt,vs,h1,h2,h3,h4⟩,nd,hn=>by
  subst h1;obtain⟨n1,n2⟩:=List.nodup_cons.mp nd;obtain⟨a1,a2,a3⟩:=hn q (.head _);have e1:=e.freeze a1 h2 a2 a3;have s1:=br (o:=.lst vs) a1;obtain⟨F',s',e',r',k'⟩:=En.xj (qs:=qs) e1 (h4.mono s1 fun _ _=>rfl) n2 fun z hz=>by
   obtain⟨b1,b2,b3⟩:=hn z (.tail _ hz);exact⟨by rw[aj (a:=q) (b:=z) (fun w=>n1 (by rw[<- w];exact hz))];exact b1,b2,b3⟩
  refine⟨F',s1.trans s',e',⟨_,_,rfl,⟨q,vs,rfl,s' _ _ aA,h3.mono (s1.trans s')⟩,r'⟩,fun z hz=>?_⟩;rw[List.mem_cons,not_or] at hz;rw[k' z hz.2,aj hz.1]
theorem En.wG (e:En K B F σ H Γ) {p:Addr} {qs:La0} {xss:List (List D)} (hp:H p=some (.lst (qs.map V.ref))) (nd:(p::qs).Nodup) (r:c8 K F H qs xss) (hn:∀ z,z∈p::qs->F z=none/\B.H z=none/\∀ (i:Nat) (e:D),Hld Γ i e->σ[i]?≠some (some (V.ref z))) :
  ∃ F',aw F F'/\En K B F' σ H Γ/\F' p=none/\Own K F' H p (.lst (xss.map .lst)):=by
 obtain⟨n1,n2⟩:=List.nodup_cons.mp nd;obtain⟨F',s',e',r',k'⟩:=e.xj r n2 fun z hz=>hn z (.tail _ hz);exact⟨F',s',e',(k' p n1).trans (hn p (.head _)).1,_,hp,r'⟩
theorem En.frozen (e:En K B F σ H Γ) {v:V}:∀ {r:RV},jC K B F σ H Γ v r->∃ F',aw F F'/\En K B F' σ H Γ/\Rep K F' r.d v
 | .fz d,h=>⟨F,aw.refl F,e,h⟩
 | .fr d,Z=>by
  obtain⟨p,hv,h1,h2,h3,h4⟩:=Z;subst hv;obtain⟨o,ho⟩:=h2.some;exact⟨upd F p o,br h1,e.freeze h1 ho h3 h4,h2.rep h1 ho⟩
 | .rws xss,Z=>by
  obtain⟨p,qs,hv,h1,h2,h3,h4⟩:=Z;subst hv;obtain⟨F',s',e',f',o'⟩:=e.wG h1 h2 h3 h4;obtain⟨_,b2,b3⟩:=h4 p (.head _);exact⟨_,s'.trans (br f'),e'.freeze f' h1 b2 b3,o'.rep f' h1⟩
 | .two xs ys,Z=>by
  obtain⟨t,p,q,vs,ws,hv,h1,h2,h3,h4,h5,h6,h7⟩:=Z;subst hv;obtain⟨a1,a2,a3⟩:=h7 t (.inl rfl);obtain⟨b1,b2,b3⟩:=h7 p (.inr (.inl rfl));obtain⟨c1,c2,c3⟩:=h7 q (.inr (.inr rfl));have tp:t≠p:=fun z=>by rw[z,h2] at h1;cases h1
  have tq:t≠q:=fun z=>by rw[z,h3] at h1;cases h1
  have e1:=e.freeze b1 h2 b2 b3;have f2:upd F p (.lst vs) q=none:=by rw[aj (Ne.symm h6)];exact c1
  have e2:=e1.freeze f2 h3 c2 c3;have f3:upd (upd F p (.lst vs)) q (.lst ws) t=none:=by rw[aj tq,aj tp];exact a1
  have e3:=e2.freeze f3 h1 a2 a3;have s1:=br (o:=.lst vs) b1;have s2:=br (o:=.lst ws) f2;have s3:=br (o:=.tup [.ref p,.ref q]) f3;exact⟨_,(s1.trans s2).trans s3,e3,t,_,rfl,aA,⟨_,_,rfl,⟨p,vs,rfl,by rw[aj (Ne.symm tp),aj h6];exact aA,(h4.mono ((s1.trans s2).trans s3))⟩,_,_,rfl,⟨q,ws,rfl,by rw[aj (Ne.symm tq)];exact aA,h5.mono ((s1.trans s2).trans s3)⟩,rfl⟩⟩
theorem En.norm (e:En K B F σ H Γ) {v:V}:∀ {r:RV},jC K B F σ H Γ v r->∃ F' r',aw F F'/\En K B F' σ H Γ/\jC K B F' σ H Γ v r'/\r'.sl=r.sl/\r'.pl=true
 | .fz d,h=>⟨F,.fz d,aw.refl F,e,h,rfl,rfl⟩
 | .fr d,h=>⟨F,.fr d,aw.refl F,e,h,rfl,rfl⟩
 | .rws xss,Z=>by
  obtain⟨p,qs,hv,h1,h2,h3,h4⟩:=Z;subst hv;obtain⟨F',s',e',f',o'⟩:=e.wG h1 h2 h3 h4;obtain⟨_,b2,b3⟩:=h4 p (.head _);exact⟨F',.fr (.lst (xss.map .lst)),s',e',⟨p,rfl,f',o',b2,b3⟩,rfl,rfl⟩
 | .two xs ys,h=>by
  obtain⟨F',s,e',r⟩:=e.frozen h;exact⟨F',.fz (.tup [.lst xs,.lst ys]),s,e',r,rfl,rfl⟩
def Po (K:Fg0) (B:Bs) (F:Hp) (σ:St) (Q:RV->G->Prop):VK:=fun v H'=>∃ F' Γ' r,aw F F'/\En K B F' σ H' Γ'/\jC K B F' σ H' Γ' v r/\Q r Γ'
abbrev TE3:=G->(RV->G->Prop)->Prop
def Ref (K:Fg0) (t:TE) (t3:TE3):Prop:=∀ (B:Bs) (F:Hp) (σ:St) (H:Hp) (Γ:G) (Q:RV->G->Prop) (QQ:VK),En K B F σ H Γ->t3 Γ Q->(∀ v H',Po K B F σ Q v H'->QQ v H')->t σ H QQ
theorem Po.mono {F F':Hp} {Q:RV->G->Prop} {v:V} {H:Hp} (s:aw F F') (h:Po K B F' σ Q v H):Po K B F σ Q v H:=by
 obtain⟨F2,Γ',r,a,b⟩:=h;exact⟨F2,Γ',r,s.trans a,b⟩
theorem gy (e:En K B F σ H Γ) {Q:RV->G->Prop} {v:V} {d:D} (r:Rep K F d v) (q:Q (.fz d) Γ):Po K B F σ Q v H:=⟨F,Γ,.fz d,aw.refl F,e,r,q⟩
theorem En.tM (e:En K B F σ H Γ) {l:Addr} (hl:H l=none):∀ (i:Nat) (d:D),Hld Γ i d->σ[i]?≠some (some (V.ref l)):=fun i d h z=>by
 obtain⟨p,h1,h2,h3⟩:=e.hl i d h;rw[h1] at z;cases z;obtain⟨o,ho⟩:=h3.some;rw[hl] at ho;cases ho
theorem En.nof (e:En K B F σ H Γ) {l:Addr} (hl:H l=none):F l=none:=by
 cases q:F l with
 | none=>rfl
 | some o=>have:=e.sub _ _ q;rw[hl] at this;cases this
theorem fY (e:En K B F σ H Γ) {Q:RV->G->Prop} {l:Addr} {vs:List V} {xs:List D} (hl:H l=none) (r:au K F xs vs) (q:Q (.fr (.lst xs)) Γ):Po K B F σ Q (.ref l) (upd H l (.lst vs)):=
 ⟨F,Γ,.fr (.lst xs),aw.refl F,e.alloc hl _,⟨l,rfl,e.nof hl,⟨vs,aA,r⟩,e.dom _ hl,e.tM hl⟩,q⟩
theorem q_ (e:En K B F σ H Γ) {Q:RV->G->Prop} {l:Addr} {vs:List V} {xs:List D} (hl:H l=none) (r:au K F xs vs) (q:Q (.fz (.tup xs)) Γ):Po K B F σ Q (.ref l) (upd H l (.tup vs)):=
 ⟨upd F l (.tup vs),Γ,.fz (.tup xs),br (e.nof hl),(e.alloc hl _).freeze (e.nof hl) aA (e.dom _ hl) (e.tM hl),⟨l,vs,rfl,aA,r.mono (br (e.nof hl))⟩,q⟩
def mf (i:Nat) (Γ:G) (Q:RV->G->Prop):Prop:=match Γ[i]? with
 | some (some (.fz d))=>Q (.fz d) Γ
 | some (some (.ow d))=>Q (.fz d) (Γ.set i (some (Sl.fz d)))
 | _=>False
theorem aY {α:Type} {l:List α} {i j:Nat} {a:α} (h:i≠j):(l.set i a)[j]?=l[j]?:=by rw[List.getElem?_set,if_neg h]
theorem oH {α:Type} {l:List α} {i:Nat} {a b:α} (h:l[i]?=some b):(l.set i a)[i]?=some a:=by
 rw[List.getElem?_set,if_pos rfl,if_pos (gS0 h).1]
theorem En.give (e:En K B F σ H Γ) {i:Nat} {d:D} (h:Γ[i]?=some (some (Sl.ow d))):∃ F' p,aw F F'/\σ[i]?=some (some (V.ref p))/\Rep K F' d (.ref p)/\En K B F' σ H (Γ.set i (some (Sl.fz d))):=by
 obtain⟨p,h1,h2,h3⟩:=e.hl i d (.inl h);obtain⟨o,ho⟩:=h3.some;have hr:=h3.rep h2 ho;have back:∀ {j u},j≠i->(Γ.set i (some (Sl.fz d)))[j]?=u->Γ[j]?=u:=fun hj q=>by rw[aY (Ne.symm hj)] at q;exact q
 have hld:∀ {j x},Hld (Γ.set i (some (Sl.fz d))) j x->j≠i/\Hld Γ j x:=fun {j x} q=>by
  by_cases z:j=i
  ·subst z;rcases q with q | q <;> rw[oH h] at q <;> cases q
  ·exact⟨z,q.imp (back z) (back z)⟩
 refine⟨upd F p o,p,br h2,h1,hr,?_,?_,?_,?_,?_,?_,?_,?_,?_,?_,e.rest,e.dom⟩
 ·intro b u q;by_cases z:b=p
  ·subst z;rw[aA] at q;cases q;exact ho
  ·rw[aj z] at q;exact e.sub b u q
 ·rw[List.length_set];exact e.len
 ·intro j x q;by_cases z:j=i
  ·subst z;rw[oH h] at q;cases q;exact⟨_,h1,hr⟩
  ·obtain⟨v,a,b⟩:=e.fz j x (back z q);exact⟨v,a,b.mono (br h2)⟩
 ·intro j x q;obtain⟨z,q⟩:=hld q;obtain⟨p',a,b,c⟩:=e.hl j x q;have ne:p'≠p:=fun y=>z (e.dis j i x d p q (.inl h) (y ▸ a) h1);exact⟨p',a,by rw[aj ne];exact b,c.mono (br h2) rfl⟩
 ·intro j x p' q a;obtain⟨z,_⟩:=hld (.inl q);exact e.ow j x p' (back z q) a
 ·intro j x p' q a;obtain⟨z,_⟩:=hld (.inr q);exact e.ln j x p' (back z q) a
 ·intro j k x y p' q1 q2;exact e.dis j k x y p' (hld q1).2 (hld q2).2
 ·intro j p' q;obtain⟨a,y,b⟩:=e.par j p' q;have z:j≠i:=fun z=>by subst z;rw[h] at b;cases b
  exact⟨a,y,by rw[aY (Ne.symm z)];exact b⟩
 ·exact e.keep.trans (br h2)
 ·intro b u q;by_cases z:b=p
  ·subst z;exact .inr (e.ow i d _ h h1)
  ·rw[aj z] at q;exact e.new b u q
theorem B8 (i:Nat):Ref K (cX i) (mf i):=by
 intro B F σ H Γ Q QQ e h k;unfold mf at h;split at h
 ·rename_i d q;obtain⟨v,h1,h2⟩:=e.fz i d q;exact⟨v,h1,k _ _ (gy e h2 h)⟩
 ·rename_i d q;obtain⟨F',p,s,h1,h2,e'⟩:=e.give q;exact⟨_,h1,k _ _ ⟨F',_,.fz d,s,e',h2,h⟩⟩
 ·exact h.elim
def t3C (d:D) (Γ:G) (Q:RV->G->Prop):Prop:=Q (.fz d) Γ
theorem p6 {v:V} {d:D} (h:∀ F,Rep K F d v):Ref K (tC v) (t3C d):=fun B F σ H Γ Q QQ e q k=>k _ _ (gy e (h F) q)
inductive Bo where
 | d (x:D) | v (i:Nat)
noncomputable def bare:D->D
 | .cel _ xs=>.lst xs
 | .non=>.non
 | .bl b=>.bl b
 | .int i=>.int i
 | .str x=>.str x
 | .lst xs=>.lst xs
 | .tup xs=>.tup xs
 | .ktup xs=>.ktup xs
 | .ins C ns xs=>.ins C ns xs
 | .scr ns=>.scr ns
 | .ty n=>.ty n
 | .adr a=>.adr a
 | .exc C ns xs=>.exc C ns xs
 | .dct=>.dct
 | .dcs k i=>.dcs k i
 | .fn o f v r=>.fn o f v r
 | .obj p C=>.obj p C
 | .mp k=>.mp k
noncomputable def Gat (Γ:G) (i:Nat):Option D:=match Γ[i]? with
 | some (some (.fz d))=>some d
 | some (some (.ow d))=>some (bare d)
 | some (some (.ln d))=>some (bare d)
 | _=>none
noncomputable def Bo.at (Γ:G):Bo->Option D
 | .d x=>some x
 | .v i=>Gat Γ i
noncomputable def mR (K:Fg0) (F:Hp) (σ:St):Bo->V->Prop
 | .d x,v=>Rep K F x v
 | .v i,v=>σ[i]?=some (some v)
noncomputable def fM (K:Fg0) (F H:Hp):D->V->Prop
 | .lst xs,v=>∃ p vs,v=.ref p/\H p=some (.lst vs)/\au K F xs vs
 | .cel q xs,v=>v=.ref q/\∃ vs,H q=some (.lst vs)/\au K F xs vs
 | .ins C ns xs,v=>∃ p dx gs,v=.ref p/\H p=some (.ins C dx gs)/\gs.map (·.1)=ns/\au K F xs (gs.map (·.2))
 | d,v=>Rep K F d v
theorem Rep.b {K:Fg0} {F H:Hp} (s:aw F H):∀ {d:D} {v:V},Rep K F d v->fM K F H d v
 | .non,_,h=>h
 | .bl _,_,h=>h
 | .int _,_,h=>h
 | .str _,_,h=>h
 | .ty _,_,h=>h
 | .adr _,_,h=>h
 | .exc _ _ _,_,h=>h
 | .dct,_,h=>h
 | .dcs _ _,_,h=>h
 | .fn _ _ _ _,_,h=>h
 | .obj _ _,_,h=>h
 | .mp _,_,h=>h
 | .cel _ _,_,⟨h1,vs,h2,h3⟩=>⟨h1,vs,s _ _ h2,h3⟩
 | .scr _,_,h=>h
 | .tup _,_,h=>h
 | .ktup _,_,h=>h
 | .lst _,_,⟨p,vs,h1,h2,h3⟩=>⟨p,vs,h1,s _ _ h2,h3⟩
 | .ins _ _ _,_,⟨p,dx,gs,h1,h2,h3,h4⟩=>⟨p,dx,gs,h1,s _ _ h2,h3,h4⟩
theorem Own.b {K:Fg0} {F H:Hp} {p:Addr}:∀ {d:D},Own K F H p d->fM K F H (bare d) (.ref p)
 | .lst _,⟨vs,h1,h2⟩=>⟨p,vs,rfl,h1,h2⟩
 | .cel _ _,Z=>by obtain⟨z,vs,h1,h2⟩:=Z;subst z;exact⟨_,vs,rfl,h1,h2⟩
 | .ins _ _ _,⟨dx,gs,h1,h2,h3⟩=>⟨p,dx,gs,rfl,h1,h2,h3⟩
theorem mR.mono {F F':Hp} (s:aw F F'):∀ {bo:Bo} {v:V},mR K F σ bo v->mR K F' σ bo v
 | .d _,_,h=>Rep.mono s h
 | .v _,_,h=>h
theorem En.get (e:En K B F σ H Γ) {i:Nat} {d:D} (h:Gat Γ i=some d):∃ v,σ[i]?=some (some v)/\fM K F H d v:=by
 unfold Gat at h;split at h
 ·cases h;rename_i q;obtain⟨v,h1,h2⟩:=e.fz i _ q;exact⟨v,h1,h2.b e.sub⟩
 ·cases h;rename_i q;obtain⟨p,h1,h2,h3⟩:=e.hl i _ (.inl q);exact⟨_,h1,h3.b⟩
 ·cases h;rename_i q;obtain⟨p,h1,h2,h3⟩:=e.hl i _ (.inr q);exact⟨_,h1,h3.b⟩
 ·cases h
theorem En.bo (e:En K B F σ H Γ):∀ {bo:Bo} {v:V} {d:D},mR K F σ bo v->bo.at Γ=some d->fM K F H d v
 | .d x,v,d,h,q=>by cases q;exact Rep.b e.sub h
 | .v i,v,d,h,q=>by
  obtain⟨u,h1,h2⟩:=e.get q;rw[show σ[i]?=some (some v) from h] at h1;cases h1;exact h2
abbrev TB3:=G->(Bo->G->Prop)->Prop
def PoB (K:Fg0) (B:Bs) (F:Hp) (σ:St) (Q:Bo->G->Prop):VK:=fun v H'=>∃ F' Γ' bo,aw F F'/\En K B F' σ H' Γ'/\mR K F' σ bo v/\Q bo Γ'
def pd (K:Fg0) (t:TE) (t3:TB3):Prop:=∀ (B:Bs) (F:Hp) (σ:St) (H:Hp) (Γ:G) (Q:Bo->G->Prop) (QQ:VK),En K B F σ H Γ->t3 Γ Q->(∀ v H',PoB K B F σ Q v H'->QQ v H')->t σ H QQ
def bor (i:Nat) (Γ:G) (Q:Bo->G->Prop):Prop:=(∃ d,Gat Γ i=some d)/\Q (.v i) Γ
def bof (a3:TE3) (Γ:G) (Q:Bo->G->Prop):Prop:=a3 Γ fun x Γ1=>Q (.d x.d) Γ1
theorem zt (i:Nat):pd K (cX i) (bor i):=by
 intro B F σ H Γ Q QQ e ⟨⟨d,hd⟩,q⟩ k;obtain⟨v,h1,_⟩:=e.get hd;exact⟨v,h1,k _ _ ⟨F,Γ,.v i,aw.refl F,e,h1,q⟩⟩
theorem B7 {t:TE} {a3:TE3} (h:Ref K t a3):pd K t (bof a3):=by
 intro B F σ H Γ Q QQ e q k;refine h B F σ H Γ _ _ e q (fun v H1 Z=>?_);obtain⟨F1,Γ1,x,s1,e1,r1,q1⟩:=Z;obtain⟨F1',s1',e1',r1'⟩:=e1.frozen r1;exact k _ _ ⟨F1',Γ1,.d x.d,s1.trans s1',e1',r1',q1⟩
def jb (K:Fg0) (r:R2) (op:D->D->TE3):Prop:=∀ (B:Bs) (F:Hp) (σ:St) (H:Hp) (Γ:G) (x y:V) (dx dy:D) (Q:RV->G->Prop) (QQ:VK),En K B F σ H Γ->fM K F H dx x->fM K F H dy y->op dx dy Γ Q->(∀ v H',Po K B F σ Q v H'->QQ v H')->r x y H QQ
def dZ (op:D->D->TE3) (a3 b3:TB3) (Γ:G) (Q:RV->G->Prop):Prop:=a3 Γ fun x Γ1=>b3 Γ1 fun y Γ2=>∃ dx dy,x.at Γ2=some dx/\y.at Γ2=some dy/\op dx dy Γ2 Q
theorem gu {r:R2} {ta tb:TE} {a3 b3:TB3} {op:D->D->TE3} (h:jb K r op) (ha:pd K ta a3) (hb:pd K tb b3):Ref K (tOp r ta tb) (dZ op a3 b3):=by
 intro B F σ H Γ Q QQ e q k;refine ha B F σ H Γ _ _ e q (fun v H1 Z=>?_);obtain⟨F1,Γ1,x,s1,e1,r1,q1⟩:=Z;refine hb B F1 σ H1 Γ1 _ _ e1 q1 (fun u H2 Z=>?_);obtain⟨F2,Γ2,y,s2,e2,r2,dx,dy,h1,h2,q2⟩:=Z;exact h B F2 σ H2 Γ2 v u dx dy Q QQ e2 (e2.bo (r1.mono s2) h1) (e2.bo r2 h2) q2 fun z H3 p=>k z H3 (p.mono (s1.trans s2))
def y7 (op:D->TE3) (a3:TB3) (Γ:G) (Q:RV->G->Prop):Prop:=a3 Γ fun x Γ1=>∃ dx,x.at Γ1=some dx/\op dx Γ1 Q
def JC (K:Fg0) (r:V->Hp->VK->Prop) (op:D->TE3):Prop:=∀ (B:Bs) (F:Hp) (σ:St) (H:Hp) (Γ:G) (x:V) (dx:D) (Q:RV->G->Prop) (QQ:VK),En K B F σ H Γ->fM K F H dx x->op dx Γ Q->(∀ v H',Po K B F σ Q v H'->QQ v H')->r x H QQ
theorem zu {r:V->Hp->VK->Prop} {ta:TE} {a3:TB3} {op:D->TE3} (h:JC K r op) (ha:pd K ta a3):Ref K (fun σ H Q=>ta σ H fun x H1=>r x H1 Q) (y7 op a3):=by
 intro B F σ H Γ Q QQ e q k;refine ha B F σ H Γ _ _ e q (fun v H1 Z=>?_);obtain⟨F1,Γ1,x,s1,e1,r1,dx,h1,q1⟩:=Z;exact h B F1 σ H1 Γ1 v dx Q QQ e1 (e1.bo r1 h1) q1 fun z H3 p=>k z H3 (p.mono s1)
end
open PySem L2 PySem.Spec PyProof.Rows
structure P3 (K:Fg0) (X:Cx) (e:Expr) (t:TE) (t3:TE3):Prop where
 pe:PE X e t
 rf:Ref K t t3
structure P3B (K:Fg0) (X:Cx) (e:Expr) (t:TE) (t3:TB3):Prop where
 pe:PE X e t
 rf:pd K t t3
section
variable {K:Fg0} {X:Cx} {a b c:Expr} {ta tb tc:TE} {a3 b3 c3:TB3} {pos:Pos}
theorem P3.opd {e3:TE3} (h:P3 K X a ta e3):P3B K X a ta (bof e3):=⟨h.pe,B7 h.rf⟩
theorem bv (i:Nat) {x:Str} {pos:Pos} (hN:autoParam (X.N[i]?=some x) wE) (hv:Vis X.env.scope x:=by first | exact Or.inl rfl | exact Or.inr (Or.inl rfl) | exact Or.inr (Or.inr rfl)) (hd:autoParam ((x == ("__debug__":Str))=false) wP)
  (hcd:autoParam ((x == ("__classdict__":Str))=false) wP):P3B K X (.Name x pos) (cX i) (bor i):=⟨rm hN hv hd hcd,zt i⟩
theorem fm {B:Bs} {F:Hp} {σ:L2.St} {H:Hp} {Γ:G} {Q:RV->G->Prop} {i:Int} (e:En K B F σ H Γ) (q:Q (.fz (.int i)) Γ):Po K B F σ Q (.int i) H:=gy (d:=.int i) e rfl q
theorem q9 {B:Bs} {F:Hp} {σ:L2.St} {H:Hp} {Γ:G} {Q:RV->G->Prop} {i:Str} (e:En K B F σ H Γ) (q:Q (.fz (.str i)) Γ):Po K B F σ Q (.str i) H:=gy (d:=.str i) e rfl q
theorem nW {B:Bs} {F:Hp} {σ:L2.St} {H:Hp} {Γ:G} {Q:RV->G->Prop} {i:Bool} (e:En K B F σ H Γ) (q:Q (.fz (.bl i)) Γ):Po K B F σ Q (.bl i) H:=gy (d:=.bl i) e rfl q
theorem p3v (i:Nat) {x:Str} {pos:Pos} (hN:autoParam (X.N[i]?=some x) wE) (hv:Vis X.env.scope x:=by first | exact Or.inl rfl | exact Or.inr (Or.inl rfl) | exact Or.inr (Or.inr rfl)) (hd:autoParam ((x == ("__debug__":Str))=false) wP)
  (hcd:autoParam ((x == ("__classdict__":Str))=false) wP):P3 K X (.Name x pos) (cX i) (mf i):=⟨rm hN hv hd hcd,B8 i⟩
theorem ae {i j pos}:P3 K X (.Constant (.int i) j pos) (tC (.int i)) (t3C (.int i)):=⟨uZ,p6 fun _=>rfl⟩
theorem iA {i j pos}:P3 K X (.Constant (.bool i) j pos) (tC (.bl i)) (t3C (.bl i)):=⟨HZ,p6 fun _=>rfl⟩
theorem bE {x j pos}:P3 K X (.Constant (.str x) j pos) (tC (.str x)) (t3C (.str x)):=⟨Fg,p6 fun _=>rfl⟩
theorem rC {x:Str} {i:Int} {pos:Pos} (hg:Gl X x) (hm:∃ t,X.mg x=some (.int i t)) (hd:autoParam ((x == ("__debug__":Str))=false) wP):P3 K X (.Name x pos) (tC (.int i)) (t3C (.int i)):=
 ⟨let ⟨t,hm⟩:=hm;rn (v:=.int i) hg hm ⟨t,rfl⟩ hd,p6 fun _=>rfl⟩
theorem zV {x y v:Int} {j k:Nat} {pos pos' pos'':Pos} (h:x ^ y.toNat=v) (hc:uJ x y):P3 K X (.BinOp (.Constant (.int x) j pos') .Pow (.Constant (.int y) k pos'') pos) (tOp (rI uJ fun i j=>.int (i ^ j.toNat)) (tC (.int x)) (tC (.int y))) (t3C (.int v)):=
 ⟨mj Fw uZ uZ,fun B F σ H Γ Q QQ e q k=>⟨x,y,rfl,rfl,hc,by show QQ (.int (x ^ y.toNat)) H;rw[h];exact k _ _ (fm e q)⟩⟩
def i2 (C:Int->Int->Prop) (f:Int->Int->D) (x y:D) (Γ:G) (Q:RV->G->Prop):Prop:=match x,y with
 | .int i,.int j=>C i j/\Q (.fz (f i j)) Γ
 | _,_=>False
def i2' (f:Int->Int->D) (x y:D) (Γ:G) (Q:RV->G->Prop):Prop:=match x,y with
 | .int i,.int j=>Q (.fz (f i j)) Γ
 | _,_=>False
theorem opI {C:Int->Int->Prop} {f:Int->Int->D} {g:Int->Int->V} (h:∀ F i j,Rep K F (f i j) (g i j)):jb K (rI C g) (i2 C f):=by
 intro B F σ H Γ x y dx dy Q QQ e rx ry q k;unfold i2 at q;split at q
 ·cases rx;cases ry;exact⟨_,_,rfl,rfl,q.1,k _ _ (gy e (h F _ _) q.2)⟩
 ·exact q.elim
theorem vd {f:Int->Int->D} {g:Int->Int->V} (h:∀ F i j,Rep K F (f i j) (g i j)):jb K (rI0 g) (i2' f):=by
 intro B F σ H Γ x y dx dy Q QQ e rx ry q k;unfold i2' at q;split at q
 ·cases rx;cases ry;exact⟨_,_,rfl,rfl,k _ _ (gy e (h F _ _) q)⟩
 ·exact q.elim
def uC (x y:D) (Γ:G) (Q:RV->G->Prop):Prop:=match x,y with
 | .int i,.int j=>Q (.fz (.int (i + j))) Γ
 | .lst xs,.lst ys=>xs.length + ys.length<=sizeLine/\Q (.fr (.lst (xs++ys))) Γ
 | .str i,.str j=>i.length + j.length<=sizeLine/\Q (.fz (.str (i++j))) Γ
 | _,_=>False
theorem au.length {F:Hp}:∀ {xs:List D} {vs:List V},au K F xs vs->vs.length=xs.length
 | [],_,h=>by cases h;rfl
 | _::_,_,Z=>by obtain⟨v,ws,h1,h2,h3⟩:=Z;subst h1;simp [h3.length]
theorem au.append {F:Hp}:∀ {xs ys:List D} {vs ws:List V},au K F xs vs->au K F ys ws->au K F (xs++ys) (vs++ws)
 | [],_,_,_,h,h'=>by cases h;exact h'
 | _::_,_,_,_,⟨v,ws,h1,h2,h3⟩,h'=>by subst h1;exact⟨v,_,rfl,h2,h3.append h'⟩
theorem au.get {F:Hp}:∀ {xs:List D} {vs:List V},au K F xs vs->∀ {i:Nat} {d:D},xs[i]?=some d->∃ v,vs[i]?=some v/\Rep K F d v
 | [],_,_,i,d,e=>by simp at e
 | x::xs,_,⟨v,ws,h1,h2,h3⟩,0,d,e=>by subst h1;simp at e;subst e;exact⟨v,rfl,h2⟩
 | x::xs,_,⟨v,ws,h1,h2,h3⟩,i + 1,d,e=>by
  subst h1;obtain⟨u,a,b⟩:=h3.get (i:=i) (d:=d) (by simpa using e);exact⟨u,by simpa using a,b⟩
theorem au.AG {F:Hp}:∀ {xs:List D} {vs:List V},au K F xs vs->∀ {i:Nat} {v:V},vs[i]?=some v->∃ d,xs[i]?=some d/\Rep K F d v:=fun {xs vs} h {i v} e=>by
 have hi:i < vs.length:=(gS0 e).1;rw[h.length] at hi;obtain⟨u,a,b⟩:=h.get (gE0 hi);rw[e] at a;cases a;exact⟨_,gE0 hi,b⟩
theorem au.take {F:Hp}:∀ {xs:List D} {vs:List V} (n:Nat),au K F xs vs->au K F (xs.take n) (vs.take n)
 | _,_,0,_=>by simp [au]
 | [],_,n + 1,h=>by cases h;simp [au]
 | x::xs,_,n + 1,Z=>by obtain⟨v,ws,h1,h2,h3⟩:=Z;subst h1;exact⟨v,_,rfl,h2,au.take n h3⟩
theorem au.drop {F:Hp}:∀ {xs:List D} {vs:List V} (n:Nat),au K F xs vs->au K F (xs.drop n) (vs.drop n)
 | _,_,0,h=>h
 | [],_,n + 1,h=>by cases h;simp [au]
 | x::xs,_,n + 1,Z=>by obtain⟨v,ws,h1,h2,h3⟩:=Z;subst h1;exact au.drop n h3
theorem au.set {F:Hp} {d:D} {v:V} (r:Rep K F d v):∀ {xs:List D} {vs:List V} (n:Nat),au K F xs vs->au K F (xs.set n d) (vs.set n v)
 | [],_,_,h=>by cases h;simp [au]
 | x::xs,_,0,Z=>by obtain⟨u,ws,h1,h2,h3⟩:=Z;subst h1;exact⟨v,ws,rfl,r,h3⟩
 | x::xs,_,n + 1,Z=>by obtain⟨u,ws,h1,h2,h3⟩:=Z;subst h1;exact⟨u,_,rfl,h2,au.set r n h3⟩
theorem au.ints {F:Hp}:∀ (ns:Li),au K F (ns.map D.int) (ns.map V.int)
 | []=>rfl
 | n::ns=>⟨_,_,rfl,rfl,au.ints ns⟩
theorem au.kF {F:Hp}:∀ {ns:Li} {vs:List V},au K F (ns.map D.int) vs->vs=ns.map V.int
 | [],_,h=>h
 | n::ns,_,Z=>by
  obtain⟨v,ws,h1,h2,h3⟩:=Z;rw[h1,au.kF h3];have:v=.int n:=h2;rw[this];rfl
abbrev E4:R2:=fun x y H Q=>rI0 (fun i j=>.int (i + j)) x y H Q\/HQ x y H Q\/(∃ i j,x=.str i/\y=.str j/\i.length + j.length<=sizeLine/\Q (.str (i++j)) H)
theorem CC:OpR X (binaryOp .Add) E4:=FD.or (FC.or vb)
theorem addRef:jb K E4 uC:=by
 intro B F σ H Γ x y dx dy Q QQ e rx ry q k;unfold uC at q;split at q
 ·cases rx;cases ry;exact .inl ⟨_,_,rfl,rfl,k _ _ (fm e q)⟩
 ·obtain⟨p,vs,rfl,h1,h2⟩:=rx;obtain⟨p',ws,rfl,h3,h4⟩:=ry;refine .inr (.inl ⟨p,p',vs,ws,rfl,rfl,h1,h3,by rw[h2.length,h4.length];exact q.1,fun l hl=>k _ _ (fY e hl (h2.append h4) q.2)⟩)
 ·cases rx;cases ry;exact .inr (.inr ⟨_,_,rfl,rfl,q.1,k _ _ (q9 e q.2)⟩)
 ·exact q.elim
theorem aH (ha:P3B K X a ta a3) (hb:P3B K X b tb b3):P3 K X (.BinOp a .Add b pos) (tOp E4 ta tb) (dZ uC a3 b3):=⟨mj CC ha.pe hb.pe,gu addRef ha.rf hb.rf⟩
theorem fv (ha:P3B K X a ta a3) (hb:P3B K X b tb b3):P3 K X (.BinOp a .Sub b pos) (tOp (rI0 fun i j=>.int (i - j)) ta tb) (dZ (i2' fun i j=>.int (i - j)) a3 b3):=⟨mj Ft ha.pe hb.pe,gu (vd fun _ _ _=>rfl) ha.rf hb.rf⟩
theorem bw (ha:P3B K X a ta a3) (hb:P3B K X b tb b3):P3 K X (.BinOp a .Mult b pos) (tOp (rI uK fun i j=>.int (i * j)) ta tb) (dZ (i2 uK fun i j=>.int (i * j)) a3 b3):=⟨mj Fy ha.pe hb.pe,gu (opI fun _ _ _=>rfl) ha.rf hb.rf⟩
theorem cE (ha:P3B K X a ta a3) (hb:P3B K X b tb b3):P3 K X (.BinOp a .FloorDiv b pos) (tOp (rI G8 fun i j=>.int (i / j)) ta tb) (dZ (i2 G8 fun i j=>.int (i / j)) a3 b3):=⟨mj CB ha.pe hb.pe,gu (opI fun _ _ _=>rfl) ha.rf hb.rf⟩
theorem lT (ha:P3B K X a ta a3) (hb:P3B K X b tb b3):P3 K X (.BinOp a .Mod b pos) (tOp (rI (fun _ j=>0 < j) fun i j=>.int (i % j)) ta tb) (dZ (i2 (fun _ j=>0 < j) fun i j=>.int (i % j)) a3 b3):=⟨mj Fz ha.pe hb.pe,gu (opI fun _ _ _=>rfl) ha.rf hb.rf⟩
def um (f:Int->Int->Bool) (x y:D) (Γ:G) (Q:RV->G->Prop):Prop:=i2' (fun i j=>.bl (f i j)) x y Γ Q
noncomputable abbrev rX (i j:Int):Bool:=decide (i < j)
noncomputable abbrev vL (i j:Int):Bool:=decide (i<=j)
noncomputable abbrev C_ (i j:Int):Bool:=decide (j < i)
structure C3 (K:Fg0) (X:Cx) (op:CmpOp) (r:R2) (o3:D->D->TE3):Prop where
 op:OpR X (compareOp op) r
 rf:jb K r o3
theorem ur:C3 K X .Lt (rI0 fun i j=>.bl (decide (i < j))) (um rX):=⟨Ia,vd fun _ _ _=>rfl⟩
theorem uu:C3 K X .LtE (rI0 fun i j=>.bl (decide (i<=j))) (um vL):=⟨Ib,vd fun _ _ _=>rfl⟩
theorem uv:C3 K X .Gt (rI0 fun i j=>.bl (decide (j < i))) (um C_):=⟨Ic,vd fun _ _ _=>rfl⟩
theorem cZ {op:CmpOp} {r:R2} {o3:D->D->TE3} (h:C3 K X op r o3) (ha:P3B K X a ta a3) (hb:P3B K X b tb b3) (hm:behindInMarks op b=false):P3 K X (.Compare a [op] [b] pos) (tOp r ta tb) (dZ o3 a3 b3):=⟨Cr h.op ha.pe hb.pe hm,gu h.rf ha.rf hb.rf⟩
def qJ (o3 o3':D->D->TE3) (a3 b3 c3:TB3) (Γ:G) (Q:RV->G->Prop):Prop:=a3 Γ fun x Γ1=>b3 Γ1 fun y Γ2=>∃ dx dy,x.at Γ2=some dx/\y.at Γ2=some dy/\o3 dx dy Γ2 fun z Γ3=>match z with
 | .fz (.bl true)=>c3 Γ3 fun w Γ4=>∃ dy dw,y.at Γ4=some dy/\w.at Γ4=some dw/\o3' dy dw Γ4 Q
 | .fz (.bl false)=>Q (.fz (.bl false)) Γ3
 | _=>False
theorem xZ {r r':R2} {o3 o3':D->D->TE3} (h:jb K r o3) (h':jb K r' o3') (ha:pd K ta a3) (hb:pd K tb b3) (hc:pd K tc c3):Ref K (uO r r' ta tb tc) (qJ o3 o3' a3 b3 c3):=by
 intro B F σ H Γ Q QQ e q k;refine ha B F σ H Γ _ _ e q (fun v H1 Z=>?_);obtain⟨F1,Γ1,x,s1,e1,r1,q1⟩:=Z;refine hb B F1 σ H1 Γ1 _ _ e1 q1 (fun u H2 Z=>?_);obtain⟨F2,Γ2,y,s2,e2,r2,dx,dy,h1,h2,q2⟩:=Z;refine h B F2 σ H2 Γ2 v u dx dy _ _ e2 (e2.bo (r1.mono s2) h1) (e2.bo r2 h2) q2 fun z H3 Z=>?_;obtain⟨F3,Γ3,z3,s3,e3,r3,q3⟩:=Z;have sall:=(s1.trans s2).trans s3
 revert r3 q3
 split
 ·intro r3 q3;refine⟨true,r3,?_⟩;rw[if_pos rfl];refine hc B F3 σ H3 Γ3 _ _ e3 q3 (fun w H4 Z=>?_);obtain⟨F4,Γ4,w3,s4,e4,r4,dy,dw,h3,h4,q4⟩:=Z;exact h' B F4 σ H4 Γ4 u w dy dw Q QQ e4 (e4.bo (r2.mono (s3.trans s4)) h3) (e4.bo r4 h4) q4 fun z H5 p=>k z H5 (p.mono (sall.trans s4))
 ·intro r3 q3;refine⟨false,r3,?_⟩;rw[if_neg (by simp)];exact k _ _ (Po.mono sall (nW e3 q3))
 ·intro _ q3;exact q3.elim
theorem z8 {op op':CmpOp} {r r':R2} {o3 o3':D->D->TE3} (h:C3 K X op r o3) (h':C3 K X op' r' o3') (ha:P3B K X a ta a3) (hb:P3B K X b tb b3) (hc:P3B K X c tc c3) (hm:lastMarks [op,op'] [b,c]=false:=by with_unfolding_all rfl) :
  P3 K X (.Compare a [op,op'] [b,c] pos) (uO r r' ta tb tc) (qJ o3 o3' a3 b3 c3):=⟨zR h.op h'.op ha.pe hb.pe hc.pe hm,xZ h.rf h'.rf ha.rf hb.rf hc.rf⟩
def FL (x:D) (Γ:G) (Q:RV->G->Prop):Prop:=match x with
 | .int i=>Q (.fz (.int (-i))) Γ
 | _=>False
theorem va (ha:P3B K X a ta a3):P3 K X (.UnaryOp .USub a pos) (tUn (rU fun i=>.int (-i)) ta) (y7 FL a3):=⟨HW Ez ha.pe,zu (r:=rU fun i=>.int (-i)) (ta:=ta) (by
 intro B F σ H Γ x dx Q QQ e rx q k;unfold FL at q;split at q
 ·cases rx;exact⟨_,rfl,k _ _ (fm e q)⟩
 ·exact q.elim) ha.rf⟩
end
abbrev TT3:=G->(Bool->G->Prop)->Prop
noncomputable def PoT (K:Fg0) (B:Bs) (F:Hp) (σ:L2.St) (Q:Bool->G->Prop):Bool->Hp->Prop:=fun b H'=>∃ F' Γ',aw F F'/\En K B F' σ H' Γ'/\Q b Γ'
def m_ (K:Fg0) (t:TT) (t3:TT3):Prop:=∀ (B:Bs) (F:Hp) (σ:L2.St) (H:Hp) (Γ:G) (Q:Bool->G->Prop) (QQ:Bool->Hp->Prop),En K B F σ H Γ->t3 Γ Q->(∀ b H',PoT K B F σ Q b H'->QQ b H')->t σ H QQ
structure P3T (K:Fg0) (X:Cx) (e:Expr) (t:TT) (t3:TT3):Prop where
 pe:PT X e t
 rf:m_ K t t3
structure P3W (K:Fg0) (X:Cx) (e:Expr) (t:TT) (t3:TT3):Prop where
 pe:PW X e t
 rf:m_ K t t3
section
variable {K:Fg0} {X:Cx} {a b c:Expr} {ta tb tc:TE} {a3 b3 c3:TE3} {a3' b3' c3':TB3} {pos:Pos} {tA tB':TT} {A3 B3:TT3} {rest:List Expr}
def tst (a3:TE3) (Γ:G) (Q:Bool->G->Prop):Prop:=a3 Γ fun x Γ1=>match x.d with
 | .bl k=>Q k Γ1
 | _=>False
theorem PoT.mono {B:Bs} {F F':Hp} {σ:L2.St} {H:Hp} {Q:Bool->G->Prop} {k:Bool} (s:aw F F') (h:PoT K B F' σ Q k H):PoT K B F σ Q k H:=by
 obtain⟨F2,Γ',a,b⟩:=h;exact⟨F2,Γ',s.trans a,b⟩
theorem DN (h:Ref K ta a3):m_ K (fun σ H Q=>ta σ H fun x H1=>∃ c,x=.bl c/\Q c H1) (tst a3):=by
 intro B F σ H Γ Q QQ e q k;refine h B F σ H Γ _ _ e q (fun v H1 Z=>?_);obtain⟨F1,Γ1,x,s1,e1,r1,q1⟩:=Z;obtain⟨F1',s1',e1',r1'⟩:=e1.frozen r1
 revert r1' q1
 split
 ·rename_i hz;intro q1 r1';rw[hz] at r1';exact⟨_,r1',k _ _ ⟨F1',Γ1,s1.trans s1',e1',q1⟩⟩
 ·intro q1;exact q1.elim
theorem cC {e:Expr} {t:TE} {e3:TE3} (h:P3 K X e t e3) (he:autoParam (∀ whole,isTrue e X.env whole=(do let v <- whole;standAt e.pos;holding [v] (truthy v))) wT):P3T K X e (tB t) (tst e3):=⟨E7 h.pe he,DN h.rf⟩
theorem aK {op:CmpOp} {r:R2} {o3:D->D->TE3} (h:C3 K X op r o3) (ha:P3B K X a ta a3') (hb:P3B K X b tb b3') (hm:behindInMarks op b=false):P3T K X (.Compare a [op] [b] pos) (DB (tOp r ta tb)) (tst (dZ o3 a3' b3')):=
 ⟨Cf h.op ha.pe hb.pe hm,DN (gu h.rf ha.rf hb.rf)⟩
def G0 (A3 B3:TT3) (Γ:G) (Q:Bool->G->Prop):Prop:=A3 Γ fun c Γ1=>match c with
 | true=>B3 Γ1 Q
 | false=>Q false Γ1
def or3 (A3 B3:TT3) (Γ:G) (Q:Bool->G->Prop):Prop:=A3 Γ fun c Γ1=>match c with
 | true=>Q true Γ1
 | false=>B3 Γ1 Q
def FI (A3:TT3) (Γ:G) (Q:Bool->G->Prop):Prop:=A3 Γ fun c Γ1=>Q (!c) Γ1
theorem Cc (ha:m_ K tA A3) (hb:m_ K tB' B3):m_ K (EH tA tB') (G0 A3 B3):=by
 intro B F σ H Γ Q QQ e q k;refine ha B F σ H Γ _ _ e q (fun c H1 Z=>?_);obtain⟨F1,Γ1,s1,e1,q1⟩:=Z;cases c with
 | true=>exact vw (hb B F1 σ H1 Γ1 _ _ e1 q1 fun c H2 p=>k _ _ (p.mono s1))
 | false=>exact vy (k _ _ ⟨F1,Γ1,s1,e1,q1⟩)
theorem EY (ha:m_ K tA A3) (hb:m_ K tB' B3):m_ K (tOr tA tB') (or3 A3 B3):=by
 intro B F σ H Γ Q QQ e q k;refine ha B F σ H Γ _ _ e q (fun c H1 Z=>?_);obtain⟨F1,Γ1,s1,e1,q1⟩:=Z;cases c with
 | true=>exact vw (k _ _ ⟨F1,Γ1,s1,e1,q1⟩)
 | false=>exact vy (hb B F1 σ H1 Γ1 _ _ e1 q1 fun c H2 p=>k _ _ (p.mono s1))
theorem B9 (ha:m_ K tA A3):m_ K (EC tA) (FI A3):=by
 intro B F σ H Γ Q QQ e q k;exact ha B F σ H Γ _ _ e q (fun c H1 ⟨F1,Γ1,s1,e1,q1⟩=>k _ _ ⟨F1,Γ1,s1,e1,q1⟩)
theorem iz (ha:P3T K X a tA A3):P3W K X (.BoolOp .And [a] pos) tA A3:=⟨Cd ha.pe,ha.rf⟩
theorem kn (ha:P3T K X a tA A3):P3W K X (.BoolOp .Or [a] pos) tA A3:=⟨E5 ha.pe,ha.rf⟩
theorem ko (ha:P3T K X a tA A3) (hb:P3W K X (.BoolOp .And (b::rest) pos) tB' B3):P3W K X (.BoolOp .And (a::b::rest) pos) (EH tA tB') (G0 A3 B3):=⟨E6 ha.pe hb.pe,Cc ha.rf hb.rf⟩
theorem lR (ha:P3T K X a tA A3) (hb:P3W K X (.BoolOp .Or (b::rest) pos) tB' B3):P3W K X (.BoolOp .Or (a::b::rest) pos) (tOr tA tB') (or3 A3 B3):=⟨HS ha.pe hb.pe,EY ha.rf hb.rf⟩
theorem P3W.pt {e:Expr} (h:P3W K X e tA A3):P3T K X e tA A3:=⟨h.pe.pt,h.rf⟩
theorem cV (ha:P3T K X a tA A3):P3T K X (.UnaryOp .Not a pos) (EC tA) (FI A3):=⟨E8 ha.pe,B9 ha.rf⟩
def qE (a3 b3'':TE3) (Γ:G) (Q:RV->G->Prop):Prop:=a3 Γ fun x Γ1=>match x.d with
 | .bl true=>b3'' Γ1 Q
 | .bl false=>Q (.fz (.bl false)) Γ1
 | _=>False
def H_ (a3 b3'':TE3) (Γ:G) (Q:RV->G->Prop):Prop:=a3 Γ fun x Γ1=>match x.d with
 | .bl true=>Q (.fz (.bl true)) Γ1
 | .bl false=>b3'' Γ1 Q
 | _=>False
def DR (a3:TE3) (Γ:G) (Q:RV->G->Prop):Prop:=a3 Γ fun x Γ1=>match x.d with
 | .bl k=>Q (.fz (.bl (!k))) Γ1
 | _=>False
theorem lS {op} (h:P3 K X a ta a3):P3 K X (.BoolOp op [a] pos) ta a3:=⟨Fh h.pe,h.rf⟩
theorem rF (ha:P3 K X a ta a3) (hb:P3 K X (.BoolOp .And (b::rest) pos) tb b3):P3 K X (.BoolOp .And (a::b::rest) pos) (DF ta tb) (qE a3 b3):=⟨Fp ha.pe hb.pe,by
 intro B F σ H Γ Q QQ e q k;refine ha.rf B F σ H Γ _ _ e q (fun v H1 Z=>?_);obtain⟨F1,Γ1,x,s1,e1,r1,q1⟩:=Z;obtain⟨F1',s1',e1',r1'⟩:=e1.frozen r1
 revert r1' q1
 split
 ·rename_i hz;intro q1 r1';rw[hz] at r1';exact⟨true,r1',vw (hb.rf B F1' σ H1 Γ1 _ _ e1' q1 fun v H2 p=>k _ _ (p.mono (s1.trans s1')))⟩
 ·rename_i hz;intro q1 r1';rw[hz] at r1';exact⟨false,r1',vy (k _ _ (Po.mono (s1.trans s1') (nW e1' q1)))⟩
 ·intro q1;exact q1.elim⟩
theorem DQ (ha:P3 K X a ta a3) (hb:P3 K X (.BoolOp .Or (b::rest) pos) tb b3):P3 K X (.BoolOp .Or (a::b::rest) pos) (Hi ta tb) (H_ a3 b3):=⟨HX ha.pe hb.pe,by
 intro B F σ H Γ Q QQ e q k;refine ha.rf B F σ H Γ _ _ e q (fun v H1 Z=>?_);obtain⟨F1,Γ1,x,s1,e1,r1,q1⟩:=Z;obtain⟨F1',s1',e1',r1'⟩:=e1.frozen r1
 revert r1' q1
 split
 ·rename_i hz;intro q1 r1';rw[hz] at r1';exact⟨true,r1',vw (k _ _ (Po.mono (s1.trans s1') (nW e1' q1)))⟩
 ·rename_i hz;intro q1 r1';rw[hz] at r1';exact⟨false,r1',vy (hb.rf B F1' σ H1 Γ1 _ _ e1' q1 fun v H2 p=>k _ _ (p.mono (s1.trans s1')))⟩
 ·intro q1;exact q1.elim⟩
theorem Fq (ha:P3 K X a ta a3):P3 K X (.UnaryOp .Not a pos) (DE ta) (DR a3):=⟨Fj ha.pe,by
 intro B F σ H Γ Q QQ e q k;refine ha.rf B F σ H Γ _ _ e q (fun v H1 Z=>?_);obtain⟨F1,Γ1,x,s1,e1,r1,q1⟩:=Z;obtain⟨F1',s1',e1',r1'⟩:=e1.frozen r1
 revert r1' q1
 split
 ·rename_i hz;intro q1 r1';rw[hz] at r1';exact⟨_,r1',k _ _ (Po.mono (s1.trans s1') (nW e1' q1))⟩
 ·intro q1;exact q1.elim⟩
def if3 (A3:TT3) (a3 b3:TE3) (Γ:G) (Q:RV->G->Prop):Prop:=A3 Γ fun c Γ1=>match c with
 | true=>a3 Γ1 Q
 | false=>b3 Γ1 Q
theorem tG {c:Expr} (hc:P3T K X c tA A3) (ha:P3 K X a ta a3) (hb:P3 K X b tb b3):P3 K X (.IfExp c a b pos) (tIf tA ta tb) (if3 A3 a3 b3):=⟨zQ hc.pe ha.pe hb.pe,by
 intro B F σ H Γ Q QQ e q k;refine hc.rf B F σ H Γ _ _ e q (fun c H1 Z=>?_);obtain⟨F1,Γ1,s1,e1,q1⟩:=Z;cases c with
 | true=>exact vw (ha.rf B F1 σ H1 Γ1 _ _ e1 q1 fun v H2 p=>k _ _ (p.mono s1))
 | false=>exact vy (hb.rf B F1 σ H1 Γ1 _ _ e1 q1 fun v H2 p=>k _ _ (p.mono s1))⟩
end
abbrev TA3:=G->(List D->G->Prop)->Prop
noncomputable def PoA (K:Fg0) (B:Bs) (F:Hp) (σ:L2.St) (Q:List D->G->Prop):List V->Hp->Prop:=fun vs H'=>∃ F' Γ' ds,aw F F'/\En K B F' σ H' Γ'/\au K F' ds vs/\Q ds Γ'
def JH (K:Fg0) (t:TA) (t3:TA3):Prop:=∀ (B:Bs) (F:Hp) (σ:L2.St) (H:Hp) (Γ:G) (Q:List D->G->Prop) (QQ:List V->Hp->Prop),En K B F σ H Γ->t3 Γ Q->(∀ vs H',PoA K B F σ Q vs H'->QQ vs H')->t σ H QQ
structure P3A (K:Fg0) (X:Cx) (es:List Expr) (t:TA) (t3:TA3):Prop where
 pe:PA X es t
 rf:JH K t t3
section
variable {K:Fg0} {X:Cx} {e:Expr} {es:List Expr} {te:TE} {e3:TE3} {t:TA} {t3:TA3} {pos:Pos}
def lX (Γ:G) (Q:List D->G->Prop):Prop:=Q [] Γ
def eD (e3:TE3) (t3:TA3) (Γ:G) (Q:List D->G->Prop):Prop:=e3 Γ fun x Γ1=>t3 Γ1 fun xs Γ2=>Q (x.d::xs) Γ2
theorem ai:P3A K X [] nF lX:=⟨rz,fun B F σ H Γ Q QQ e q k=>k _ _ ⟨F,Γ,[],aw.refl F,e,rfl,q⟩⟩
theorem ab (ha:P3 K X e te e3) (hr:P3A K X es t t3) (hs:autoParam (starEach (e::es) X.env=(false,eval e X.env)::starEach es X.env) wE):P3A K X (e::es) (nG te t) (eD e3 t3):=⟨nq ha.pe hr.pe hs,by
 intro B F σ H Γ Q QQ e q k;refine ha.rf B F σ H Γ _ _ e q (fun v H1 Z=>?_);obtain⟨F1,Γ1,x,s1,e1,r1,q1⟩:=Z;obtain⟨F1',s1',e1',r1'⟩:=e1.frozen r1;refine hr.rf B F1' σ H1 Γ1 _ _ e1' q1 (fun vs H2 Z=>?_);obtain⟨F2,Γ2,ds,s2,e2,r2,q2⟩:=Z;exact k _ _ ⟨F2,Γ2,x.d::ds,(s1.trans s1').trans s2,e2,⟨v,vs,rfl,r1'.mono s2,r2⟩,q2⟩⟩
def Iy (t3:TA3) (Γ:G) (Q:RV->G->Prop):Prop:=t3 Γ fun xs Γ1=>xs.length<=sizeLine/\Q (.fr (.lst xs)) Γ1
def yX (t3:TA3) (Γ:G) (Q:RV->G->Prop):Prop:=t3 Γ fun xs Γ1=>xs.length<=sizeLine/\Q (.fz (.tup xs)) Γ1
theorem bH (h:P3A K X es t t3):P3 K X (.List es pos) (Hj t) (Iy t3):=⟨Fl h.pe,by
 intro B F σ H Γ Q QQ e q k;refine h.rf B F σ H Γ _ _ e q (fun vs H1 Z=>?_);obtain⟨F1,Γ1,ds,s1,e1,r1,q1⟩:=Z;exact⟨by rw[r1.length];exact q1.1,fun p hp=>k _ _ (Po.mono s1 (fY e1 hp r1 q1.2))⟩⟩
theorem aL {x1} (h:P3A K X es t t3):P3 K X (.Tuple es x1 pos) (Hg t) (yX t3):=⟨Ff h.pe,by
 intro B F σ H Γ Q QQ e q k;refine h.rf B F σ H Γ _ _ e q (fun vs H1 Z=>?_);obtain⟨F1,Γ1,ds,s1,e1,r1,q1⟩:=Z;exact⟨by rw[r1.length];exact q1.1,fun p hp=>k _ _ (Po.mono s1 (q_ e1 hp r1 q1.2))⟩⟩
end
abbrev dY:=G->(List Bo->G->Prop)->Prop
noncomputable def bR (K:Fg0) (F:Hp) (σ:L2.St):List Bo->List V->Prop
 | [],vs=>vs=[]
 | b::bs,vs=>∃ v ws,vs=v::ws/\mR K F σ b v/\bR K F σ bs ws
noncomputable def mS (K:Fg0) (F H:Hp):List D->List V->Prop
 | [],vs=>vs=[]
 | d::ds,vs=>∃ v ws,vs=v::ws/\fM K F H d v/\mS K F H ds ws
noncomputable def ats (Γ:G):List Bo->Option (List D)
 | []=>some []
 | b::bs=>match b.at Γ,ats Γ bs with
  | some d,some ds=>some (d::ds)
  | _,_=>none
noncomputable def KQ (K:Fg0) (B:Bs) (F:Hp) (σ:L2.St) (Q:List Bo->G->Prop):List V->Hp->Prop:=fun vs H'=>∃ F' Γ' bs,aw F F'/\En K B F' σ H' Γ'/\bR K F' σ bs vs/\Q bs Γ'
def qF (K:Fg0) (t:TA) (t3:dY):Prop:=∀ (B:Bs) (F:Hp) (σ:L2.St) (H:Hp) (Γ:G) (Q:List Bo->G->Prop) (QQ:List V->Hp->Prop),En K B F σ H Γ->t3 Γ Q->(∀ vs H',KQ K B F σ Q vs H'->QQ vs H')->t σ H QQ
structure sE (K:Fg0) (X:Cx) (es:List Expr) (t:TA) (t3:dY):Prop where
 pe:PA X es t
 rf:qF K t t3
section
variable {K:Fg0} {X:Cx} {e:Expr} {es:List Expr} {te:TE} {e3:TB3} {t:TA} {t3:dY} {pos:Pos} {B:Bs} {F H:Hp} {σ:L2.St} {Γ:G}
theorem En.bos (e:En K B F σ H Γ):∀ {bs:List Bo} {vs:List V} {ds:List D},bR K F σ bs vs->ats Γ bs=some ds->mS K F H ds vs
 | [],_,_,h,q=>by cases q;exact h
 | b::bs,_,_,⟨v,ws,h1,h2,h3⟩,q=>by
  unfold ats at q;split at q
  ·rename_i d ds hd hds;cases q;exact⟨v,ws,h1,e.bo h2 hd,e.bos h3 hds⟩
  ·cases q
def yi (Γ:G) (Q:List Bo->G->Prop):Prop:=Q [] Γ
def qu (e3:TB3) (t3:dY) (Γ:G) (Q:List Bo->G->Prop):Prop:=e3 Γ fun x Γ1=>t3 Γ1 fun xs Γ2=>Q (x::xs) Γ2
theorem af:sE K X [] nF yi:=⟨rz,fun B F σ H Γ Q QQ e q k=>k _ _ ⟨F,Γ,[],aw.refl F,e,rfl,q⟩⟩
theorem aa (ha:P3B K X e te e3) (hr:sE K X es t t3) (hs:autoParam (starEach (e::es) X.env=(false,eval e X.env)::starEach es X.env) wE):sE K X (e::es) (nG te t) (qu e3 t3):=⟨nq ha.pe hr.pe hs,by
 intro B F σ H Γ Q QQ e q k;refine ha.rf B F σ H Γ _ _ e q (fun v H1 Z=>?_);obtain⟨F1,Γ1,x,s1,e1,r1,q1⟩:=Z;refine hr.rf B F1 σ H1 Γ1 _ _ e1 q1 (fun vs H2 Z=>?_);obtain⟨F2,Γ2,ds,s2,e2,r2,q2⟩:=Z;exact k _ _ ⟨F2,Γ2,x::ds,s1.trans s2,e2,⟨v,vs,rfl,r1.mono s2,r2⟩,q2⟩⟩
def xQ (K:Fg0) (r:List V->Hp->VK->Prop) (c3:List D->TE3):Prop:=∀ (B:Bs) (F:Hp) (σ:L2.St) (H:Hp) (Γ:G) (vs:List V) (ds:List D) (Q:RV->G->Prop) (QQ:VK),En K B F σ H Γ->mS K F H ds vs->c3 ds Γ Q->(∀ v H',Po K B F σ Q v H'->QQ v H')->r vs H QQ
def uq (c3:List D->TE3) (t3:dY) (Γ:G) (Q:RV->G->Prop):Prop:=t3 Γ fun bs Γ1=>∃ ds,ats Γ1 bs=some ds/\c3 ds Γ1 Q
theorem zA {r:List V->Hp->VK->Prop} {c3:List D->TE3} (h:xQ K r c3) (ha:qF K t t3):Ref K (tCB r t) (uq c3 t3):=by
 intro B F σ H Γ Q QQ e q k;refine ha B F σ H Γ _ _ e q (fun vs H1 Z=>?_);obtain⟨F1,Γ1,bs,s1,e1,r1,ds,hd,q1⟩:=Z;exact h B F1 σ H1 Γ1 vs ds Q QQ e1 (e1.bos r1 hd) q1 fun v H2 p=>k _ _ (p.mono s1)
structure B3 (K:Fg0) (X:Cx) (f:Value) (r:List V->Hp->VK->Prop) (c3:List D->TE3):Prop where
 op:cK X f r
 rf:xQ K r c3
variable {x:Str} {p:Pos} {id T:String} {r:List V->Hp->VK->Prop} {c3:List D->TE3}
theorem aJ (hc:B3 K X (.builtin id) r c3) (hg:Gl X x) (hm:X.mg x=none) (hv:bootBuiltins x=some (.builtin id)) (ha:sE K X (e::es) t t3) (hn:autoParam (x≠"__name__") wP) (hdb:autoParam ((x == ("__debug__":Str))=false) wP)
  (he:autoParam (starEach (e::es) X.env=(false,eval e X.env)::starEach es X.env) wE) (hpl:autoParam ((backTo pos (starEach es X.env)).any (·.1)=false) wE):P3 K X (.Call (.Name x p) (e::es) [] pos) (tCB r t) (uq c3 t3):=
 ⟨zT hc.op hg hm hv ha.pe hn hdb he hpl,zA hc.rf ha.rf⟩
theorem bU (hc:B3 K X (.type T) r c3) (hg:Gl X x) (hm:X.mg x=none) (hv:bootBuiltins x=some (.type T)) (ha:sE K X (e::es) t t3) (hn:autoParam (x≠"__name__") wP) (hdb:autoParam ((x == ("__debug__":Str))=false) wP)
  (he:autoParam (starEach (e::es) X.env=(false,eval e X.env)::starEach es X.env) wE) (hpl:autoParam ((backTo pos (starEach es X.env)).any (·.1)=false) wE):P3 K X (.Call (.Name x p) (e::es) [] pos) (tCB r t) (uq c3 t3):=
 ⟨yd hc.op hg hm hv ha.pe hn hdb he hpl,zA hc.rf ha.rf⟩
def mx3 (f:Int->Int->Int) (ds:List D) (Γ:G) (Q:RV->G->Prop):Prop:=match ds with
 | [.int i,.int j]=>Q (.fz (.int (f i j))) Γ
 | _=>False
theorem mS.one {d:D} {vs:List V} (h:mS K F H [d] vs):∃ v,vs=[v]/\fM K F H d v:=by
 obtain⟨v,ws,rfl,h1,h2⟩:=h;cases h2;exact⟨v,rfl,h1⟩
theorem mS.two {d e:D} {vs:List V} (h:mS K F H [d,e] vs):∃ v w,vs=[v,w]/\fM K F H d v/\fM K F H e w:=by
 obtain⟨v,ws,rfl,h1,h2⟩:=h;obtain⟨w,rfl,h3⟩:=mS.one h2;exact⟨v,w,rfl,h1,h3⟩
noncomputable abbrev fmax (i j:Int):Int:=if j > i then j else i
noncomputable abbrev fmin (i j:Int):Int:=if j < i then j else i
theorem El (hc:X.calm=true):B3 K X (.builtin "max") (fun xs H Q=>∃ i j,xs=[.int i,.int j]/\Q (.int (if j > i then j else i)) H) (mx3 fmax):=⟨yH hc,by
 intro B F σ H Γ vs ds Q QQ e r q k;unfold mx3 at q;split at q
 ·obtain⟨v,w,rfl,h,h'⟩:=r.two;cases h;cases h';exact⟨_,_,rfl,k _ _ (fm e q)⟩
 ·exact q.elim⟩
theorem Ek (hc:X.calm=true):B3 K X (.builtin "min") (fun xs H Q=>∃ i j,xs=[.int i,.int j]/\Q (.int (if j < i then j else i)) H) (mx3 fmin):=⟨yG hc,by
 intro B F σ H Γ vs ds Q QQ e r q k;unfold mx3 at q;split at q
 ·obtain⟨v,w,rfl,h,h'⟩:=r.two;cases h;cases h';exact⟨_,_,rfl,k _ _ (fm e q)⟩
 ·exact q.elim⟩
def vC (ds:List D) (Γ:G) (Q:RV->G->Prop):Prop:=match ds with
 | [.int i]=>Q (.fz (.int i)) Γ
 | [.bl k]=>Q (.fz (.int (if k then 1 else 0))) Γ
 | _=>False
theorem lB:B3 K X (.type "int") (fun xs H Q=>(∃ i,xs=[.int i]/\Q (.int i) H)\/∃ k,xs=[.bl k]/\Q (.int (if k then 1 else 0)) H) vC:=⟨yI,by
 intro B F σ H Γ vs ds Q QQ e r q k;unfold vC at q;split at q
 ·obtain⟨v,rfl,h⟩:=r.one;cases h;exact .inl ⟨_,rfl,k _ _ (fm e q)⟩
 ·obtain⟨v,rfl,h⟩:=r.one;cases h;exact .inr ⟨_,rfl,k _ _ (fm e q)⟩
 ·exact q.elim⟩
noncomputable def CZ:D->Option Nat
 | .lst xs=>some xs.length
 | .tup xs=>some xs.length
 | .ktup xs=>some xs.length
 | .scr ns=>some ns.length
 | _=>none
def vv (ds:List D) (Γ:G) (Q:RV->G->Prop):Prop:=match ds with
 | [.str z]=>z.length<=sizeLine/\Q (.fz (.int z.length)) Γ
 | [d]=>∃ n,CZ d=some n/\Q (.fz (.int n)) Γ
 | _=>False
noncomputable abbrev JW (K:Fg0):List V->Hp->VK->Prop:=fun xs H Q=>(∃ p ys,xs=[.ref p]/\(SqL K H p ys\/SqT K H p ys)/\Q (.int ys.length) H)\/(∃ z,xs=[.str z]/\z.length<=sizeLine/\Q (.int z.length) H)
theorem cK.or' {f:Value} {r r':List V->Hp->VK->Prop} (h:cK X f r) (h':cK X f r'):cK X f (fun xs H Q=>r xs H Q\/r' xs H Q):=by
 intro pins s σ H xs us Q I rx q;rcases q with q | q
 ·exact h pins s σ H xs us Q I rx q
 ·exact h' pins s σ H xs us Q I rx q
theorem CY {d:D} {v:V} {n:Nat} (s:aw F H) (h:fM K F H d v) (hn:CZ d=some n):∃ p ys,v=.ref p/\(SqL K H p ys\/SqT K H p ys)/\ys.length=n:=by
 unfold CZ at hn;split at hn
 ·cases hn;obtain⟨p,vs,rfl,h1,h2⟩:=h;exact⟨p,vs,rfl,.inl (SqL.of h1),h2.length⟩
 ·cases hn;obtain⟨p,vs,rfl,h1,h2⟩:=h;exact⟨p,vs,rfl,.inr (.inl (.inl (s _ _ h1))),h2.length⟩
 ·cases hn;obtain⟨p,vs,rfl,h1,h2⟩:=h;exact⟨p,vs,rfl,.inr (SqT.same s h1),h2.length⟩
 ·cases hn;obtain⟨p,rfl,h1⟩:=h;exact⟨p,_,rfl,.inl (s.seq h1),by simp⟩
 ·cases hn
theorem g6 (hK:X.K=K):B3 K X (.builtin "len") (JW K) vv:=⟨by subst hK;exact cK.or' sj sh,by
 intro B F σ H Γ vs ds Q QQ e r q k;unfold vv at q;split at q
 ·obtain⟨v,rfl,h⟩:=r.one;cases h;exact .inr ⟨_,rfl,q.1,k _ _ (fm e q.2)⟩
 ·obtain⟨v,rfl,h⟩:=r.one;obtain⟨n,hn,q⟩:=q;obtain⟨p,ys,rfl,hs,hl⟩:=CY e.sub h hn;subst hl;exact .inl ⟨p,ys,rfl,hs,k _ _ (fm e q)⟩
 ·exact q.elim⟩
end
section
variable {K:Fg0} {X:Cx} {a b c:Expr} {ta tb tc:TE} {a3 b3 c3:TB3} {pos:Pos} {B:Bs} {F H:Hp} {σ:L2.St} {Γ:G}
theorem au.atI {xs:List D} {vs:List V} (h:au K F xs vs) {i:Int} {d:D} (e:atI xs i=some d):∃ v,L2.atI vs i=some v/\Rep K F d v:=by
 unfold L2.atI at e ⊢;rw[h.length];cases q:ixN xs.length i with
 | none=>rw[q] at e;cases e
 | some j=>
  rw[q] at e;exact h.get e
def ix3 (x y:D) (Γ:G) (Q:RV->G->Prop):Prop:=match x,y with
 | .lst xs,.int i=>∃ d,atI xs i=some d/\Q (.fz d) Γ
 | .tup xs,.int i=>∃ d,atI xs i=some d/\Q (.fz d) Γ
 | .ktup xs,.int i=>∃ d,atI xs i=some d/\Q (.fz d) Γ
 | .scr ns,.int i=>∃ n,atI ns i=some n/\Q (.fz (.int n)) Γ
 | .str z,.int i=>z.length<=sizeLine/\∃ c,atI z.cps.toList i=some c/\Q (.fz (.str ⟨#[c]⟩)) Γ
 | _,_=>False
theorem xH {α β:Type} {f:α->β} {xs:List α} {i:Int} {d:α} (e:atI xs i=some d):atI (xs.map f) i=some (f d):=by
 unfold L2.atI at e ⊢;rw[lM0];cases q:ixN xs.length i with
 | none=>rw[q] at e;cases e
 | some j=>
  rw[q] at e;show (xs.map f)[j]?=_;rw[List.getElem?_map,show xs[j]?=some d from e]
  rfl
theorem IB:jb K (rIx K) ix3:=by
 intro B F σ H Γ x y dx dy Q QQ e rx ry q k;unfold ix3 at q;split at q
 ·obtain⟨d,hd,q⟩:=q;obtain⟨p,vs,rfl,h1,h2⟩:=rx;cases ry;obtain⟨v,hv,r⟩:=h2.atI hd;exact .inl ⟨p,vs,_,v,rfl,rfl,SqL.of h1,hv,k _ _ (gy e r q)⟩
 ·obtain⟨d,hd,q⟩:=q;obtain⟨p,vs,rfl,h1,h2⟩:=rx;cases ry;obtain⟨v,hv,r⟩:=h2.atI hd;exact .inr (.inl ⟨p,vs,_,v,rfl,rfl,.inl (.inl (e.sub _ _ h1)),hv,k _ _ (gy e r q)⟩)
 ·obtain⟨d,hd,q⟩:=q;obtain⟨p,vs,rfl,h1,h2⟩:=rx;cases ry;obtain⟨v,hv,r⟩:=h2.atI hd;exact .inr (.inl ⟨p,vs,_,v,rfl,rfl,SqT.same e.sub h1,hv,k _ _ (gy e r q)⟩)
 ·obtain⟨d,hd,q⟩:=q;obtain⟨p,rfl,h1⟩:=rx;cases ry;exact .inl ⟨p,_,_,.int d,rfl,rfl,e.sub.seq h1,xH hd,k _ _ (fm e q)⟩
 ·cases rx;cases ry;obtain⟨hz,c,hc,q⟩:=q;exact .inr (.inr ⟨_,_,c,rfl,rfl,hz,hc,k _ _ (q9 e q)⟩)
 ·exact q.elim
theorem az (hK:X.K=K) (ha:P3B K X a ta a3) (hb:P3B K X b tb b3) (hs:xN b):P3 K X (.Subscript a b pos) (tOp (rIx K) ta tb) (dZ ix3 a3 b3):=⟨HY (by subst hK;exact Gj) ha.pe hb.pe hs,gu IB ha.rf hb.rf⟩
noncomputable def cut {α:Type} (xs:List α) (lo hi:Option Int):List α:=(xs.drop (HT.sIx xs.length 0 lo)).take (HT.sIx xs.length xs.length hi - HT.sIx xs.length 0 lo)
noncomputable def pk {α:Type} (xs:List α) (lo hi st:Option Int):List α:=(sliceRange (sliceBounds lo hi st xs.length).1 (sliceBounds lo hi st xs.length).2.1 (sliceBounds lo hi st xs.length).2.2).filterMap (xs[·]?)
theorem au.cut {xs:List D} {vs:List V} (h:au K F xs vs) (lo hi:Option Int):au K F (cut xs lo hi) (pQ vs lo hi):=by
 unfold L3.cut pQ;rw[h.length];exact(h.drop _).take _
theorem au.places {xs:List D} {vs:List V} (h:au K F xs vs):∀ js:List Nat,au K F (js.filterMap (xs[·]?)) (js.filterMap (vs[·]?))
 | []=>rfl
 | j::js=>by
  have ih:=h.places js;cases hn:xs[j]? with
  | some x=>
   obtain⟨u,hu,r⟩:=h.get hn;simp only[List.filterMap_cons,hn,hu];exact⟨u,_,rfl,r,ih⟩
  | none=>
   have hv:vs[j]?=none:=by
    rw[List.getElem?_eq_none_iff] at hn ⊢;rw[h.length];exact hn
   simp only[List.filterMap_cons,hn,hv];exact ih
theorem au.pk {xs:List D} {vs:List V} (h:au K F xs vs) (lo hi st:Option Int):au K F (pk xs lo hi st) (mi vs lo hi st):=by
 unfold L3.pk mi;rw[h.length];exact h.places _
abbrev TO3:=G->(Option Int->G->Prop)->Prop
def KP (K:Fg0) (t:TO) (t3:TO3):Prop:=∀ (B:Bs) (F:Hp) (σ:L2.St) (H:Hp) (Γ:G) (Q:Option Int->G->Prop) (QQ:Option Int->Hp->Prop),En K B F σ H Γ->t3 Γ Q->(∀ o H',(∃ F' Γ',aw F F'/\En K B F' σ H' Γ'/\Q o Γ')->QQ o H')->t σ H QQ
structure P3O (K:Fg0) (X:Cx) (e:Option Expr) (t:TO) (t3:TO3):Prop where
 pe:PO X e t
 rf:KP K t t3
def Ac (Γ:G) (Q:Option Int->G->Prop):Prop:=Q none Γ
def y_ (a3:TB3) (Γ:G) (Q:Option Int->G->Prop):Prop:=a3 Γ fun x Γ1=>∃ i,x.at Γ1=some (.int i)/\Q (some i) Γ1
theorem bV:P3O K X none wq Ac:=⟨Ci,fun B F σ H Γ Q QQ e q k=>k _ _ ⟨F,Γ,aw.refl F,e,q⟩⟩
theorem b_ (h:P3B K X a ta a3):P3O K X (some a) (DC ta) (y_ a3):=⟨Cg h.pe,by
 intro B F σ H Γ Q QQ e q k;refine h.rf B F σ H Γ _ _ e q (fun v H1 Z=>?_);obtain⟨F1,Γ1,x,s1,e1,r1,i,h1,q1⟩:=Z;have:v=.int i:=e1.bo r1 h1;exact⟨i,this,k _ _ ⟨F1,Γ1,s1,e1,q1⟩⟩⟩
def sl3 (a3:TB3) (l3 h3:TO3) (Γ:G) (Q:RV->G->Prop):Prop:=a3 Γ fun x Γ1=>l3 Γ1 fun lo Γ2=>h3 Γ2 fun hi Γ3=>∃ xs,x.at Γ3=some (.lst xs)/\Q (.fr (.lst (cut xs lo hi))) Γ3
theorem cP {lo hi:Option Expr} {tl th:TO} {l3 h3:TO3} {p2:Pos} (hK:X.K=K) (ha:P3B K X a ta a3) (hl:P3O K X lo tl l3) (hh:P3O K X hi th h3):P3 K X (.Subscript a (.Slice lo hi none p2) pos) (tSl (HL K) ta tl th) (sl3 a3 l3 h3):=
 ⟨nY (by subst hK;exact BU) ha.pe hl.pe hh.pe,by
 intro B F σ H Γ Q QQ e q k;refine ha.rf B F σ H Γ _ _ e q (fun v H1 Z=>?_);obtain⟨F1,Γ1,x,s1,e1,r1,q1⟩:=Z;refine hl.rf B F1 σ H1 Γ1 _ _ e1 q1 (fun lo H2 Z=>?_);obtain⟨F2,Γ2,s2,e2,q2⟩:=Z;refine hh.rf B F2 σ H2 Γ2 _ _ e2 q2 (fun hi H3 Z=>?_);obtain⟨F3,Γ3,s3,e3,xs,h3,q3⟩:=Z;obtain⟨p,vs,rfl,h4,h5⟩:=e3.bo (r1.mono (s2.trans s3)) h3;exact⟨p,vs,rfl,SqL.of h4,fun l hl=>k _ _ (Po.mono ((s1.trans s2).trans s3) (fY e3 hl (h5.cut lo hi) q3))⟩⟩
def Hn (a3:TB3) (l3 h3:TO3) (Γ:G) (Q:RV->G->Prop):Prop:=a3 Γ fun x Γ1=>l3 Γ1 fun lo Γ2=>h3 Γ2 fun hi Γ3=>∃ xs,x.at Γ3=some (.tup xs)/\¬ (HT.sIx xs.length 0 lo=0/\HT.sIx xs.length xs.length hi=xs.length)/\Q (.fz (.tup (cut xs lo hi))) Γ3
theorem ye {lo hi:Option Expr} {tl th:TO} {l3 h3:TO3} {p2:Pos} (hK:X.K=K) (ha:P3B K X a ta a3) (hl:P3O K X lo tl l3) (hh:P3O K X hi th h3):P3 K X (.Subscript a (.Slice lo hi none p2) pos) (tSl (HJ K) ta tl th) (Hn a3 l3 h3):=
 ⟨nY (by subst hK;exact EJ) ha.pe hl.pe hh.pe,by
 intro B F σ H Γ Q QQ e q k;refine ha.rf B F σ H Γ _ _ e q (fun v H1 Z=>?_);obtain⟨F1,Γ1,x,s1,e1,r1,q1⟩:=Z;refine hl.rf B F1 σ H1 Γ1 _ _ e1 q1 (fun lo H2 Z=>?_);obtain⟨F2,Γ2,s2,e2,q2⟩:=Z;refine hh.rf B F2 σ H2 Γ2 _ _ e2 q2 (fun hi H3 Z=>?_);obtain⟨F3,Γ3,s3,e3,xs,h3,hn,q3⟩:=Z;obtain⟨p,vs,rfl,h4,h5⟩:=e3.bo (r1.mono (s2.trans s3)) h3;exact⟨p,vs,rfl,.inl (.inl (e3.sub _ _ h4)),by rw[h5.length];exact hn,fun l hl=>k _ _ (Po.mono ((s1.trans s2).trans s3) (q_ e3 hl (h5.cut lo hi) q3))⟩⟩
def Ho (a3:TB3) (l3 h3 s3:TO3) (Γ:G) (Q:RV->G->Prop):Prop:=a3 Γ fun x Γ1=>l3 Γ1 fun lo Γ2=>h3 Γ2 fun hi Γ3=>s3 Γ3 fun st Γ4=>st≠some 0/\∃ xs,x.at Γ4=some (.lst xs)/\Q (.fr (.lst (pk xs lo hi st))) Γ4
theorem yg {lo hi:Option Expr} {st:Expr} {tl th ts:TO} {l3 h3 s3:TO3} {p2:Pos} (hK:X.K=K) (ha:P3B K X a ta a3) (hl:P3O K X lo tl l3) (hh:P3O K X hi th h3) (hs:P3O K X (some st) ts s3):P3 K X (.Subscript a (.Slice lo hi (some st) p2) pos) (Hh K ta tl th ts) (Ho a3 l3 h3 s3):=
 ⟨by subst hK;exact yb ha.pe hl.pe hh.pe hs.pe,by
 intro B F σ H Γ Q QQ e q k;refine ha.rf B F σ H Γ _ _ e q (fun v H1 Z=>?_);obtain⟨F1,Γ1,x,s1,e1,r1,q1⟩:=Z;refine hl.rf B F1 σ H1 Γ1 _ _ e1 q1 (fun lo H2 Z=>?_);obtain⟨F2,Γ2,s2,e2,q2⟩:=Z;refine hh.rf B F2 σ H2 Γ2 _ _ e2 q2 (fun hi H3 Z=>?_);obtain⟨F3,Γ3,s3,e3,q3⟩:=Z;refine hs.rf B F3 σ H3 Γ3 _ _ e3 q3 (fun st H4 Z=>?_);obtain⟨F4,Γ4,s4,e4,hst,xs,h4,q4⟩:=Z;obtain⟨p,vs,rfl,h5,h6⟩:=e4.bo (r1.mono ((s2.trans s3).trans s4)) h4;exact⟨hst,p,vs,rfl,SqL.of h5,fun l hl=>k _ _ (Po.mono (((s1.trans s2).trans s3).trans s4) (fY e4 hl (h6.pk lo hi st) q4))⟩⟩
noncomputable def oC:D->Option (List D)
 | .lst xs=>some xs
 | .tup xs=>some xs
 | .ktup xs=>some xs
 | .scr ns=>some (ns.map .int)
 | _=>none
theorem qd {d:D} {v:V} {xs:List D} (s:aw F H) (h:fM K F H d v) (hn:oC d=some xs):∃ p ys,v=.ref p/\(SqL K H p ys\/SqT K H p ys)/\au K F xs ys:=by
 unfold oC at hn;split at hn
 ·cases hn;obtain⟨p,vs,rfl,h1,h2⟩:=h;exact⟨p,vs,rfl,.inl (SqL.of h1),h2⟩
 ·cases hn;obtain⟨p,vs,rfl,h1,h2⟩:=h;exact⟨p,vs,rfl,.inr (.inl (.inl (s _ _ h1))),h2⟩
 ·cases hn;obtain⟨p,vs,rfl,h1,h2⟩:=h;exact⟨p,vs,rfl,.inr (SqT.same s h1),h2⟩
 ·cases hn;obtain⟨p,rfl,h1⟩:=h;exact⟨p,_,rfl,.inl (s.seq h1),au.ints _⟩
 ·cases hn
def Aw (ds:List D) (Γ:G) (Q:RV->G->Prop):Prop:=match ds with
 | [d]=>∃ xs,oC d=some xs/\Q (.fr (.lst xs)) Γ
 | _=>False
theorem Bi (hK:X.K=K):B3 K X (.type "list") (fun xs H Q=>∃ p ys,xs=[.ref p]/\(SqL K H p ys\/SqT K H p ys)/\∀ l,H l=none->Q (.ref l) (upd H l (.lst ys))) Aw:=⟨by subst hK;exact sf,by
 intro B F σ H Γ vs ds Q QQ e r q k;unfold Aw at q;split at q
 ·obtain⟨v,rfl,h⟩:=r.one;obtain⟨xs,hn,q⟩:=q;obtain⟨p,ys,rfl,hs,hl⟩:=qd e.sub h hn;exact⟨p,ys,rfl,hs,fun l hf=>k _ _ (fY e hf hl q)⟩
 ·exact q.elim⟩
def uM (ds:List D) (Γ:G) (Q:RV->G->Prop):Prop:=match ds with
 | [.lst xs]=>Q (.fz (.tup xs)) Γ
 | _=>False
theorem Dj (hK:X.K=K):B3 K X (.type "tuple") (fun xs H Q=>∃ p ys,xs=[.ref p]/\((SqL K H p ys/\∀ l,H l=none->Q (.ref l) (upd H l (.tup ys)))\/(SqT K H p ys/\Q (.ref p) H))) uM:=⟨by subst hK;exact pS,by
 intro B F σ H Γ vs ds Q QQ e r q k;unfold uM at q;split at q
 ·obtain⟨v,rfl,p,ys,rfl,h1,h2⟩:=r.one;exact⟨p,ys,rfl,.inl ⟨SqL.of h1,fun l hf=>k _ _ (q_ e hf h2 q)⟩⟩
 ·exact q.elim⟩
noncomputable def knD:D->Bool
 | .non=>true | .bl _=>true | .int _=>true | .str _=>true | .lst _=>true | .tup _=>true | .dct=>true | .dcs _ _=>true | _=>false
theorem Gb {d:D} {v:V} (s:aw F H) (h:fM K F H d v) (hk:knD d=true):Kn H v:=by
 unfold knD at hk;split at hk
 ·cases h;exact .non
 ·cases h;exact .bl _
 ·cases h;exact .int _
 ·cases h;exact .str _
 ·obtain⟨p,vs,rfl,h1,_⟩:=h;exact .lst h1
 ·obtain⟨p,vs,rfl,h1,_⟩:=h;exact .tup (s _ _ h1)
 ·obtain⟨p,rfl,h1⟩:=h;exact .dK (s _ _ h1)
 ·obtain⟨p,rfl,h1⟩:=h;exact .dK (s _ _ h1)
 ·cases hk
noncomputable def dB:D->Bool
 | .bl _=>true | _=>false
noncomputable def dI:D->Bool
 | .bl _=>true | .int _=>true | _=>false
noncomputable def dL:D->Bool
 | .lst _=>true | _=>false
noncomputable def dT:D->Bool
 | .tup _=>true | _=>false
def is3 (t:String) (f:D->Bool) (ds:List D) (Γ:G) (Q:RV->G->Prop):Prop:=match ds with
 | [d,.ty t']=>t'=t/\knD d=true/\Q (.fz (.bl (f d))) Γ
 | _=>False
theorem Bj {t:String} {f:D->Bool} {g:Hp->V->Bool} (h:cK X (.builtin "isinstance") (fun xs H Q=>∃ x,xs=[x,.ty t]/\Kn H x/\Q (.bl (g H x)) H))
  (hg:∀ {F H:Hp} {d:D} {v:V},aw F H->fM K F H d v->knD d=true->g H v=f d):B3 K X (.builtin "isinstance") (fun xs H Q=>∃ x,xs=[x,.ty t]/\Kn H x/\Q (.bl (g H x)) H) (is3 t f):=⟨h,by
 intro B F σ H Γ vs ds Q QQ e r q k;unfold is3 at q;split at q
 ·obtain⟨v,w,rfl,h1,h2⟩:=r.two;obtain⟨rfl,hk,q⟩:=q;cases h2;exact⟨v,rfl,Gb e.sub h1 hk,by rw[hg e.sub h1 hk];exact k _ _ (nW e q)⟩
 ·exact q.elim⟩
theorem Eo (T:eU X.K):B3 K X (.builtin "isinstance") (fun xs H Q=>∃ x,xs=[x,.ty "bool"]/\Kn H x/\Q (.bl (isB x)) H) (is3 "bool" dB):=Bj (g:=fun _ v=>isB v) (Bh T) fun s h hk=>by
 unfold knD at hk;split at hk
 ·cases h;rfl
 ·cases h;rfl
 ·cases h;rfl
 ·cases h;rfl
 ·obtain⟨p,vs,rfl,h1,_⟩:=h;rfl
 ·obtain⟨p,vs,rfl,h1,_⟩:=h;rfl
 ·obtain⟨p,rfl,h1⟩:=h;rfl
 ·obtain⟨p,rfl,h1⟩:=h;rfl
 ·cases hk
theorem Em (T:eU X.K):B3 K X (.builtin "isinstance") (fun xs H Q=>∃ x,xs=[x,.ty "int"]/\Kn H x/\Q (.bl (isI x)) H) (is3 "int" dI):=Bj (g:=fun _ v=>isI v) (Bg T) fun s h hk=>by
 unfold knD at hk;split at hk
 ·cases h;rfl
 ·cases h;rfl
 ·cases h;rfl
 ·cases h;rfl
 ·obtain⟨p,vs,rfl,h1,_⟩:=h;rfl
 ·obtain⟨p,vs,rfl,h1,_⟩:=h;rfl
 ·obtain⟨p,rfl,h1⟩:=h;rfl
 ·obtain⟨p,rfl,h1⟩:=h;rfl
 ·cases hk
theorem Jk (T:eU X.K):B3 K X (.builtin "isinstance") (fun xs H Q=>∃ x,xs=[x,.ty "list"]/\Kn H x/\Q (.bl (isL H x)) H) (is3 "list" dL):=Bj (Bf T) fun s h hk=>by
 unfold knD at hk;split at hk
 ·cases h;rfl
 ·cases h;rfl
 ·cases h;rfl
 ·cases h;rfl
 ·obtain⟨p,vs,rfl,h1,_⟩:=h;exact xc h1
 ·obtain⟨p,vs,rfl,h1,_⟩:=h;exact xb (s _ _ h1)
 ·obtain⟨p,rfl,h1⟩:=h;exact vA (s _ _ h1)
 ·obtain⟨p,rfl,h1⟩:=h;exact vA (s _ _ h1)
 ·cases hk
theorem Ji (T:eU X.K):B3 K X (.builtin "isinstance") (fun xs H Q=>∃ x,xs=[x,.ty "tuple"]/\Kn H x/\Q (.bl (isT H x)) H) (is3 "tuple" dT):=Bj (Bb T) fun s h hk=>by
 unfold knD at hk;split at hk
 ·cases h;rfl
 ·cases h;rfl
 ·cases h;rfl
 ·cases h;rfl
 ·obtain⟨p,vs,rfl,h1,_⟩:=h;exact xa h1
 ·obtain⟨p,vs,rfl,h1,_⟩:=h;exact w_ (s _ _ h1)
 ·obtain⟨p,rfl,h1⟩:=h;exact vz (s _ _ h1)
 ·obtain⟨p,rfl,h1⟩:=h;exact vz (s _ _ h1)
 ·cases hk
noncomputable def flD:D->Bool
 | .non=>true | .bl _=>true | .int _=>true | .str _=>true | _=>false
noncomputable def toV:D->V
 | .bl b=>.bl b | .int i=>.int i | .str x=>.str x | _=>.non
theorem Ee {d:D} {v:V} (h:fM K F H d v) (hk:flD d=true):v=toV d/\jH v=true:=by
 unfold flD at hk;split at hk
 ·cases h;exact⟨rfl,rfl⟩
 ·cases h;exact⟨rfl,rfl⟩
 ·cases h;exact⟨rfl,rfl⟩
 ·cases h;exact⟨rfl,rfl⟩
 ·cases hk
theorem Ed (s:aw F H):∀ {xs:List D} {vs:List V},au K F xs vs->xs.all flD=true->vs=xs.map toV/\vs.all jH=true
 | [],_,h,_=>by cases h;exact⟨rfl,rfl⟩
 | x::xs,_,⟨v,ws,h1,h2,h3⟩,hk=>by
  rw[List.all_cons,Bool.and_eq_true] at hk;obtain⟨a,b⟩:=Ed s h3 hk.2;obtain⟨c,d⟩:=Ee (Rep.b s h2) hk.1;subst h1 a c;refine⟨rfl,?_⟩;rw[List.all_cons,d,b];rfl
def in3 (neg:Bool) (x y:D) (Γ:G) (Q:RV->G->Prop):Prop:=∃ xs,oC y=some xs/\flD x=true/\xs.all flD=true/\Q (.fz (.bl (if neg then !inV (toV x) (xs.map toV) else inV (toV x) (xs.map toV)))) Γ
theorem IG (neg:Bool):jb K (rIn K neg) (in3 neg):=by
 intro B F σ H Γ x y dx dy Q QQ e rx ry q k;obtain⟨xs,hn,f1,f2,q⟩:=q;obtain⟨p,ys,rfl,hs,hl⟩:=qd e.sub ry hn;obtain⟨a,b⟩:=Ed e.sub hl f2;obtain⟨c,d⟩:=Ee rx f1;subst a c;exact⟨p,_,rfl,hs,d,b,k _ _ (nW e q)⟩
theorem mQ (hK:X.K=K):C3 K X .In (rIn K false) (in3 false):=⟨by subst hK;exact yh,IG false⟩
theorem au.lookup:∀ {ns:Ls} {xs:List D} {gs:List (Str×V)} {f:Str} {d:D},gs.map (·.1)=ns->au K F xs (gs.map (·.2))->(ns.zip xs).lookup f=some d->∃ v,gs.lookup f=some v/\Rep K F d v
 | [],_,[],f,d,_,_,h=>by simp at h
 | n::ns,xs,(m,u)::gs,f,d,h1,h2,h3=>by
  simp only[List.map_cons,List.cons.injEq] at h1;obtain⟨rfl,h1⟩:=h1;cases xs with
  | nil=>simp at h3
  | cons x xs=>
   obtain⟨v,ws,e,r,h2⟩:=h2;simp only[List.map_cons,List.cons.injEq] at e;obtain⟨rfl,rfl⟩:=e;rw[List.zip_cons_cons,List.lookup_cons] at h3;rw[List.lookup_cons];cases q:f == m with
   | true=>rw[q] at h3;cases h3;exact⟨_,rfl,r⟩
   | false=>rw[q] at h3;exact au.lookup h1 h2 h3
end
set_option genInjectivity false in
structure E3 where
 nx:G->Prop
 rt:RV->G->Prop
 bk:G->Prop:=fun _=>False
 ct:G->Prop:=fun _=>False
abbrev TS3:=E3->G->Prop
structure xO (K:Fg0) (B:Bs) (F:Hp) (D:Ends) (D3:E3):Prop where
 nx:∀ F' σ' H' Γ',aw F F'->En K B F' σ' H' Γ'->D3.nx Γ'->D.nx σ' H'
 rt:∀ F' σ' H' Γ' v r,aw F F'->En K B F' σ' H' Γ'->jC K B F' σ' H' Γ' v r->D3.rt r Γ'->D.rt v H'
 bk:∀ F' σ' H' Γ',aw F F'->En K B F' σ' H' Γ'->D3.bk Γ'->D.bk σ' H'
 ct:∀ F' σ' H' Γ',aw F F'->En K B F' σ' H' Γ'->D3.ct Γ'->D.ct σ' H'
theorem xO.mono {K:Fg0} {B:Bs} {F F1:Hp} {D:Ends} {D3:E3} (h:xO K B F D D3) (s:aw F F1):xO K B F1 D D3:=
 ⟨fun F' σ' H' Γ' s'=>h.nx F' σ' H' Γ' (s.trans s'),fun F' σ' H' Γ' v r s'=>h.rt F' σ' H' Γ' v r (s.trans s'),fun F' σ' H' Γ' s'=>h.bk F' σ' H' Γ' (s.trans s'),fun F' σ' H' Γ' s'=>h.ct F' σ' H' Γ' (s.trans s')⟩
def Dw (K:Fg0) (t:TS) (t3:TS3):Prop:=∀ (B:Bs) (F:Hp) (σ:L2.St) (H:Hp) (Γ:G) (D:Ends) (D3:E3),En K B F σ H Γ->xO K B F D D3->t3 D3 Γ->t D σ H
structure P3S (K:Fg0) (X:Cx) (st:Stmt) (t:TS) (t3:TS3):Prop where
 pe:PS X st t
 rf:Dw K t t3
structure pf (K:Fg0) (X:Cx) (st:List Stmt) (t:TS) (t3:TS3):Prop where
 pe:PSs X st t
 rf:Dw K t t3
section
variable {K:Fg0} {X:Cx} {B:Bs} {F H:Hp} {σ:L2.St} {Γ:G} {pos:Pos}
def bY (Γ:G) (i:Nat):Prop:=match Γ[i]? with
 | some (some (.ln _))=>False
 | some _=>True
 | none=>False
theorem kI {i:Nat} (h:bY Γ i):i < Γ.length:=by
 unfold bY at h;split at h
 ·exact h.elim
 ·rename_i q;exact(gS0 q).1
 ·exact h.elim
theorem aB {α:Type} {l:List α} {i:Nat} {a:α} (h:i < l.length):(l.set i a)[i]?=some a:=by
 rw[List.getElem?_set,if_pos rfl,if_pos h]
theorem En.set (e:En K B F σ H Γ) {i:Nat} (hi:bY Γ i) {v:V} {r:RV} (hr:jC K B F σ H Γ v r) (hn:autoParam (r.pl=true) wE):En K B F (σ.set i (some v)) H (Γ.set i (some r.sl)):=by
 have il:=kI hi;have is:i < σ.length:=by rw[e.len];exact il
 have nl:∀ d,Γ[i]?≠some (some (Sl.ln d)):=fun d q=>by unfold bY at hi;rw[q] at hi;exact hi
 have ne:∀ {j:Nat},j≠i->(Γ.set i (some r.sl))[j]?=Γ[j]?/\(σ.set i (some v))[j]?=σ[j]?:=fun h=>⟨aY (Ne.symm h),aY (Ne.symm h)⟩;have hld:∀ {j x},Hld (Γ.set i (some r.sl)) j x->(j=i/\r=.fr x)\/(j≠i/\Hld Γ j x):=fun {j x} q=>by
  by_cases z:j=i
  ·subst z
   left
   refine⟨rfl,?_⟩;rcases q with q | q <;> rw[aB il] at q <;> cases r <;> first | (cases hn;done) | (cases q;done) | (cases q;rfl)
  ·right
   exact⟨z,by unfold Hld at q ⊢;rw[(ne z).1] at q;exact q⟩
 refine⟨e.sub,by rw[List.length_set,List.length_set];exact e.len,?_,?_,?_,?_,?_,?_,e.keep,e.new,e.rest,e.dom⟩
 ·intro j d q;by_cases z:j=i
  ·subst z;rw[aB il] at q;cases r with
   | fz x=>cases q;exact⟨v,aB is,hr⟩
   | fr x=>cases q
   | two xs ys=>cases hn
   | rws xss=>cases hn
  ·rw[(ne z).1] at q;rw[(ne z).2];exact e.fz j d q
 ·intro j d q;rcases hld q with ⟨rfl,rfl⟩ | ⟨z,q⟩
  ·obtain⟨p,rfl,h1,h2,h3,h4⟩:=hr;exact⟨p,aB is,h1,h2⟩
  ·rw[(ne z).2];exact e.hl j d q
 ·intro j d p q a;rcases hld (.inl q) with ⟨rfl,rfl⟩ | ⟨z,_⟩
  ·obtain⟨p',rfl,h1,h2,h3,h4⟩:=hr;rw[aB is] at a;cases a;exact h3
  ·rw[(ne z).1] at q;rw[(ne z).2] at a;exact e.ow j d p q a
 ·intro j d p q a;rcases hld (.inr q) with ⟨rfl,rfl⟩ | ⟨z,_⟩
  ·rw[aB il] at q;cases q
  ·rw[(ne z).1] at q;rw[(ne z).2] at a;exact e.ln j d p q a
 ·intro j k d d' p q1 q2 a1 a2;rcases hld q1 with ⟨rfl,rfl⟩ | ⟨z1,w1⟩
  ·rcases hld q2 with ⟨rfl,h⟩ | ⟨z2,w2⟩
   ·rfl
   ·obtain⟨p',rfl,h1,h2,h3,h4⟩:=hr;rw[aB is] at a1;cases a1;rw[(ne z2).2] at a2;exact absurd a2 (h4 k _ w2)
  ·rcases hld q2 with ⟨rfl,h⟩ | ⟨z2,w2⟩
   ·subst h;obtain⟨p',rfl,h1,h2,h3,h4⟩:=hr;rw[aB is] at a2;cases a2;rw[(ne z1).2] at a1;exact absurd a1 (h4 j _ w1)
   ·rw[(ne z1).2] at a1;rw[(ne z2).2] at a2;exact e.dis j k d d' p w1 w2 a1 a2
 ·intro j p q;obtain⟨a,d,b⟩:=e.par j p q;have z:j≠i:=fun z=>by subst z;exact nl d b
  rw[(ne z).1,(ne z).2];exact⟨a,d,b⟩
theorem En.forget (e:En K B F σ H Γ) {i:Nat} (hi:bY Γ i):En K B F σ H (Γ.set i none):=by
 have nl:∀ d,Γ[i]?≠some (some (Sl.ln d)):=fun d q=>by unfold bY at hi;rw[q] at hi;exact hi
 have il:=kI hi;have ne:∀ {j:Nat} {s:Sl},(Γ.set i none)[j]?=some (some s)->j≠i/\Γ[j]?=some (some s):=fun {j s} q=>by
  by_cases z:j=i
  ·subst z;rw[aB il] at q;cases q
  ·exact⟨z,by rw[aY (Ne.symm z)] at q;exact q⟩
 have hld:∀ {j x},Hld (Γ.set i none) j x->Hld Γ j x:=fun q=>q.imp (fun q=>(ne q).2) (fun q=>(ne q).2);exact⟨e.sub,by rw[List.length_set];exact e.len,fun j d q=>e.fz j d (ne q).2,fun j d q=>e.hl j d (hld q),fun j d p q=>e.ow j d p (ne q).2,fun j d p q=>e.ln j d p (ne q).2,fun j k d d' p q1 q2=>e.dis j k d d' p (hld q1) (hld q2),
  fun j p q=>by
   obtain⟨a,d,b⟩:=e.par j p q;have z:i≠j:=fun z=>by subst z;exact nl d b
   exact⟨a,d,by rw[aY z];exact b⟩,e.keep,e.new,e.rest,e.dom⟩
def BS (i:Nat) (Γ:G) (Q:RV->G->Prop):Prop:=match Γ[i]? with
 | some (some (.fz d))=>Q (.fz d) Γ
 | some (some (.ow d))=>Q (.fr d) (Γ.set i none)
 | _=>False
theorem EZ (i:Nat):Ref K (cX i) (BS i):=by
 intro B F σ H Γ Q QQ e h k;unfold BS at h;split at h
 ·rename_i d q;obtain⟨v,h1,h2⟩:=e.fz i d q;exact⟨v,h1,k _ _ (gy e h2 h)⟩
 ·rename_i d q;obtain⟨p,h1,h2,h3⟩:=e.hl i d (.inl q);have hf:bY Γ i:=by unfold bY;rw[q];trivial
  have e':=e.forget hf;refine⟨_,h1,k _ _ ⟨F,_,.fr d,aw.refl F,e',⟨p,rfl,h2,h3,e.ow i d p q h1,fun j x hj=>?_⟩,h⟩⟩;intro a;have hj':j≠i/\Hld Γ j x:=by
   by_cases z:j=i
   ·subst z;rcases hj with hj | hj <;> rw[aB (kI hf)] at hj <;> cases hj
   ·exact⟨z,by unfold Hld at hj ⊢;rw[aY (Ne.symm z)] at hj;exact hj⟩
  exact hj'.1 (e.dis j i x d p hj'.2 (.inl q) a h1)
 ·exact h.elim
theorem u_ (i:Nat) {x:Str} {pos:Pos} (hN:autoParam (X.N[i]?=some x) wE) (hv:Vis X.env.scope x:=by first | exact Or.inl rfl | exact Or.inr (Or.inl rfl) | exact Or.inr (Or.inr rfl)) (hd:autoParam ((x == ("__debug__":Str))=false) wP)
  (hcd:autoParam ((x == ("__classdict__":Str))=false) wP):P3 K X (.Name x pos) (cX i) (BS i):=⟨rm hN hv hd hcd,EZ i⟩
variable {st:Stmt} {rest:List Stmt} {t u:TS} {t3 u3:TS3} {e:Expr} {te:TE} {e3:TE3}
def DS (D:E3) (Γ:G):Prop:=D.nx Γ
def HA (t u:TS3) (D:E3) (Γ:G):Prop:=t { D with nx:=u D } Γ
def HG (e3:TE3) (D:E3) (Γ:G):Prop:=e3 Γ D.rt
def Ef (e3:TE3) (D:E3) (Γ:G):Prop:=e3 Γ fun _ Γ1=>D.nx Γ1
theorem bD:pf K X [] y3 DS:=⟨wJ,fun B F σ H Γ D D3 e k q=>k.nx F σ H Γ (aw.refl F) e q⟩
theorem ag (h1:P3S K X st t t3) (h2:pf K X rest u u3):pf K X (st::rest) (yZ t u) (HA t3 u3):=⟨km h1.pe h2.pe,fun B F σ H Γ D D3 e k q=>
 h1.rf B F σ H Γ _ { D3 with nx:=u3 D3 } e ⟨fun F' σ' H' Γ' s e' q'=>h2.rf B F' σ' H' Γ' _ D3 e' (k.mono s) q',k.rt,k.bk,k.ct⟩ q⟩
theorem ao (h1:P3S K X st t t3):pf K X [st] t t3:=⟨qZ h1.pe,h1.rf⟩
theorem aE (h:P3 K X e te e3):P3S K X (.Return (some e) pos) (EB te) (HG e3):=⟨zH h.pe,fun B F σ H Γ D D3 e k q=>
 h.rf B F σ H Γ _ _ e q fun v H' ⟨F',Γ',r,s,e',rv,q'⟩=>k.rt F' σ H' Γ' v r s e' rv q'⟩
theorem gO (h:P3 K X e te e3) (hs:autoParam (swapsWith e none pos.line X.env=pure false) wE):P3S K X (.Expr e pos) (sM te) (Ef e3):=⟨wK h.pe hs,fun B F σ H Γ D D3 e k q=>
 h.rf B F σ H Γ _ _ e q fun v H' ⟨F',Γ',r,s,e',rv,q'⟩=>k.nx F' σ H' Γ' s e' q'⟩
def Gr (A3:TT3) (t u:TS3) (D:E3) (Γ:G):Prop:=A3 Γ fun c Γ1=>match c with
 | true=>t D Γ1
 | false=>u D Γ1
theorem b9 {c:Expr} {a b:List Stmt} {tc:TT} {A3:TT3} (hc:P3T K X c tc A3) (ha:pf K X a t t3) (hb:pf K X b u u3):P3S K X (.If c a b pos) (ED tc t u) (Gr A3 t3 u3):=⟨DO hc.pe ha.pe hb.pe,fun B F σ H Γ D D3 e k q=>
 hc.rf B F σ H Γ _ _ e q fun c H' Z=>by
  obtain⟨F',Γ',s,e',q'⟩:=Z;cases c with
  | true=>exact vw (ha.rf B F' σ H' Γ' D D3 e' (k.mono s) q')
  | false=>exact vy (hb.rf B F' σ H' Γ' D D3 e' (k.mono s) q')⟩
theorem gx:P3S K X st y4 (fun _ _=>False):=⟨zI,fun B F σ H Γ D D3 e k q=>q⟩
def sQ (i:Nat) (e3:TE3) (D:E3) (Γ:G):Prop:=e3 Γ fun r Γ1=>bY Γ1 i/\D.nx (Γ1.set i (some r.sl))
theorem jg {i:Nat} (h:Ref K te e3):Dw K (eZ te (cS i)) (sQ i e3):=fun B F σ H Γ D D3 e k q=>
 h B F σ H Γ _ _ e q fun v H' Z=>by
  obtain⟨F',Γ',r,s,e',rv,hf,q'⟩:=Z;obtain⟨F2,r2,s2,e2,rv2,h2,hn⟩:=e'.norm rv;exact k.nx F2 _ H' _ (s.trans s2) (by have:=e2.set hf rv2 hn;rw[h2] at this;exact this) q'
theorem aD {i:Nat} {x:Str} {pos':Pos} (hN:X.N.Nodup) (hi:X.N[i]?=some x) (hx:Loc X.env.scope x) (he:P3 K X e te e3) (hs:autoParam (swapsWith e (some (.Name x pos')) pos.line X.env=pure false) wE) (hf:X.fn x=true\/X.env.scope.names.lookup x=some .local:=by first | exact .inl rfl | exact .inr rfl | assumption) :
  P3S K X (.Assign [.Name x pos'] e pos) (eZ te (cS i)) (sQ i e3):=⟨E9 hN hi hx he.pe hs hf,jg he.rf⟩
noncomputable def gives (Γ:G):List Nat->List D->Option G
 | [],[]=>some Γ
 | i::is,d::ds=>gives (Γ.set i (some (.fz d))) is ds
 | _,_=>none
noncomputable def frees (Γ:G):List Nat->List D->Prop
 | [],_=>True
 | i::is,d::ds=>bY Γ i/\frees (Γ.set i (some (.fz d))) is ds
 | _,_=>True
noncomputable def iH:List Nat->TGs
 | []=>GF
 | i::is=>xi (cS i) (iH is)
theorem j5 {is:List Nat}:∀ {Γ:G} {σ:L2.St} {vs:List V} {ds:List D} {Γ':G} {QQ:L2.St->Hp->Prop},En K B F σ H Γ->au K F ds vs->gives Γ is ds=some Γ'->frees Γ is ds->(∀ σ',En K B F σ' H Γ'->QQ σ' H)->iH is vs σ H QQ:=by
 induction is with
 | nil=>
  intro Γ σ vs ds Γ' QQ e r g f k;cases ds with
  | nil=>cases g;cases r;exact⟨rfl,k σ e⟩
  | cons d ds=>cases g
 | cons i is ih=>
  intro Γ σ vs ds Γ' QQ e r g f k;cases ds with
  | nil=>cases g
  | cons d ds=>
   obtain⟨v,ws,rfl,r1,r2⟩:=r;exact⟨v,ws,rfl,ih (e.set (r:=.fz d) f.1 r1) r2 g f.2 k⟩
def DI (is:List Nat) (e3:TE3) (D:E3) (Γ:G):Prop:=e3 Γ fun r Γ1=>∃ ds Γ',r.d=.tup ds/\gives Γ1 is ds=some Γ'/\frees Γ1 is ds/\D.nx Γ'
theorem qi {is:List Nat}:∀ {Γ Γ':G} {ds:List D},gives Γ is ds=some Γ'->ds.length=is.length:=by
 induction is with
 | nil=>intro Γ Γ' ds h;cases ds with | nil=>rfl | cons=>cases h
 | cons i is ih=>intro Γ Γ' ds h;cases ds with | nil=>cases h | cons d ds=>simp [ih h]
theorem eR {es:List Expr} {kt:Nat} {pt:Pos} {is:List Nat} (hK:X.K=K) (he:P3 K X e te e3) (hg:PGs X es (iH is)) (hc:X.calm=true) (hn:autoParam ((assignEach es X.env).length=is.length) wE) (hst:autoParam ((assignEach es X.env).findIdx? (·.1)=none) wE)
  (hs:autoParam (swapsWithSole [.Tuple es kt pt] e pos.line X.env=pure false) wE) (hw:autoParam (swappedStores [.Tuple es kt pt] e X.env=pure none) wE) (h1:autoParam ((assignEach [.Tuple es kt pt] X.env).map (·.2)=[assign (.Tuple es kt pt) X.env]) wE) :
  P3S K X (.Assign [.Tuple es kt pt] e pos) (eZ te (AH K is.length (iH is))) (DI is e3):=⟨by subst hK;exact q8 he.pe (rj hc hg hn hst) hs hw h1,fun B F σ H Γ D D3 e k q=>
 he.rf B F σ H Γ _ _ e q fun v H' Z=>by
  obtain⟨F',Γ',r,s,e',rv,ds,Γ2,h1,h2,h3,q'⟩:=Z;obtain⟨F2,s2,e2,r2⟩:=e'.frozen rv;rw[h1] at r2;obtain⟨p,vs,rfl,h4,h5⟩:=r2;refine⟨p,vs,rfl,.inl (.inl (e2.sub _ _ h4)),by rw[h5.length,qi h2],j5 e2 h5 h2 h3 fun σ' e3=>k.nx F2 σ' _ Γ2 (s.trans s2) e3 q'⟩⟩
noncomputable def putD (Γ:G) (i:Nat) (d:D):G:=match Γ[i]? with
 | some (some (.ow _))=>Γ.set i (some (.ow d))
 | some (some (.ln _))=>Γ.set i (some (.ln d))
 | _=>Γ
noncomputable def cm (Γ:G) (i:Nat):Option (List D):=match Γ[i]? with
 | some (some (.ow (.lst xs)))=>some xs
 | some (some (.ln (.lst xs)))=>some xs
 | _=>none
theorem qf {i:Nat} {xs:List D} (h:cm Γ i=some xs):Hld Γ i (.lst xs):=by
 unfold cm at h;split at h
 ·cases h;rename_i q;exact .inl q
 ·cases h;rename_i q;exact .inr q
 ·cases h
theorem En.Ih (e:En K B F σ H Γ) {i:Nat} {d0 d1:D} (hh:Hld Γ i d0) {p:Addr} (hp:σ[i]?=some (some (V.ref p))) {o1:HO} (r:Own K F (upd H p o1) p d1):En K B F σ (upd H p o1) (putD Γ i d1):=by
 obtain⟨p0,a0,b0,c0⟩:=e.hl i _ hh;rw[hp] at a0;cases a0;obtain⟨o,ho⟩:=c0.some;have hput:(Γ[i]?=some (some (Sl.ow d0))/\putD Γ i d1=Γ.set i (some (.ow d1)))\/(Γ[i]?=some (some (Sl.ln d0))/\putD Γ i d1=Γ.set i (some (.ln d1))):=by
  rcases hh with q | q
  ·exact .inl ⟨q,by unfold putD;rw[q]⟩
  ·exact .inr ⟨q,by unfold putD;rw[q]⟩
 have il:i < Γ.length:=by rcases hput with ⟨q,_⟩ | ⟨q,_⟩ <;> exact(gS0 q).1
 have other:∀ {j:Nat},j≠i->(putD Γ i d1)[j]?=Γ[j]?:=fun z=>by
  rcases hput with ⟨_,q⟩ | ⟨_,q⟩ <;> rw[q,aY (Ne.symm z)]
 have same:∀ {s:Sl},(putD Γ i d1)[i]?=some (some s)->(s=.ow d1/\Γ[i]?=some (some (Sl.ow d0)))\/(s=.ln d1/\Γ[i]?=some (some (Sl.ln d0))):=fun {s} q=>by
  rcases hput with ⟨a,b⟩ | ⟨a,b⟩
  ·rw[b,aB il] at q;cases q;exact .inl ⟨rfl,a⟩
  ·rw[b,aB il] at q;cases q;exact .inr ⟨rfl,a⟩
 have hld:∀ {j x},Hld (putD Γ i d1) j x->(j=i/\x=d1)\/(j≠i/\Hld Γ j x):=fun {j x} q=>by
  by_cases z:j=i
  ·subst z
   left
   rcases q with q | q <;> rcases same q with ⟨h,_⟩ | ⟨h,_⟩ <;> cases h <;> exact⟨rfl,rfl⟩
  ·right;exact⟨z,by unfold Hld at q ⊢;rw[other z] at q;exact q⟩
 have hld':∀ {j x},Hld (putD Γ i d1) j x->∃ y,Hld Γ j y:=fun q=>by
  rcases hld q with ⟨rfl,_⟩ | ⟨_,q⟩
  ·exact⟨_,hh⟩
  ·exact⟨_,q⟩
 refine⟨?_,?_,?_,?_,?_,?_,?_,?_,e.keep,e.new,?_,?_⟩
 ·intro b u q;have z:b≠p:=fun z=>by subst z;rw[b0] at q;cases q
  rw[aj z];exact e.sub b u q
 ·rcases hput with ⟨_,q⟩ | ⟨_,q⟩ <;> rw[q,List.length_set] <;> exact e.len
 ·intro j d q;by_cases z:j=i
  ·subst z;rcases same q with ⟨h,_⟩ | ⟨h,_⟩ <;> cases h
  ·rw[other z] at q;exact e.fz j d q
 ·intro j d q;rcases hld q with ⟨rfl,rfl⟩ | ⟨z,q⟩
  ·exact⟨p,hp,b0,r⟩
  ·obtain⟨p',a,b,c⟩:=e.hl j d q;have ne:p'≠p:=fun y=>z (e.dis j i _ _ p q hh (y ▸ a) hp);exact⟨p',a,b,c.mono (aw.refl F) (aj ne)⟩
 ·intro j d p' q a;by_cases z:j=i
  ·subst z;rcases same q with ⟨h,g⟩ | ⟨h,g⟩
   ·exact e.ow j _ p' g a
   ·cases h
  ·rw[other z] at q;exact e.ow j d p' q a
 ·intro j d p' q a;by_cases z:j=i
  ·subst z;rcases same q with ⟨h,g⟩ | ⟨h,g⟩
   ·cases h
   ·exact e.ln j _ p' g a
  ·rw[other z] at q;exact e.ln j d p' q a
 ·intro j k d d' p' q1 q2;obtain⟨y1,h1⟩:=hld' q1;obtain⟨y2,h2⟩:=hld' q2;exact e.dis j k y1 y2 p' h1 h2
 ·intro j p' q;obtain⟨a,d,b⟩:=e.par j p' q;refine⟨a,?_⟩;by_cases z:j=i
  ·subst z;rcases hput with ⟨c,_⟩ | ⟨_,c⟩
   ·rw[b] at c;cases c
   ·exact⟨_,by rw[c,aB il]⟩
  ·exact⟨d,by rw[other z];exact b⟩
 ·intro b u q n;have z:b≠p:=fun z=>by
   subst z;rcases hh with g | g
   ·rw[e.ow i _ _ g hp] at q;cases q
   ·exact n i (e.ln i _ _ g hp)
  rw[aj z];exact e.rest b u q n
 ·intro b q;by_cases z:b=p
  ·subst z;rw[aA] at q;cases q
  ·rw[aj z] at q;exact e.dom b q
theorem En.mut (e:En K B F σ H Γ) {i:Nat} {xs xs':List D} (h:cm Γ i=some xs) {p:Addr} (hp:σ[i]?=some (some (V.ref p))) {vs':List V} (r:au K F xs' vs'):En K B F σ (upd H p (.lst vs')) (putD Γ i (.lst xs')):=
 e.Ih (qf h) hp ⟨vs',aA,r⟩
end
section
variable {K:Fg0} {X:Cx} {B:Bs} {F H:Hp} {σ:L2.St} {Γ:G} {pos:Pos}
noncomputable def newD:On->G->Nat->Option D
 | some j'::ls,s::cs,j=>if j'=j then (match s with
   | some (.ln d)=>some d
   | _=>newD ls cs j) else newD ls cs j
 | none::ls,_::cs,j=>newD ls cs j
 | _,_,_=>none
theorem c9:∀ {ls:On} {cs:G} {j:Nat} {d:D},newD ls cs j=some d->∃ k:Nat,ls[k]?=some (some j)/\cs[k]?=some (some (Sl.ln d))
 | some j'::ls,s::cs,j,d,h=>by
  unfold newD at h;split at h
  ·rename_i e;subst e;split at h
   ·cases h;exact⟨0,rfl,rfl⟩
   ·obtain⟨k,a,b⟩:=c9 h;exact⟨k + 1,by simpa using a,by simpa using b⟩
  ·obtain⟨k,a,b⟩:=c9 h;exact⟨k + 1,by simpa using a,by simpa using b⟩
 | none::ls,_::cs,j,d,h=>by
  unfold newD at h;obtain⟨k,a,b⟩:=c9 h;exact⟨k + 1,by simpa using a,by simpa using b⟩
 | [],_,_,_,h=>by unfold newD at h;cases h
 | some _::_,[],_,_,h=>by unfold newD at h;cases h
 | none::_,[],_,_,h=>by unfold newD at h;cases h
theorem nr:∀ {ls:On} {cs:G} {j k:Nat} {d:D},ls[k]?=some (some j)->cs[k]?=some (some (Sl.ln d))->∃ d',newD ls cs j=some d'
 | [],_,_,_,_,h,_=>by simp at h
 | _::_,[],_,_,_,_,h=>by simp at h
 | some j'::ls,s::cs,j,0,d,h,h'=>by
  simp at h h';subst h h';exact⟨d,by unfold newD;rw[if_pos rfl]⟩
 | none::ls,s::cs,j,0,d,h,h'=>by simp at h
 | some j'::ls,s::cs,j,k + 1,d,h,h'=>by
  unfold newD;split
  ·split
   ·exact⟨_,rfl⟩
   ·exact nr (k:=k) (by simpa using h) (by simpa using h')
  ·exact nr (k:=k) (by simpa using h) (by simpa using h')
 | none::ls,s::cs,j,k + 1,d,h,h'=>by
  unfold newD;exact nr (k:=k) (by simpa using h) (by simpa using h')
noncomputable def eE (n:Option D):Option Sl->Option Sl
 | some (.ow d)=>some (.ow (n.getD d))
 | some (.ln d)=>some (.ln (n.getD d))
 | s=>s
noncomputable def bK (ls:On) (Γ cs:G):G:=Γ.mapIdx fun j s=>eE (newD ls cs j) s
theorem cy {ls:On} {cs:G} {j:Nat}:(bK ls Γ cs)[j]?=(Γ[j]?).map (eE (newD ls cs j)):=by
 unfold bK;rw[List.getElem?_mapIdx]
theorem En.back {F1 H1:Hp} {own':List (Nat×Addr)} {σc:L2.St} {Γc:G} {ls:On} (e:En K B F1 σ H1 Γ) (e2:En K ⟨F1,H1,own'⟩ F σc H Γc)
  (h1:∀ k p,(k,p)∈own'->∃ j d,ls[k]?=some (some j)/\Hld Γ j d/\σ[j]?=some (some (V.ref p))):En K B F σ H (bK ls Γ Γc):=by
 have gfz:∀ {j d},(bK ls Γ Γc)[j]?=some (some (Sl.fz d))->Γ[j]?=some (some (Sl.fz d)):=fun {j d} q=>by
  rw[cy] at q;cases w:Γ[j]? with
  | none=>rw[w] at q;cases q
  | some s=>
   rw[w] at q;cases s with
   | none=>cases q
   | some s=>cases s <;> cases q;rfl
 have gow:∀ {j d},(bK ls Γ Γc)[j]?=some (some (Sl.ow d))->∃ d0,Γ[j]?=some (some (Sl.ow d0))/\d=(newD ls Γc j).getD d0:=fun {j d} q=>by
  rw[cy] at q;cases w:Γ[j]? with
  | none=>rw[w] at q;cases q
  | some s=>
   rw[w] at q;cases s with
   | none=>cases q
   | some s=>cases s <;> cases q;exact⟨_,rfl,rfl⟩
 have gln:∀ {j d},(bK ls Γ Γc)[j]?=some (some (Sl.ln d))->∃ d0,Γ[j]?=some (some (Sl.ln d0))/\d=(newD ls Γc j).getD d0:=fun {j d} q=>by
  rw[cy] at q;cases w:Γ[j]? with
  | none=>rw[w] at q;cases q
  | some s=>
   rw[w] at q;cases s with
   | none=>cases q
   | some s=>cases s <;> cases q;exact⟨_,rfl,rfl⟩
 have gh:∀ {j d},Hld (bK ls Γ Γc) j d->∃ d0,Hld Γ j d0/\d=(newD ls Γc j).getD d0:=fun {j d} q=>by
  rcases q with q | q
  ·obtain⟨d0,a,b⟩:=gow q;exact⟨d0,.inl a,b⟩
  ·obtain⟨d0,a,b⟩:=gln q;exact⟨d0,.inr a,b⟩
 refine⟨e2.sub,by unfold bK;rw[List.length_mapIdx];exact e.len,?_,?_,?_,?_,?_,?_,e.keep.trans e2.keep,?_,?_,?_⟩
 ·intro j d q;obtain⟨v,a,b⟩:=e.fz j d (gfz q);exact⟨v,a,b.mono e2.keep⟩
 ·intro j d q;obtain⟨d0,w0,rfl⟩:=gh q;obtain⟨p,a,b,c⟩:=e.hl j d0 w0;obtain⟨o,ho⟩:=c.some;have fp:F p=none:=by
   cases w:F p with
   | none=>rfl
   | some u=>
    rcases e2.new p u w with z | z
    ·rw[show F1 p=some u from z] at b;cases b
    ·rw[show H1 p=none from z] at ho;cases ho
  refine⟨p,a,fp,?_⟩;cases w:newD ls Γc j with
  | some d'=>
   obtain⟨k,x,y⟩:=c9 w;obtain⟨p',a',b',c'⟩:=e2.hl k d' (.inr y);obtain⟨j2,d2,x2,_,a2⟩:=h1 k p' (e2.ln k d' p' y a');rw[x] at x2;cases x2;rw[a] at a2;cases a2;exact c'
  | none=>
   have hk:∀ k,(k,p)∉own':=fun k hk=>by
    obtain⟨j2,d2,x2,q2,a2⟩:=h1 k p hk;obtain⟨_,d3,y⟩:=e2.par k p hk;have:j2=j:=e.dis j2 j d2 d0 p q2 w0 a2 a;subst this;obtain⟨d4,z⟩:=nr x2 y;rw[w] at z;cases z
   have hp:H p=H1 p:=by rw[ho];exact e2.rest p o ho hk
   exact c.mono e2.keep hp
 ·intro j d p q a;obtain⟨d0,q,_⟩:=gow q;exact e.ow j d0 p q a
 ·intro j d p q a;obtain⟨d0,q,_⟩:=gln q;exact e.ln j d0 p q a
 ·intro i j d d' p q1 q2;obtain⟨d0,q1,_⟩:=gh q1;obtain⟨d1,q2,_⟩:=gh q2;exact e.dis i j d0 d1 p q1 q2
 ·intro j p q;obtain⟨a,d,b⟩:=e.par j p q;exact⟨a,_,by rw[cy,b];rfl⟩
 ·intro b o q;rcases e2.new b o q with z | z
  ·exact e.new b o z
  ·exact .inr (e.dom b z)
 ·intro b o q n;have q1:=e.rest b o q n;refine e2.rest b o q1 fun k hk=>?_;obtain⟨j,d,x,y,a⟩:=h1 k b hk;rcases y with y | y
  ·rw[e.ow j d b y a] at q;cases q
  ·exact n j (e.ln j d b y a)
 ·intro b q;exact e.dom b (e2.dom b q)
structure ItR (K:Fg0) (F:Hp) (J:It) (xs:List D):Prop where
 go:∀ i H',aw F H'->i < xs.length->J.go i H'
 stop:∀ i H',aw F H'->i=xs.length->J.stop i H'
 yld:∀ i H' x H'' d,aw F H'->xs[i]?=some d->J.yld i H' x H''->(H''=H'/\Rep K F d x)\/∃ t vs ds,H' t=none/\H''=upd H' t (.tup vs)/\x=.ref t/\au K F ds vs/\d=.tup ds
abbrev TI3:=G->(List D->G->Prop)->Prop
def BM (K:Fg0) (t:TI) (i3:TI3):Prop:=∀ (B:Bs) (F:Hp) (σ:L2.St) (H:Hp) (Γ:G) (Q:List D->G->Prop) (R:It->Hp->Prop),En K B F σ H Γ->i3 Γ Q->(∀ J H1 F1 Γ1 xs,aw F F1->En K B F1 σ H1 Γ1->ItR K F1 J xs->Q xs Γ1->R J H1)->t σ H R
structure P3I (K:Fg0) (X:Cx) (tg iter:Expr) (t:TI) (i3:TI3):Prop where
 pe:PI X tg iter t
 rf:BM K t i3
abbrev TG3:=D->G->(G->Prop)->Prop
def yL (K:Fg0) (g:TG) (g3:TG3):Prop:=∀ (B:Bs) (F:Hp) (σ:L2.St) (H:Hp) (Γ:G) (v:V) (d:D) (Q:G->Prop) (QQ:L2.St->Hp->Prop),En K B F σ H Γ->Rep K F d v->g3 d Γ Q->(∀ σ' Γ',En K B F σ' H Γ'->Q Γ'->QQ σ' H)->g v σ H QQ
structure P3G (K:Fg0) (X:Cx) (tg:Expr) (g:TG) (g3:TG3):Prop where
 pe:PG X tg g
 rf:yL K g g3
def tgN (i:Nat) (d:D) (Γ:G) (Q:G->Prop):Prop:=bY Γ i/\Q (Γ.set i (some (.fz d)))
def tgT (is:List Nat) (d:D) (Γ:G) (Q:G->Prop):Prop:=∃ ds Γ',d=.tup ds/\gives Γ is ds=some Γ'/\frees Γ is ds/\Q Γ'
theorem aT {i:Nat} {x:Str} (hN:X.N.Nodup) (hi:X.N[i]?=some x) (hx:Loc X.env.scope x) (hf:X.fn x=true\/X.env.scope.names.lookup x=some .local:=by first | exact .inl rfl | exact .inr rfl | assumption):P3G K X (.Name x pos) (cS i) (tgN i):=
 ⟨ay hN hi hx hf,fun B F σ H Γ v d Q QQ e r q k=>k _ _ (e.set (r:=.fz d) q.1 r) q.2⟩
theorem dC {es:List Expr} {kt:Nat} {is:List Nat} (hK:X.K=K) (hg:PGs X es (iH is)) (hc:X.calm=true) (hn:autoParam ((assignEach es X.env).length=is.length) wE) (hst:autoParam ((assignEach es X.env).findIdx? (·.1)=none) wE) :
  P3G K X (.Tuple es kt pos) (AH K is.length (iH is)) (tgT is):=⟨by subst hK;exact rj hc hg hn hst,fun B F σ H Γ v d Q QQ e r q k=>by
 obtain⟨ds,Γ',rfl,h1,h2,q⟩:=q;obtain⟨p,vs,rfl,h4,h5⟩:=r;exact⟨p,vs,rfl,.inl (.inl (e.sub _ _ h4)),by rw[h5.length,qi h1],j5 e h5 h1 h2 fun σ' e'=>k σ' Γ' e' q⟩⟩
theorem ItR.turn {J:It} {xs:List D} (R:ItR K F J xs) {F' H' H'':Hp} (s:aw F F') (e:En K B F' σ H' Γ) {i:Nat} {d:D} {x:V} (hd:xs[i]?=some d) (y:J.yld i H' x H''):∃ F2,aw F' F2/\En K B F2 σ H'' Γ/\Rep K F2 d x:=by
 rcases R.yld i H' x H'' d (s.trans e.sub) hd y with ⟨rfl,r⟩ | ⟨t,vs,ds,h1,rfl,rfl,r,rfl⟩
 ·exact⟨F',aw.refl F',e,r.mono s⟩
 ·exact⟨upd F' t (.tup vs),br (e.nof h1),(e.alloc h1 _).freeze (e.nof h1) aA (e.dom _ h1) (e.tM h1),t,vs,rfl,aA,r.mono (s.trans (br (e.nof h1)))⟩
def GL (i3:TI3) (g3:TG3) (b3:TS3) (D:E3) (Γ:G):Prop:=i3 Γ fun xs Γ1=>∃ Iv:Nat->G->Prop,Iv 0 Γ1/\(∀ k d Γ,xs[k]?=some d->Iv k Γ->g3 d Γ fun Γ'=>b3 { D with nx:=Iv (k + 1),ct:=Iv (k + 1),bk:=D.nx } Γ')/\∀ Γ,Iv xs.length Γ->D.nx Γ
theorem fg {tg iter:Expr} {body:List Stmt} {wi:TI} {i3:TI3} {g:TG} {g3:TG3} {tb:TS} {b3:TS3} (hp:PassesOwn (model X.prog X.w) X.A X.env X.xe) (hc:X.calm=true) (hi:P3I K X tg iter wi i3) (hg:P3G K X tg g g3) (hb:pf K X body tb b3) (hs:autoParam (∀ x,foldedSetIterable iter X.env x=pure x) wT) :
  P3S K X (.For tg iter body [] pos) (EF wi g tb) (GL i3 g3 b3):=⟨zJ hp hc hi.pe hg.pe hb.pe hs,fun B F σ H Γ D D3 e k q=>by
 refine hi.rf B F σ H Γ _ _ e q fun J H1 F1 Γ1 xs s1 e1 R Z=>?_;obtain⟨Iv,i0,it,ie⟩:=Z;refine⟨fun i m σ H=>m=xs.length - i/\i<=xs.length/\∃ F' Γ',aw F1 F'/\En K B F' σ H Γ'/\Iv i Γ',⟨_,rfl,Nat.zero_le _,F1,Γ1,aw.refl _,e1,i0⟩,?_⟩;rintro i m σ2 H2 ⟨rfl,hi',F2,Γ2,s2,e2,iv⟩;by_cases lt:i < xs.length
 ·refine .inr ⟨R.go i H2 (s2.trans e2.sub) lt,fun σ' H'=>∃ F' Γ',aw F1 F'/\En K B F' σ' H' Γ'/\Iv (i + 1) Γ',fun σ' H' ⟨F',Γ',a,b,c⟩=>⟨xs.length - (i + 1),by lia,rfl,lt,F',Γ',a,b,c⟩,fun x H3 y=>?_⟩;have hd:xs[i]?=some xs[i]:=gE0 lt;obtain⟨F3,s3,e3,r3⟩:=R.turn s2 e2 hd y;refine hg.rf B F3 σ2 H3 Γ2 x _ _ _ e3 r3 (it i _ Γ2 hd iv) fun σ' Γ' e4 q4=>?_;have s4:=s2.trans s3;refine hb.rf B F3 σ' H3 Γ' _ { D3 with nx:=Iv (i + 1),ct:=Iv (i + 1),bk:=D3.nx } e4 ⟨fun F' σ' H' Γ' s e q=>⟨F',Γ',s4.trans s,e,q⟩,fun F' σ' H' Γ' v r s e rv q=>k.rt F' σ' H' Γ' v r ((s1.trans s4).trans s) e rv q,fun F' σ' H' Γ' s e q=>k.nx F' σ' H' Γ' ((s1.trans s4).trans s) e q,fun F' σ' H' Γ' s e q=>⟨F',Γ',s4.trans s,e,q⟩⟩ q4
 ·have z:i=xs.length:=by lia
  subst z;exact .inl ⟨R.stop _ H2 (s2.trans e2.sub) rfl,k.nx F2 σ2 H2 Γ2 (s1.trans s2) e2 (ie Γ2 iv)⟩⟩
def iL3 (a3:TE3) (Γ:G) (Q:List D->G->Prop):Prop:=a3 Γ fun r Γ1=>∃ xs,r.d=.lst xs/\Q xs Γ1
theorem bP {tg l:Expr} {tl:TE} {l3:TE3} (hK:X.K=K) (h:P3 K X l tl l3):P3I K X tg l (D7 K tl) (iL3 l3):=⟨by subst hK;exact Co h.pe,fun B F σ H Γ Q R e q k=>
 h.rf B F σ H Γ _ _ e q fun v H' Z=>by
  obtain⟨F',Γ',r,s,e',rv,xs,hx,q'⟩:=Z;obtain⟨F2,s2,e2,r2⟩:=e'.frozen rv;rw[hx] at r2;obtain⟨p,vs,rfl,h1,h2⟩:=r2;refine⟨p,rfl,⟨vs,SqL.of (e2.sub _ _ h1)⟩,k _ H' F2 Γ' xs (s.trans s2) e2 ⟨fun i H'' sm lt=>?_,fun i H'' sm ei=>?_,fun i H'' x H3 d sm hd y=>?_⟩ q'⟩
  ·rw[<- h2.length] at lt;exact⟨vs,vs[i],SqL.of (sm _ _ h1),by simp [lt]⟩
  ·exact⟨vs,SqL.of (sm _ _ h1),by rw[h2.length];lia⟩
  ·obtain⟨e1,y⟩:=y;obtain⟨d',hd',r⟩:=h2.AG (y vs (SqL.of (sm _ _ h1)));rw[hd] at hd';cases hd';exact .inl ⟨e1,r⟩⟩
noncomputable def rng (lo:Int) (n:Nat):List D:=(List.range n).map fun (k:Nat)=>D.int (lo + (k:Int))
theorem HE {lo:Int} {n:Nat}:ItR K F (Itr lo n) (rng lo n):=by
 have hl:(rng lo n).length=n:=by simp [rng]
 refine⟨fun i H' _ lt=>by rw[hl] at lt;exact lt,fun i H' _ e=>by rw[hl] at e;exact Nat.le_of_eq e.symm,fun i H' x H'' d _ hd y=>?_⟩;obtain⟨e1,e2⟩:=y;subst e1 e2;refine .inl ⟨rfl,?_⟩;have hi:i < n:=by have:=(gS0 hd).1;rw[hl] at this;exact this
 have:(rng lo n)[i]?=some (.int (lo + i)):=by unfold rng;rw[List.getElem?_map,List.getElem?_range hi];rfl
 rw[this] at hd;cases hd
 rfl
def iR1 (t3:TA3) (Γ:G) (Q:List D->G->Prop):Prop:=t3 Γ fun ds Γ1=>∃ j:Int,ds=[.int j]/\-(2 ^ 62)<=j/\j < 2 ^ 62/\Q (rng 0 j.toNat) Γ1
theorem a8 {tg a:Expr} {ta:TA} {a3:TA3} {p pos:Pos} (hg:Gl X "range") (hm:X.mg "range"=none) (ha:P3A K X [a] ta a3) (hs:autoParam (starEach [a] X.env=[(false,eval a X.env)]) wE):P3I K X tg (.Call (.Name "range" p) [a] [] pos) (D5 ta) (iR1 a3):=⟨ya hg hm ha.pe hs,fun B F σ H Γ Q R e q k=>
 ha.rf B F σ H Γ _ _ e q fun vs H' Z=>by
  obtain⟨F',Γ',ds,s,e',rv,j,h1,h2,h3,q'⟩:=Z;subst h1;obtain⟨v,ws,rfl,r1,r2⟩:=rv;cases r1;cases r2;exact⟨j,rfl,h2,h3,k _ H' F' Γ' _ s e' HE q'⟩⟩
theorem qI {p:Addr} {vs:List V} (h:H p=some (.lst vs)):tyV K "list" (.ref p) H:=.inl ⟨rfl,_,SqL.of h⟩
theorem En.cm (e:En K B F σ H Γ) {i:Nat} {xs:List D} (h:cm Γ i=some xs):∃ p vs,σ[i]?=some (some (V.ref p))/\H p=some (.lst vs)/\au K F xs vs:=by
 obtain⟨p,a,b,vs,c,d⟩:=e.hl i _ (qf h);exact⟨p,vs,a,c,d⟩
def GZ (i:Nat) (e3:TE3) (Γ:G) (Q:RV->G->Prop):Prop:=(∃ xs,cm Γ i=some xs)/\e3 Γ fun r Γ1=>∃ xs,cm Γ1 i=some xs/\xs.length < sizeLine/\Q (.fz .non) (putD Γ1 i (.lst (xs++[r.d])))
theorem Cb {te:TE} {e3:TE3} (i:Nat) (h:Ref K te e3):Ref K (tBM K "list" qY (cX i) (nG te nF)) (GZ i e3):=by
 intro B F σ H Γ Q QQ e ⟨⟨xs0,h0⟩,q⟩ k;obtain⟨p,vs0,a0,b0,_⟩:=e.cm h0;refine⟨_,a0,qI b0,h B F σ H Γ _ _ e q fun v H' Z=>?_⟩;obtain⟨F',Γ',r,s,e',rv,xs,hx,hz,q'⟩:=Z;obtain⟨F2,s2,e2,r2⟩:=e'.frozen rv;obtain⟨p',vs,a,b,c⟩:=e2.cm hx;rw[a0] at a;cases a;exact⟨p,vs,v,rfl,rfl,b,by rw[c.length];exact hz,k _ _ ⟨F2,_,.fz .non,s.trans s2,e2.mut hx a0 (au.append (ys:=[r.d]) c ⟨v,[],rfl,r2,rfl⟩),rfl,q'⟩⟩
def ext3 (i:Nat) (b3:TB3) (Γ:G) (Q:RV->G->Prop):Prop:=(∃ xs,cm Γ i=some xs)/\b3 Γ fun r Γ1=>∃ xs ys,cm Γ1 i=some xs/\r.at Γ1=some (.lst ys)/\xs.length + ys.length<=sizeLine/\Q (.fz .non) (putD Γ1 i (.lst (xs++ys)))
theorem Ca {te:TE} {e3:TB3} (i:Nat) (h:pd K te e3):Ref K (tBM K "list" qX (cX i) (nG te nF)) (ext3 i e3):=by
 intro B F σ H Γ Q QQ e ⟨⟨xs0,h0⟩,q⟩ k;obtain⟨p,vs0,a0,b0,_⟩:=e.cm h0;refine⟨_,a0,qI b0,h B F σ H Γ _ _ e q fun v H' Z=>?_⟩;obtain⟨F2,Γ',r,s,e2,rv,xs,ys,hx,hy,hz,q'⟩:=Z;obtain⟨p2,ws,rfl,b2,c2⟩:=e2.bo rv hy;obtain⟨p',vs,a,b,c⟩:=e2.cm hx;rw[a0] at a;cases a;exact⟨p,p2,vs,ws,rfl,rfl,b,b2,by rw[c.length,c2.length];exact hz,k _ _ ⟨F2,_,.fz .non,s,e2.mut hx a0 (c.append c2),rfl,q'⟩⟩
def Ew (i:Nat) (f:List D->List D) (Γ:G) (Q:RV->G->Prop):Prop:=∃ xs,cm Γ i=some xs/\Q (.fz .non) (putD Γ i (.lst (f xs)))
theorem xY (i:Nat):Ref K (EG K "list" uV (cX i)) (Ew i fun _=>[]):=by
 intro B F σ H Γ Q QQ e ⟨xs0,h0,q⟩ k;obtain⟨p,vs0,a0,b0,c0⟩:=e.cm h0;exact⟨_,a0,qI b0,p,vs0,rfl,rfl,b0,k _ _ ⟨F,_,.fz .non,aw.refl F,e.mut h0 a0 (xs':=[]) rfl,rfl,q⟩⟩
variable {o e:Expr} {te:TE} {e3:TE3} {eb:TB3} {apos cpos:Pos}
theorem lU (i:Nat) {x:Str} {px:Pos} (hK:X.K=K) (hx:P3B K X (.Name x px) (cX i) (bor i)) (he:P3 K X e te e3) (hbase:autoParam (attributeBase (.Name x px) "append" X.env (eval (.Name x px) X.env)=eval (.Name x px) X.env) wE)
  (hfew:((backTo cpos (starEach [e] X.env)).all (fun x=>!x.1) && (backToKw cpos (keywordEach [] X.env)).all (fun x=>x.1.isSome)
   && decide ([e].length + ([]:List Keyword).length + (if ([]:List Keyword).isEmpty then 0 else 1) < 30))=true:=by rfl)
  (hline:autoParam ((apos.endLine == cpos.line)=true) wE) (hs:autoParam (starEach [e] X.env=(false,eval e X.env)::starEach [] X.env) wE) (hplain:autoParam ((backTo cpos (starEach [] X.env)).any (·.1)=false) wE) :
  P3 K X (.Call (.Attribute (.Name x px) "append" apos) [e] [] cpos) (tBM K "list" qY (cX i) (nG te nF)) (GZ i e3):=
 ⟨by subst hK;exact DP PySem.F.plainAttrs_list PySem.F.slot_list_append PySem.F.type_list_append ym hx.pe (nq he.pe rz hs) hbase hfew hline hs hplain,Cb i he.rf⟩
theorem p_ (i:Nat) {x:Str} {px:Pos} (hK:X.K=K) (hx:P3B K X (.Name x px) (cX i) (bor i)) (he:P3B K X e te eb) (hbase:autoParam (attributeBase (.Name x px) "extend" X.env (eval (.Name x px) X.env)=eval (.Name x px) X.env) wE)
  (hfew:((backTo cpos (starEach [e] X.env)).all (fun x=>!x.1) && (backToKw cpos (keywordEach [] X.env)).all (fun x=>x.1.isSome)
   && decide ([e].length + ([]:List Keyword).length + (if ([]:List Keyword).isEmpty then 0 else 1) < 30))=true:=by rfl)
  (hline:autoParam ((apos.endLine == cpos.line)=true) wE) (hs:autoParam (starEach [e] X.env=(false,eval e X.env)::starEach [] X.env) wE) (hplain:autoParam ((backTo cpos (starEach [] X.env)).any (·.1)=false) wE) :
  P3 K X (.Call (.Attribute (.Name x px) "extend" apos) [e] [] cpos) (tBM K "list" qX (cX i) (nG te nF)) (ext3 i eb):=
 ⟨by subst hK;exact DP PySem.F.plainAttrs_list PySem.F.slot_list_extend PySem.F.type_list_extend yk hx.pe (nq he.pe rz hs) hbase hfew hline hs hplain,Ca i he.rf⟩
theorem zZ (i:Nat) {x:Str} {px:Pos} (hK:X.K=K) (hx:P3B K X (.Name x px) (cX i) (bor i)) (hbase:autoParam (attributeBase (.Name x px) "clear" X.env (eval (.Name x px) X.env)=eval (.Name x px) X.env) wE) (hline:autoParam ((apos.endLine == cpos.line)=true) wE) :
  P3 K X (.Call (.Attribute (.Name x px) "clear" apos) [] [] cpos) (EG K "list" uV (cX i)) (Ew i fun _=>[]):=
 ⟨by subst hK;exact Fo PySem.F.plainAttrs_list PySem.F.slot_list_clear PySem.F.type_list_clear Aj hx.pe hbase hline,xY i⟩
def wA (i:Nat) (k3:TB3) (e3:TE3) (D:E3) (Γ:G):Prop:=e3 Γ fun r Γ1=>(∃ xs,cm Γ1 i=some xs)/\k3 Γ1 fun b Γ2=>∃ xs k j,cm Γ2 i=some xs/\b.at Γ2=some (.int k)/\ixN xs.length k=some j/\D.nx (putD Γ2 i (.lst (xs.set j r.d)))
theorem B0 (i:Nat) {x:Str} {px p2:Pos} {k:Expr} {tk:TE} {k3:TB3} (hx:P3B K X (.Name x px) (cX i) (bor i)) (hk:P3B K X k tk k3) (he:P3 K X e te e3) (pe:PS X (.Assign [.Subscript (.Name x px) k p2] e pos) (eZ te (yC (cX i) tk p8))) :
  P3S K X (.Assign [.Subscript (.Name x px) k p2] e pos) (eZ te (yC (cX i) tk p8)) (wA i k3 e3):=⟨pe,fun B F σ H Γ D D3 e k q=>
 he.rf B F σ H Γ _ _ e q fun v H' Z=>by
  obtain⟨F',Γ',r,s,e',rv,⟨xs0,h0⟩,q'⟩:=Z;obtain⟨F2,s2,e2,r2⟩:=e'.frozen rv;obtain⟨p,vs0,a0,b0,_⟩:=e2.cm h0;refine⟨_,a0,hk.rf B F2 σ H' Γ' _ _ e2 q' fun u H2 Z=>?_⟩;obtain⟨F3,Γ3,bo,s3,e3,rb,xs,kk,j,hx,hb,hj,q3⟩:=Z;obtain⟨p',vs,a,b,c⟩:=e3.cm hx;rw[a0] at a;cases a;have hu:u=.int kk:=e3.bo rb hb;exact⟨p,vs,kk,j,rfl,hu,b,by rw[c.length];exact hj,k.nx F3 σ _ _ ((s.trans s2).trans s3) (e3.mut hx a0 (au.set (r2.mono s3) j c)) q3⟩⟩
end
section
variable {K:Fg0} {X:Cx} {B:Bs} {F H:Hp} {σ:L2.St} {Γ:G} {pos:Pos}
noncomputable def eF:Option (Option Sl)->Option Sl
 | some (some (.fz d))=>some (.fz d)
 | some (some (.ow d))=>some (.ln d)
 | some (some (.ln d))=>some (.ln d)
 | _=>none
noncomputable def l9 (Γ:G):Bo->Option Sl
 | .d x=>some (.fz x)
 | .v i=>eF Γ[i]?
noncomputable def cz:Option Bo->Option Nat
 | some (.v i)=>some i
 | _=>none
noncomputable def z_ (Γ:G) (σ:L2.St) (k:Nat):Option Bo->Option (Nat×Addr)
 | some (.v i)=>match Γ[i]?,σ[i]? with
  | some (some (.ow _)),some (some (.ref p))=>some (k,p)
  | some (some (.ln _)),some (some (.ref p))=>some (k,p)
  | _,_=>none
 | _=>none
noncomputable def ownOf (Γ:G) (σ:L2.St) (bs:List (Option Bo)):List (Nat×Addr):=(List.range bs.length).filterMap fun k=>(bs[k]?).bind (z_ Γ σ k)
theorem ji {bs:List (Option Bo)} {k:Nat} {p:Addr}:(k,p)∈ownOf Γ σ bs↔∃ i d,bs[k]?=some (some (Bo.v i))/\Hld Γ i d/\σ[i]?=some (some (V.ref p)):=by
 unfold ownOf;rw[List.mem_filterMap];constructor
 ·rintro⟨k',_,h⟩;cases q:bs[k']? with
  | none=>rw[q] at h;cases h
  | some o=>
   rw[q] at h;change z_ Γ σ k' o=some (k,p) at h;unfold z_ at h;split at h
   ·rename_i i;split at h
    ·rename_i d p' h1 h2;cases h;exact⟨i,d,q,.inl h1,h2⟩
    ·rename_i d p' h1 h2;cases h;exact⟨i,d,q,.inr h1,h2⟩
    ·cases h
   ·cases h
 ·rintro⟨i,d,h1,h2,h3⟩;refine⟨k,List.mem_range.mpr (gS0 h1).1,?_⟩;rw[h1];show z_ Γ σ k (some (Bo.v i))=_;unfold z_;rcases h2 with h2 | h2
  ·simp only[h2,h3]
  ·simp only[h2,h3]
noncomputable def c7 (Γ:G) (bs:List (Option Bo)):G:=bs.map fun o=>o.bind (l9 Γ)
theorem gF {bs:List (Option Bo)} {k:Nat} {s:Sl}:(c7 Γ bs)[k]?=some (some s)↔∃ bo,bs[k]?=some (some bo)/\l9 Γ bo=some s:=by
 unfold c7;rw[List.getElem?_map];constructor
 ·intro h;cases q:bs[k]? with
  | none=>rw[q] at h;cases h
  | some o=>
   rw[q] at h;cases o with
   | none=>cases h
   | some bo=>exact⟨bo,rfl,by simpa using h⟩
 ·rintro⟨bo,h1,h2⟩;rw[h1];simp [h2]
theorem Dr {bo:Bo} {d:D} (h:l9 Γ bo=some (.ln d)):∃ i,bo=.v i/\Hld Γ i d:=by
 cases bo with
 | d x=>cases h
 | v i=>
  change eF Γ[i]?=_ at h;unfold eF at h;split at h
  ·cases h
  ·cases h;rename_i q;exact⟨i,rfl,.inl q⟩
  ·cases h;rename_i q;exact⟨i,rfl,.inr q⟩
  ·cases h
theorem Ds {bo:Bo} {d:D} (h:l9 Γ bo=some (.fz d)):bo=.d d\/∃ i,bo=.v i/\Γ[i]?=some (some (Sl.fz d)):=by
 cases bo with
 | d x=>cases h;exact .inl rfl
 | v i=>
  change eF Γ[i]?=_ at h;unfold eF at h;split at h
  ·cases h;rename_i q;exact .inr ⟨i,rfl,q⟩
  ·cases h
  ·cases h
  ·cases h
theorem su {bo:Bo} {d:D}:l9 Γ bo≠some (.ow d):=by
 intro h;cases bo with
 | d x=>cases h
 | v i=>change eF Γ[i]?=_ at h;unfold eF at h;split at h <;> cases h
theorem nC {bs:List (Option Bo)}:∀ (k:Nat) (d:D),(c7 Γ bs)[k]?≠some (some (Sl.ow d)):=fun k d h=>by
 obtain⟨bo,_,h⟩:=gF.mp h;exact su h
theorem En.inner (e:En K B F σ H Γ) {bs:List (Option Bo)} {σc:L2.St} (hl:σc.length=bs.length) (hσ:∀ (k:Nat) (bo:Bo) (s:Sl),bs[k]?=some (some bo)->l9 Γ bo=some s->∃ v,σc[k]?=some (some v)/\mR K F σ bo v)
  (nd:∀ (k k' i:Nat),bs[k]?=some (some (Bo.v i))->bs[k']?=some (some (Bo.v i))->k=k'):En K ⟨F,H,ownOf Γ σ bs⟩ F σc H (c7 Γ bs):=by
 have held:∀ {k d},Hld (c7 Γ bs) k d->∃ i p,bs[k]?=some (some (Bo.v i))/\Hld Γ i d/\σ[i]?=some (some (V.ref p))/\σc[k]?=some (some (V.ref p)):=fun {k d} q=>by
  rcases q with q | q
  ·obtain⟨bo,h1,h2⟩:=gF.mp q;exact absurd h2 su
  ·obtain⟨bo,h1,h2⟩:=gF.mp q;obtain⟨v,h3,h4⟩:=hσ k bo _ h1 h2;obtain⟨i,rfl,h5⟩:=Dr h2;obtain⟨p,h6,_⟩:=e.hl i d h5;rw[show σ[i]?=some (some v) from h4] at h6;cases h6;exact⟨i,p,h1,h5,h4,h3⟩
 refine⟨e.sub,by unfold c7;rw[lM0];exact hl,?_,?_,?_,?_,?_,?_,aw.refl F,fun b o h=>.inl h,fun b o h _=>h,fun b h=>h⟩
 ·intro k d q;obtain⟨bo,h1,h2⟩:=gF.mp q;obtain⟨v,h3,h4⟩:=hσ k bo _ h1 h2;refine⟨v,h3,?_⟩;rcases Ds h2 with rfl | ⟨i,rfl,h5⟩
  ·exact h4
  ·obtain⟨u,h6,h7⟩:=e.fz i d h5;rw[show σ[i]?=some (some v) from h4] at h6;cases h6;exact h7
 ·intro k d q;obtain⟨i,p,h1,h2,h3,h4⟩:=held q;obtain⟨p',h5,h6,h7⟩:=e.hl i d h2;rw[h3] at h5;cases h5;exact⟨p,h4,h6,h7⟩
 ·intro k d p q;obtain⟨bo,h1,h2⟩:=gF.mp q;exact absurd h2 su
 ·intro k d p q a;obtain⟨i,p',h1,h2,h3,h4⟩:=held (.inr q);rw[a] at h4;cases h4;exact ji.mpr ⟨i,d,h1,h2,h3⟩
 ·intro k k' d d' p q1 q2 a1 a2;obtain⟨i,p1,h1,h2,h3,h4⟩:=held q1;obtain⟨i',p2,h1',h2',h3',h4'⟩:=held q2;rw[a1] at h4;cases h4;rw[a2] at h4';cases h4';have:=e.dis i i' d d' p h2 h2' h3 h3';subst this;exact nd k k' i h1 h1'
 ·intro k p q;obtain⟨i,d,h1,h2,h3⟩:=ji.mp q;have ha:l9 Γ (.v i)=some (.ln d):=by
   show eF Γ[i]?=_;rcases h2 with h2 | h2 <;> rw[h2] <;> rfl
  obtain⟨v,h4,h5⟩:=hσ k _ _ h1 ha;rw[show σ[i]?=some (some v) from h5] at h3;cases h3;exact⟨h4,d,gF.mpr ⟨_,h1,ha⟩⟩
theorem kq {bs:List (Option Bo)}:∀ k p,(k,p)∈ownOf Γ σ bs->∃ j d,(bs.map cz)[k]?=some (some j)/\Hld Γ j d/\σ[j]?=some (some (V.ref p)):=fun k p h=>by
 obtain⟨i,d,h1,h2,h3⟩:=ji.mp h;exact⟨i,d,by rw[List.getElem?_map,h1];rfl,h2,h3⟩
noncomputable def cT (fr:On):List (Option Bo):=fr.map fun o=>o.map Bo.v
def qv (fr:On) (i3:TI3) (g3:TG3) (e3:TE3) (Γ:G) (Q:RV->G->Prop):Prop:=i3 Γ fun xs Γ1=>xs.length < sizeLine/\∃ Iv:Nat->List D->G->Prop,Iv 0 [] (c7 Γ1 (cT fr))/\
 (∀ k d ys Γc,xs[k]?=some d->ys.length=k->Iv k ys Γc->g3 d Γc fun Γ2=>e3 Γ2 fun r Γ3=>Iv (k + 1) (ys++[r.d]) Γ3)/\∀ ys Γc,ys.length=xs.length->Iv xs.length ys Γc->Q (.fr (.lst ys)) (bK fr Γ1 Γc)
theorem Bm {fr:On} (h:(fr.filterMap id).Nodup):∀ (k k' i:Nat),(cT fr)[k]?=some (some (Bo.v i))->(cT fr)[k']?=some (some (Bo.v i))->k=k':=by
 unfold cT;have go:∀ (l:On),(l.filterMap id).Nodup->∀ (k k' i:Nat),l[k]?=some (some i)->l[k']?=some (some i)->k=k':=by
  intro l
  induction l with
  | nil=>intro _ k k' i h;simp at h
  | cons o l ih=>
   intro hn k k' i h h';cases o with
   | none=>
    rw[List.filterMap_cons_none rfl] at hn;cases k with
    | zero=>simp at h
    | succ k=>
     cases k' with
     | zero=>simp at h'
     | succ k'=>rw[ih hn k k' i (by simpa using h) (by simpa using h')]
   | some j=>
    rw[show List.filterMap id (some j::l)=j::List.filterMap id l from rfl,List.nodup_cons] at hn;have mem:∀ {k:Nat},l[k]?=some (some i)->i∈l.filterMap id:=fun q=>List.mem_filterMap.mpr ⟨some i,List.mem_of_getElem? q,rfl⟩;cases k with
    | zero=>
     simp at h;subst h;cases k' with
     | zero=>rfl
     | succ k'=>exact absurd (mem (by simpa using h')) hn.1
    | succ k=>
     cases k' with
     | zero=>
      simp at h';subst h';exact absurd (mem (by simpa using h)) hn.1
     | succ k'=>rw[ih hn.2 k k' i (by simpa using h) (by simpa using h')]
 intro k k' i h1 h2;refine go fr h k k' i ?_ ?_
 ·rw[List.getElem?_map] at h1;cases q:fr[k]? with
  | none=>rw[q] at h1;cases h1
  | some o=>rw[q] at h1;cases o with | none=>cases h1 | some j=>cases h1;rfl
 ·rw[List.getElem?_map] at h2;cases q:fr[k']? with
  | none=>rw[q] at h2;cases h2
  | some o=>rw[q] at h2;cases o with | none=>cases h2 | some j=>cases h2;rfl
theorem oB {fr:On}:(cT fr).map cz=fr:=by
 unfold cT;rw[List.map_map]
 conv=>rhs;rw[<- List.map_id fr]
 refine List.map_congr_left fun o _=>?_;cases o <;> rfl
theorem En.blk (e:En K B F σ H Γ) {fr:On} (nd:(fr.filterMap id).Nodup):En K ⟨F,H,ownOf Γ σ (cT fr)⟩ F (i_ fr σ) H (c7 Γ (cT fr)):=by
 refine e.inner (by unfold i_ cT;simp) (fun k bo s h1 h2=>?_) (Bm nd);unfold cT at h1;rw[List.getElem?_map] at h1;cases q:fr[k]? with
 | none=>rw[q] at h1;cases h1
 | some o=>
  rw[q] at h1;cases o with
  | none=>cases h1
  | some j=>
   cases h1;have:∃ d,Gat Γ j=some d:=by
    change eF Γ[j]?=_ at h2;unfold eF at h2;unfold Gat
    split at h2 <;> first | (cases h2;done) | (rename_i w;rw[w];exact⟨_,rfl⟩) | exact⟨_,rfl⟩
   obtain⟨d,hd⟩:=this;obtain⟨v,hv,_⟩:=e.get hd;refine⟨v,?_,hv⟩;unfold i_;rw[List.getElem?_map,q];simp [hv]
theorem tm {fr:On} {wi:TI} {i3:TI3} {g:TG} {g3:TG3} {te:TE} {e3:TE3} (nd:(fr.filterMap id).Nodup) (hi:BM K wi i3) (hg:yL K g g3) (he:Ref K te e3):Ref K (nH fr wi g te) (qv fr i3 g3 e3):=by
 intro B F σ H Γ Q QQ e q k;refine hi B F σ H Γ _ _ e q fun J H1 F1 Γ1 xs s1 e1 R Z=>?_;obtain⟨hz,Iv,i0,it,ie⟩:=Z;have eb:=e1.blk nd;refine⟨fun i m ys σc H=>m=xs.length - i/\i<=xs.length/\∃ F' Γc ds,aw F1 F'/\En K ⟨F1,H1,ownOf Γ1 σ (cT fr)⟩ F' σc H Γc/\au K F' ds ys/\ds.length=i/\Iv i ds Γc,⟨_,rfl,Nat.zero_le _,F1,_,[],aw.refl _,eb,rfl,rfl,i0⟩,?_⟩;rintro i m ys σc H2 ⟨rfl,hi',F2,Γ2,ds,s2,e2,r2,hl,iv⟩;refine⟨by rw[r2.length,hl];lia,?_⟩;by_cases lt:i < xs.length
 ·refine .inr ⟨R.go i H2 (s2.trans e2.sub) lt,fun x H3 y=>?_⟩;have hd:xs[i]?=some xs[i]:=gE0 lt;obtain⟨F3,s3,e3',r3⟩:=R.turn s2 e2 hd y;refine hg _ F3 σc H3 Γ2 x _ _ _ e3' r3 (it i _ ds Γ2 hd hl iv) fun σ2 Γ4 e4 q4=>?_;refine⟨fun y H5=>∃ F5 Γ5 r,aw F3 F5/\En K ⟨F1,H1,ownOf Γ1 σ (cT fr)⟩ F5 σ2 H5 Γ5/\jC K ⟨F1,H1,ownOf Γ1 σ (cT fr)⟩ F5 σ2 H5 Γ5 y r/\Iv (i + 1) (ds++[r.d]) Γ5,fun y H5 Z=>?_,he _ F3 σ2 H3 Γ4 _ _ e4 q4 fun v H' p=>p⟩;obtain⟨F5,Γ5,r,s5,e5,rv,iv5⟩:=Z;obtain⟨F6,s6,e6,r6⟩:=e5.frozen rv;refine⟨xs.length - (i + 1),by lia,rfl,lt,F6,Γ5,ds++[r.d],((s2.trans s3).trans s5).trans s6,e6,?_,by simp [hl],iv5⟩;exact au.append (ys:=[r.d]) (r2.mono ((s3.trans s5).trans s6)) ⟨y,[],rfl,r6,rfl⟩
 ·have z:i=xs.length:=by lia
  subst z;refine .inl ⟨R.stop _ H2 (s2.trans e2.sub) rfl,fun l hl'=>k _ _ ?_⟩;have eo:En K B F2 σ H2 (bK fr Γ1 Γ2):=e1.back (ls:=fr) e2 (by have:=kq (Γ:=Γ1) (σ:=σ) (bs:=cT fr);rw[oB] at this;exact this);exact Po.mono (s1.trans s2) (fY eo hl' r2 (ie ds Γ2 hl iv))
theorem cF {elt iter tg:Expr} {sc:Scope} {Nc:Ls} {fr:On} {wi:TI} {i3:TI3} {g:TG} {g3:TG3} {te:TE} {e3:TE3} (hc:X.calm=true) (hi:P3I K X tg iter wi i3) (Bk:Blk X.N X.env.scope sc Nc fr)
  (hg:∀ s₀ H₀ C ex pn,P3G K (aF X sc Nc s₀ H₀ C ex pn) tg g g3) (he:∀ s₀ H₀ C ex pn,P3 K (aF X sc Nc s₀ H₀ C ex pn) elt te e3) (nd:autoParam ((fr.filterMap id).Nodup) wP) (hs:autoParam (∀ x,foldedSetIterable iter X.env x=pure x) wT) :
  P3 K X (.ListComp elt [⟨tg,iter,[],0⟩] sc pos) (nH fr wi g te) (qv fr i3 g3 e3):=
 ⟨wO hc hi.pe Bk (fun a b c d e=>(hg a b c d e).pe) (fun a b c d e=>(he a b c d e).pe) hs,tm nd hi.rf (hg X.s₀ X.H₀ 0 [] []).rf (he X.s₀ X.H₀ 0 [] []).rf⟩
theorem uU {i:Nat} {x:Str} {px spos:Pos} {elt iter tg:Expr} {sc:Scope} {Nc:Ls} {fr:On} {wi:TI} {i3:TI3} {g:TG} {g3:TG3} {te:TE} {e3:TE3} (hN:X.N.Nodup) (hi':X.N[i]?=some x) (hx:X.env.scope.names.lookup x=some .local)
  (hc:X.calm=true) (hi:P3I K X tg iter wi i3) (Bk:Blk X.N X.env.scope sc Nc fr)
  (hg:∀ s₀ H₀ C ex pn,P3G K (aF X sc Nc s₀ H₀ C ex pn) tg g g3) (he:∀ s₀ H₀ C ex pn,P3 K (aF X sc Nc s₀ H₀ C ex pn) elt te e3) (nd:autoParam ((fr.filterMap id).Nodup) wP)
  (hsw:autoParam (swapsWith (.ListComp elt [⟨tg,iter,[],0⟩] sc pos) (some (.Name x px)) spos.line X.env=pure true) wE) (hs:autoParam (∀ x,foldedSetIterable iter X.env x=pure x) wT) :
  P3S K X (.Assign [.Name x px] (.ListComp elt [⟨tg,iter,[],0⟩] sc pos) spos) (eZ (nH fr wi g te) (cS i)) (sQ i (qv fr i3 g3 e3)):=
 ⟨uW hN hi' hx hc hi.pe Bk (fun a b c d e=>(hg a b c d e).pe) (fun a b c d e=>(he a b c d e).pe) hsw hs,jg (tm nd hi.rf (hg X.s₀ X.H₀ 0 [] []).rf (he X.s₀ X.H₀ 0 [] []).rf)⟩
abbrev S3:=G->(RV->G->Prop)->Prop
def sp3 (K:Fg0) (n:Nat) (S:S3):Sp:=fun vs H Q _=>vs.length=n/\∃ F own Γa Q3,En K ⟨F,H,own⟩ F (vs.map some) H Γa/\(∀ (k:Nat) (d:D),Γa[k]?≠some (some (Sl.ow d)))/\S Γa Q3/\∀ r Γ',Q3 r Γ'->∀ v H' F',En K ⟨F,H,own⟩ F' (vs.map some) H' Γ'->jC K ⟨F,H,own⟩ F' (vs.map some) H' Γ' v r->Q v H'
noncomputable def cR:List Bo->List Nat
 | []=>[]
 | .d _::bs=>cR bs
 | .v i::bs=>i::cR bs
def oV (n:Nat) (S:S3) (t3:dY) (Γ:G) (Q:RV->G->Prop):Prop:=t3 Γ fun bs Γ1=>bs.length=n/\(cR bs).Nodup/\S (c7 Γ1 (bs.map some)) fun r Γa=>Q r (bK ((bs.map some).map cz) Γ1 Γa)
theorem Ax:∀ {bs:List Bo},(cR bs).Nodup->∀ (k k' i:Nat),(bs.map some)[k]?=some (some (Bo.v i))->(bs.map some)[k']?=some (some (Bo.v i))->k=k':=by
 intro bs h k k' i h1 h2;have key:((((bs.map some).map cz)).filterMap id)=cR bs:=by
  clear h h1 h2
  induction bs with
  | nil=>rfl
  | cons b bs ih=>cases b with
   | d x=>simpa [cz,cR] using ih
   | v j=>simpa [cz,cR] using ih
 rw[<- key] at h;refine Bm h k k' i ?_ ?_
 ·unfold cT;rw[List.getElem?_map,List.getElem?_map,h1];rfl
 ·unfold cT;rw[List.getElem?_map,List.getElem?_map,h2];rfl
theorem bR.get {F:Hp}:∀ {bs:List Bo} {vs:List V},bR K F σ bs vs->∀ {k:Nat} {bo:Bo},bs[k]?=some bo->∃ v,vs[k]?=some v/\mR K F σ bo v
 | [],_,_,k,bo,e=>by simp at e
 | x::xs,_,⟨v,ws,h1,h2,h3⟩,0,d,e=>by subst h1;simp at e;subst e;exact⟨v,rfl,h2⟩
 | x::xs,_,⟨v,ws,h1,h2,h3⟩,i + 1,d,e=>by
  subst h1;obtain⟨u,a,b⟩:=bR.get h3 (k:=i) (bo:=d) (by simpa using e);exact⟨u,by simpa using a,b⟩
theorem bR.length {F:Hp}:∀ {bs:List Bo} {vs:List V},bR K F σ bs vs->vs.length=bs.length
 | [],_,h=>by cases h;rfl
 | _::_,_,Z=>by obtain⟨v,ws,h1,h2,h3⟩:=Z;subst h1;simp [bR.length h3]
theorem En.args (e:En K B F σ H Γ) {bs:List Bo} {vs:List V} (r:bR K F σ bs vs) (nd:(cR bs).Nodup):En K ⟨F,H,ownOf Γ σ (bs.map some)⟩ F (vs.map some) H (c7 Γ (bs.map some)):=by
 refine e.inner (by simp [r.length]) (fun k bo s h1 h2=>?_) (Ax nd);rw[List.getElem?_map] at h1;cases q:bs[k]? with
 | none=>rw[q] at h1;cases h1
 | some b=>
  rw[q] at h1;cases h1;obtain⟨v,a,b⟩:=r.get q;exact⟨v,by rw[List.getElem?_map,a];rfl,b⟩
theorem En.called (e:En K B F σ H Γ) {F' H':Hp} {bs:List (Option Bo)} {σc:L2.St} {Γa:G} {v:V} {r:RV} (e2:En K ⟨F,H,ownOf Γ σ bs⟩ F' σc H' Γa) (rv:jC K ⟨F,H,ownOf Γ σ bs⟩ F' σc H' Γa v r) :
  aw F F'/\En K B F' σ H' (bK (bs.map cz) Γ Γa)/\jC K B F' σ H' (bK (bs.map cz) Γ Γa) v r:=by
 have eo:=e.back e2 kq;refine⟨e2.keep,eo,?_⟩;have nw:∀ {p:Addr},H p=none->∀ (i:Nat) (x:D),Hld (bK (bs.map cz) Γ Γa) i x->σ[i]?≠some (some (V.ref p)):=fun {p} h4' i x hx hp=>by
  obtain⟨d0,w⟩:∃ d0,Hld Γ i d0:=by
   rcases hx with hx | hx <;> rw[cy] at hx
   ·cases w:Γ[i]? with
    | none=>rw[w] at hx;cases hx
    | some s=>rw[w] at hx;cases s with
     | none=>cases hx
     | some s=>cases s with
      | fz d=>cases hx
      | ow d=>exact⟨d,.inl w⟩
      | ln d=>cases hx
   ·cases w:Γ[i]? with
    | none=>rw[w] at hx;cases hx
    | some s=>rw[w] at hx;cases s with
     | none=>cases hx
     | some s=>cases s with
      | fz d=>cases hx
      | ow d=>cases hx
      | ln d=>exact⟨d,.inr w⟩
  obtain⟨p',a,b,c⟩:=e.hl i d0 w;rw[hp] at a;cases a;obtain⟨o,ho⟩:=c.some;rw[h4'] at ho;cases ho
 cases r with
 | fz d=>exact rv
 | fr d=>
  obtain⟨p,h1,h2,h3,h4,h5⟩:=rv;exact⟨p,h1,h2,h3,e.dom p h4,nw h4⟩
 | two xs ys=>
  obtain⟨t,p,q,vs,ws,h1,h2,h3,h4,h5,h6,h7,h8⟩:=rv;exact⟨t,p,q,vs,ws,h1,h2,h3,h4,h5,h6,h7,fun z hz=>⟨(h8 z hz).1,e.dom z (h8 z hz).2.1,nw (h8 z hz).2.1⟩⟩
 | rws xss=>
  obtain⟨p,qs,h1,h2,h3,h4,h8⟩:=rv;exact⟨p,qs,h1,h2,h3,h4,fun z hz=>⟨(h8 z hz).1,e.dom z (h8 z hz).2.1,nw (h8 z hz).2.1⟩⟩
theorem tw {t:TA} {t3:dY} {S:S3} {n:Nat} {E:XK} (h:qF K t t3):Ref K (md (sp3 K n S) [] E t) (oV n S t3):=by
 intro B F σ H Γ Q QQ e q k;refine h B F σ H Γ _ _ e q fun vs H1 Z=>?_;obtain⟨F1,Γ1,bs,s1,e1,r1,hn,nd,q1⟩:=Z;show sp3 K n S (vs++[]) H1 QQ E;rw[List.append_nil];refine⟨by rw[r1.length];exact hn,F1,_,_,_,e1.args r1 nd,nC,q1,fun r Γa q v H' F' e2 rv=>?_⟩;obtain⟨a,b,c⟩:=e1.called e2 rv;exact k v H' ⟨F',_,r,s1.trans a,b,c,q⟩
noncomputable def ku (Γa Γ':G):G:=Γa.mapIdx fun k s=>match s with
 | some (.ln d)=>(match Γ'[k]? with
  | some (some (.ln d'))=>some (.ln d')
  | _=>some (.ln d))
 | s=>s
theorem Cz {Γa Γ':G} {k:Nat} {d:D} (h:Γa[k]?=some (some (Sl.ln d))) {d':D} (h':Γ'[k]?=some (some (Sl.ln d'))):(ku Γa Γ')[k]?=some (some (Sl.ln d')):=by
 unfold ku;rw[List.getElem?_mapIdx,h];simp [h']
theorem kr {Γa Γ':G} {k:Nat} {s:Sl} (h:(ku Γa Γ')[k]?=some (some s)):(∃ d d',Γa[k]?=some (some (Sl.ln d))/\s=.ln d')\/(Γa[k]?=some (some s)/\∀ d,s≠.ln d):=by
 unfold ku at h;rw[List.getElem?_mapIdx] at h;cases w:Γa[k]? with
 | none=>rw[w] at h;cases h
 | some o=>
  rw[w] at h;cases o with
  | none=>cases h
  | some s'=>
   cases s' with
   | fz d=>cases h;exact .inr ⟨rfl,fun d z=>by cases z⟩
   | ow d=>cases h;exact .inr ⟨rfl,fun d z=>by cases z⟩
   | ln d=>
    left
    simp only[Option.map_some,Option.some.injEq] at h;split at h
    ·cases h;exact⟨d,_,rfl,rfl⟩
    ·cases h;exact⟨d,_,rfl,rfl⟩
theorem En.out {F0 H0 F' H':Hp} {own:List (Nat×Addr)} {σa σ':L2.St} {Γa Γ':G} (e0:En K ⟨F0,H0,own⟩ F0 σa H0 Γa) (hno:∀ (k:Nat) (d:D),Γa[k]?≠some (some (Sl.ow d))) (e1:En K ⟨F0,H0,own⟩ F' σ' H' Γ') {v:V} {r:RV} (rv:jC K ⟨F0,H0,own⟩ F' σ' H' Γ' v r) :
  En K ⟨F0,H0,own⟩ F' σa H' (ku Γa Γ')/\jC K ⟨F0,H0,own⟩ F' σa H' (ku Γa Γ') v r:=by
 have lnk:∀ {k:Nat} {d:D},Γa[k]?=some (some (Sl.ln d))->∃ p d',(k,p)∈own/\σa[k]?=some (some (V.ref p))/\σ'[k]?=some (some (V.ref p))/\Γ'[k]?=some (some (Sl.ln d'))/\(ku Γa Γ')[k]?=some (some (Sl.ln d')):=fun {k d} h=>by
  obtain⟨p,a,b,c⟩:=e0.hl k d (.inr h);have m:=e0.ln k d p h a;obtain⟨a',d',b'⟩:=e1.par k p m;exact⟨p,d',m,a,a',b',Cz h b'⟩
 have hld:∀ {k:Nat} {d:D},Hld (ku Γa Γ') k d->∃ p d0,Γa[k]?=some (some (Sl.ln d0))/\(k,p)∈own/\σa[k]?=some (some (V.ref p))/\σ'[k]?=some (some (V.ref p))/\Γ'[k]?=some (some (Sl.ln d)):=fun {k d} h=>by
  rcases h with h | h
  ·rcases kr h with ⟨d1,d2,_,z⟩ | ⟨z,_⟩
   ·cases z
   ·exact absurd z (hno k d)
  ·rcases kr h with ⟨d1,d2,z,_⟩ | ⟨_,z⟩
   ·obtain⟨p,d',m,a,a',b',c'⟩:=lnk z;rw[h] at c';cases c';exact⟨p,d1,z,m,a,a',b'⟩
   ·exact absurd rfl (z d)
 refine⟨⟨e1.sub,?_,?_,?_,?_,?_,?_,?_,e1.keep,e1.new,e1.rest,e1.dom⟩,?_⟩
 ·unfold ku;rw[List.length_mapIdx];exact e0.len
 ·intro k d q;rcases kr q with ⟨d1,d2,_,z⟩ | ⟨z,_⟩
  ·cases z
  ·obtain⟨u,a,b⟩:=e0.fz k d z;exact⟨u,a,b.mono e1.keep⟩
 ·intro k d q;obtain⟨p,d0,_,m,a,a',b⟩:=hld q;obtain⟨p',x,y,z⟩:=e1.hl k d (.inr b);rw[a'] at x;cases x;exact⟨p,a,y,z⟩
 ·intro k d p q;rcases kr q with ⟨d1,d2,_,z⟩ | ⟨z,_⟩
  ·cases z
  ·exact absurd z (hno k d)
 ·intro k d p q a;obtain⟨p',d0,_,m,a',_⟩:=hld (.inr q);rw[a] at a';cases a';exact m
 ·intro k k' d d' p q1 q2 a1 a2;obtain⟨p1,d1,z1,_⟩:=hld q1;obtain⟨p2,d2,z2,_⟩:=hld q2;exact e0.dis k k' d1 d2 p (.inr z1) (.inr z2) a1 a2
 ·intro k p q;obtain⟨a,d,b⟩:=e0.par k p q;obtain⟨p',d',m,a',_,_,c⟩:=lnk b;exact⟨a,d',c⟩
 ·cases r with
  | fz d=>exact rv
  | fr d=>
   obtain⟨p,h1,h2,h3,h4,h5⟩:=rv;refine⟨p,h1,h2,h3,h4,fun k x hx a=>?_⟩;obtain⟨p',d0,_,m,a',b',c'⟩:=hld hx;rw[a] at a';cases a';exact h5 k x (.inr c') b'
  | two xs ys=>
   obtain⟨t,p,q,vs,ws,h1,h2,h3,h4,h5,h6,h7,h8⟩:=rv;refine⟨t,p,q,vs,ws,h1,h2,h3,h4,h5,h6,h7,fun z hz=>⟨(h8 z hz).1,(h8 z hz).2.1,fun k x hx a=>?_⟩⟩;obtain⟨p',d0,_,m,a',b',c'⟩:=hld hx;rw[a] at a';cases a';exact(h8 z hz).2.2 k x (.inr c') b'
  | rws xss=>
   obtain⟨p,qs,h1,h2,h3,h4,h8⟩:=rv;refine⟨p,qs,h1,h2,h3,h4,fun z hz=>⟨(h8 z hz).1,(h8 z hz).2.1,fun k x hx a=>?_⟩⟩;obtain⟨p',d0,_,m,a',b',c'⟩:=hld hx;rw[a] at a';cases a';exact(h8 z hz).2.2 k x (.inr c') b'
end
noncomputable def h_ (N:Ls) (Γa:G):G:=Γa++List.replicate (N.length - Γa.length) none
section
variable {P:Program} {w:World} {K:Fg0} {mg:SV} {base:Heap}
theorem En.start {B:Bs} {F H:Hp} {vs:List V} {Γa:G} {N:Ls} (e:En K B F (vs.map some) H Γa) (hl:Γa.length<=N.length):En K B F (L2.start N vs) H (h_ N Γa):=by
 have len:=e.len;rw[lM0] at len;have hs:∀ {i:Nat},i < Γa.length->(L2.start N vs)[i]?=(vs.map some)[i]?:=fun {i} h=>by
  unfold L2.start;rw[List.getElem?_append_left (by rw[lM0];lia)]
 have hg:∀ {i:Nat} {s:Sl},(h_ N Γa)[i]?=some (some s)->i < Γa.length/\Γa[i]?=some (some s):=fun {i s} h=>by
  unfold h_ at h;by_cases lt:i < Γa.length
  ·rw[List.getElem?_append_left lt] at h;exact⟨lt,h⟩
  ·rw[List.getElem?_append_right (by lia)] at h;have:=List.mem_of_getElem? h;rw[List.mem_replicate] at this;cases this.2
 have hh:∀ {i:Nat} {d:D},Hld (h_ N Γa) i d->i < Γa.length/\Hld Γa i d:=fun h=>by
  rcases h with h | h
  ·exact⟨(hg h).1,.inl (hg h).2⟩
  ·exact⟨(hg h).1,.inr (hg h).2⟩
 refine⟨e.sub,?_,?_,?_,?_,?_,?_,?_,e.keep,e.new,e.rest,e.dom⟩
 ·unfold L2.start h_;simp only[List.length_append,lM0,List.length_replicate];lia
 ·intro i d q;obtain⟨lt,q⟩:=hg q;rw[hs lt];exact e.fz i d q
 ·intro i d q;obtain⟨lt,q⟩:=hh q;rw[hs lt];exact e.hl i d q
 ·intro i d p q a;obtain⟨lt,q⟩:=hg q;rw[hs lt] at a;exact e.ow i d p q a
 ·intro i d p q a;obtain⟨lt,q⟩:=hg q;rw[hs lt] at a;exact e.ln i d p q a
 ·intro i j d d' p q1 q2 a1 a2;obtain⟨l1,q1⟩:=hh q1;obtain⟨l2,q2⟩:=hh q2;rw[hs l1] at a1;rw[hs l2] at a2;exact e.dis i j d d' p q1 q2 a1 a2
 ·intro i p q;obtain⟨a,d,b⟩:=e.par i p q;have lt:i < Γa.length:=(gS0 b).1;refine⟨by rw[hs lt];exact a,d,?_⟩;unfold h_;rw[List.getElem?_append_left lt];exact b
theorem ok3 {x qual:Str} {st:Stmt} {f:Addr} {fd:FuncData} {N ps:Ls} {k:Nat} {S:S3} (F:Fun K x qual st f fd) (Sc:aC N ps (ah st)) (hN:autoParam (ps.length<=N.length) wP)
  (hbody:∀ (cdv:Value) (A:Around) (outer:List Env) (s:Shared) (H:Hp) (E:XK),cc k (A.deeper (envOfC qual (ah st) s.heap.objs.size f cdv))->
   ∃ t t3,pf K (uk CX0 P w K mg base N qual (ah st) f cdv A outer s H E).nox (eS st) t t3/\∀ Γa Q,S Γa Q->Γa.length=ps.length->t3 { nx:=fun Γ'=>Q (.fz .non) (ku Γa Γ'),rt:=fun r Γ'=>Q r (ku Γa Γ') } (h_ N Γa)) :
  aQ P w K mg base CX0 (k + 1) f fd ps (sp3 K ps.length S):=by
 refine F.ok Sc (fun vs H Q E h=>h.1) fun cdv A outer s H vs Q E hr h=>?_;obtain⟨hl,F0,own,Γa,Q3,e,hno,hS,hQ⟩:=h;obtain⟨t,t3,ht,rd⟩:=hbody cdv A outer s H E hr;have hla:Γa.length=ps.length:=by rw[<- e.len,lM0];exact hl
 refine⟨t,ht.pe,ht.rf ⟨F0,H,own⟩ F0 _ H _ _ { nx:=fun Γ'=>Q3 (.fz .non) (ku Γa Γ'),rt:=fun r Γ'=>Q3 r (ku Γa Γ') } (e.start (N:=N) (by rw[hla];exact hN)) ⟨?_,?_,fun _ _ _ _ _ _ z=>False.elim z,fun _ _ _ _ _ _ z=>False.elim z⟩ (rd Γa Q3 hS hla)⟩
 ·intro F' σ' H' Γ' s' e' q;obtain⟨a,b⟩:=e.out hno e' (v:=.non) (r:=.fz .non) rfl;exact hQ _ _ q _ _ _ a b
 ·intro F' σ' H' Γ' v r s' e' rv q;obtain⟨a,b⟩:=e.out hno e' rv;exact hQ _ _ q _ _ _ a b
end
section
variable {K:Fg0} {X:Cx} {k:Nat} {f C:Addr} {fd:FuncData} {ps:Ls} {x m:Str} {p pos apos:Pos} {e o:Expr} {es:List Expr} {ta:TE} {t:TA} {t3:dY} {o3:TB3} {n:Nat} {S:S3}
theorem av (hK:X.K=K) (F:aQ X.prog X.w X.K X.mg X.base CX0 k f fd ps (sp3 K n S)) (hr:cc k X.A) (hg:Gl X x) (hm:X.mg x=some (.ref f)) (hk:PySem.W.keepIn X.K (.ref f)=true) (hb:Binds X.K fd ps [])
  (ha:sE K X (e::es) t t3) (hdb:autoParam ((x == ("__debug__":Str))=false) wP) (he:autoParam (starEach (e::es) X.env=(false,eval e X.env)::starEach es X.env) wE) (hpl:autoParam ((backTo pos (starEach es X.env)).any (·.1)=false) wE) :
  P3 K X (.Call (.Name x p) (e::es) [] pos) (md (sp3 K n S) [] E0 t) (oV n S t3):=⟨wQ F hr hg hm hk hb .nil nZ ha.pe hdb he hpl,tw ha.rf⟩
theorem z9 (hK:X.K=K) (F:aQ X.prog X.w X.K X.mg X.base CX0 k f fd ps (sp3 K n S)) (hr:cc k X.A) (hg:Gl X x) (hm:X.mg x=some (.ref f)) (hk:PySem.W.keepIn X.K (.ref f)=true) (hb:Binds X.K fd ps [])
  (hdb:autoParam ((x == ("__debug__":Str))=false) wP) :
  P3 K X (.Call (.Name x p) [] [] pos) (md (sp3 K n S) [] E0 nF) (oV n S yi):=⟨zU F hr hg hm hk hb .nil nZ hdb,tw (af (X:=X)).rf⟩
def wX (C:Addr) (m:Str) (n:Nat) (S:S3) (o3:TB3) (t3:dY) (Γ:G) (Q:RV->G->Prop):Prop:=o3 Γ fun x Γ1=>(∃ ns xs,x.at Γ1=some (.ins C ns xs)/\m∉ns)/\t3 Γ1 fun bs Γ2=>bs.length + 1=n/\(cR (x::bs)).Nodup/\S (c7 Γ2 ((x::bs).map some)) fun r Γa=>Q r (bK (((x::bs).map some).map cz) Γ2 Γa)
theorem yq {ns:Ls}:∀ {gs:List (Str×V)} {m:Str},gs.map (·.1)=ns->m∉ns->gs.lookup m=none:=by
 induction ns with
 | nil=>intro gs m h _;cases gs with | nil=>rfl | cons=>cases h
 | cons a ns ih=>
  intro gs m h hn;cases gs with
  | nil=>cases h
  | cons g gs=>
   simp only[List.map_cons,List.cons.injEq] at h;obtain⟨rfl,h⟩:=h;rw[List.mem_cons,not_or] at hn;obtain⟨g1,g2⟩:=g;rw[List.lookup_cons,show (m == g1)=false from beq_eq_false_iff_ne.mpr hn.1];exact ih h hn.2
theorem sZ (ho:pd K ta o3) (ha:qF K t t3):Ref K (sL C m (sp3 K n S) [] E0 ta t) (wX C m n S o3 t3):=by
 intro B F σ H Γ Q QQ e q kk;refine ho B F σ H Γ _ _ e q fun v H0 Z=>?_;obtain⟨F0,Γ0,bo,s0,e0,r0,⟨ns,xs,hx,hm⟩,q0⟩:=Z;obtain⟨p,dx,gs,rfl,h1,h2,h3⟩:=e0.bo r0 hx;refine⟨p,dx,gs,rfl,h1,yq h2 hm,ha B F0 σ H0 Γ0 _ _ e0 q0 fun vs H1 Z=>?_⟩;obtain⟨F1,Γ1,bs,s1,e1,r1,hn,nd,q1⟩:=Z;show sp3 K n S (V.ref p::(vs++[])) H1 QQ E0;rw[List.append_nil];have rr:bR K F1 σ (bo::bs) (V.ref p::vs):=⟨_,_,rfl,r0.mono s1,r1⟩;refine⟨by rw[rr.length];exact hn,F1,_,_,_,e1.args rr nd,nC,q1,fun r Γa q v H' F' e2 rv=>?_⟩;obtain⟨a,b,c⟩:=e1.called e2 rv;exact kk v H' ⟨F',_,r,(s0.trans s1).trans a,b,c,q⟩
theorem wU {pl:Sem Bool} (hK:X.K=K) (he:P3B K X o ta o3) (c:Cls X.K C) (hm:Meth X.K C m f) (F:aQ X.prog X.w X.K X.mg X.base CX0 k f fd ps (sp3 K n S)) (hr:cc k X.A) (hb:Binds X.K fd ps []) (ha:sE K X (e::es) t t3)
  (hst:autoParam (starEach (e::es) X.env=(false,eval e X.env)::starEach es X.env) wE) (hpl:autoParam ((backTo pos (starEach es X.env)).any (·.1)=false) wE)
  (ht:eval (.Call (.Attribute o m apos) (e::es) [] pos) X.env=(do
   let ov <- eval o X.env
   standAt apos.atName
   let (f,first) <- holding [ov] (getMethod ov m pl)
   callWith pos f first (backTo pos (starEach (e::es) X.env)) (backToKw pos (keywordEach [] X.env))):=by rfl) :
  P3 K X (.Call (.Attribute o m apos) (e::es) [] pos) (sL C m (sp3 K n S) [] E0 ta t) (wX C m n S o3 t3):=⟨Cp he.pe c hm F hr hb .nil nZ ha.pe hst hpl ht,sZ he.rf ha.rf⟩
theorem gz {pl:Sem Bool} (hK:X.K=K) (he:P3B K X o ta o3) (c:Cls X.K C) (hm:Meth X.K C m f) (F:aQ X.prog X.w X.K X.mg X.base CX0 k f fd ps (sp3 K n S)) (hr:cc k X.A) (hb:Binds X.K fd ps [])
  (ht:eval (.Call (.Attribute o m apos) [] [] pos) X.env=(do
   let ov <- eval o X.env
   standAt apos.atName
   let (f,first) <- holding [ov] (getMethod ov m pl)
   callWith pos f first (backTo pos (starEach [] X.env)) (backToKw pos (keywordEach [] X.env))):=by rfl) :
  P3 K X (.Call (.Attribute o m apos) [] [] pos) (sL C m (sp3 K n S) [] E0 ta nF) (wX C m n S o3 yi):=⟨zP he.pe c hm F hr hb .nil nZ ht,sZ he.rf (af (X:=X)).rf⟩
theorem P3.or {e:Expr} {t t':TE} {a3 b3:TE3} (h:P3 K X e t a3) (h':P3 K X e t' b3):P3 K X e (fun σ H Q=>t σ H Q\/t' σ H Q) (fun Γ Q=>a3 Γ Q\/b3 Γ Q):=
 ⟨fun pins s σ H Q I q=>q.elim (h.pe pins s σ H Q I) (h'.pe pins s σ H Q I),fun B F σ H Γ Q QQ e q k=>q.imp (fun q=>h.rf B F σ H Γ Q QQ e q k) (fun q=>h'.rf B F σ H Γ Q QQ e q k)⟩
theorem jh (M:Mk0 X.K C) (hg:Gl X x) (hm:X.mg x=some (.ref C)) (hdb:autoParam ((x == ("__debug__":Str))=false) wP):P3 K X (.Call (.Name x p) [] [] pos) (wt C) (fun Γ Q=>Q (.fr (.ins C [] [])) Γ):=
 ⟨yc M hg hm hdb,fun B F σ H Γ Q QQ e q k=>fun y dy hy hdy ne=>k _ _ (by
  have e1:=e.alloc hdy (.own y);have hy':(upd H dy (.own y)) y=none:=by rw[aj (Ne.symm ne)];exact hy
  exact⟨F,Γ,.fr (.ins C [] []),aw.refl F,e1.alloc hy' _,⟨y,rfl,e1.nof hy',⟨dy,[],aA,rfl,rfl⟩,e.dom _ hy,e1.tM hy'⟩,q⟩)⟩
end
section
variable {K:Fg0} {X:Cx} {B:Bs} {F H:Hp} {σ:L2.St} {Γ:G} {pos p:Pos} {x:Str}
theorem n8 {n:String} (hg:Gl X x) (hm:X.mg x=none) (hv:bootBuiltins x=some (.type n)) (hn:autoParam (x≠"__name__") wP) (hd:autoParam ((x == ("__debug__":Str))=false) wP):P3 K X (.Name x pos) (tC (.ty n)) (t3C (.ty n)):=
 ⟨Ct (v:=.ty n) hg hm hv rfl hn hd,p6 fun _=>rfl⟩
theorem sT (i:Nat) {y:Str} {px p2:Pos} {k e:Expr} {tk te:TE} {k3:TB3} {e3:TE3} (hx:P3B K X (.Name y px) (cX i) (bor i)) (hk:P3B K X k tk k3) (he:P3 K X e te e3)
  (ha:∀ v,assign (.Subscript (.Name y px) k p2) X.env v=(do
   let ov <- holding [v] (eval (.Name y px) X.env)
   let iv <- holding [v,ov] (eval k X.env)
   standAt p2
   holding [v,ov,iv] (setItem ov iv v)
   release [v,ov,iv] []):=by intro _;rfl)
  (hs:autoParam (swapsWithSole [.Subscript (.Name y px) k p2] e pos.line X.env=pure false) wE) (hw:autoParam (swappedStores [.Subscript (.Name y px) k p2] e X.env=pure none) wE)
  (h1:autoParam ((assignEach [.Subscript (.Name y px) k p2] X.env).map (·.2)=[assign (.Subscript (.Name y px) k p2) X.env]) wE) :
  P3S K X (.Assign [.Subscript (.Name y px) k p2] e pos) (eZ te (yC (cX i) tk p8)) (wA i k3 e3):=B0 i hx hk he (q8 he.pe (zO hx.pe hk.pe set_list ha) hs hw h1)
theorem kd {ls:On} {cs:G} (h:ls.all (·.isNone)=true):bK ls Γ cs=Γ:=by
 have hn:∀ j,newD ls cs j=none:=by
  intro j;cases q:newD ls cs j with
  | none=>rfl
  | some d=>
   obtain⟨k,a,_⟩:=c9 q;have:=List.all_eq_true.mp h _ (List.mem_of_getElem? a);cases this
 refine List.ext_getElem? fun i=>?_;rw[cy,hn];cases q:Γ[i]? with
 | none=>rfl
 | some s=>cases s with
  | none=>rfl
  | some s=>cases s <;> rfl
end
theorem Jz {α:Type} {a:α} {l:List α}:atI (a::l) 0=some a:=by
 unfold L2.atI ixN;simp
theorem Jy {α:Type} {a b:α} {l:List α}:atI (a::b::l) 1=some b:=by
 have:ixN (a::b::l).length 1=some 1:=by
  unfold ixN;rw[if_pos (by decide),if_pos (by simp;lia)];rfl
 unfold L2.atI;rw[this];rfl
theorem Jx {α:Type} {a b c:α} {l:List α}:atI (a::b::c::l) 2=some c:=by
 have:ixN (a::b::c::l).length 2=some 2:=by
  unfold ixN;rw[if_pos (by decide),if_pos (by simp;lia)];rfl
 unfold L2.atI;rw[this];rfl
theorem Jw {α:Type} {a b c d:α} {l:List α}:atI (a::b::c::d::l) 3=some d:=by
 have:ixN (a::b::c::d::l).length 3=some 3:=by
  unfold ixN;rw[if_pos (by decide),if_pos (by simp;lia)];rfl
 unfold L2.atI;rw[this];rfl
theorem Gn:ixN 3 0=some 0:=rfl
theorem Gm:ixN 3 1=some 1:=rfl
theorem Gk:ixN 3 2=some 2:=rfl
theorem cn {α:Type} {xs:List α} {k:Int} {d:α} (h:0<=k) (e:xs[k.toNat]?=some d):atI xs k=some d:=by
 obtain⟨j,rfl⟩:∃ j:Nat,k=(j:Int):=⟨k.toNat,by lia⟩;exact Dp (by simpa using e)
theorem Dm {ns:Li} {k:Int} (h0:0<=k) (h1:k < (ns.length:Int)):atI ns k=some (ns.getD k.toNat 0):=by
 refine cn h0 ?_;have:k.toNat < ns.length:=by lia
 rw[gE0 this];simp [List.getD,this]
theorem Dq {α:Type} {xs:List α} {k:Int} (h0:0<=k) (h1:k < (xs.length:Int)):∃ d,atI xs k=some d/\d∈xs:=by
 have:k.toNat < xs.length:=by lia
 exact⟨xs[k.toNat],cn h0 (gE0 this),List.getElem_mem this⟩
section
variable {K:Fg0} {P:Program} {w:World} {mg:SV} {base:Heap}
def D2 (n:Nat):S3:=fun Γ Q=>∃ ns:Li,Γ=[some (.fz (.scr ns))]/\ns.length<=n/\∀ Γ',Q (.fz (.bl true)) Γ'
theorem Ga {k n:Nat} {f:Addr} {fd:FuncData} {ps:Ls} (F:aQ P w K mg base CX0 k f fd ps (sp3 K 1 (D2 n))) :
  aQ P w K mg base CX0 k f fd ps (fun vs H Q _=>∃ (p:Addr) (ns:Li),vs=[.ref p]/\SqL K H p (ns.map V.int)/\ns.length<=n/\∀ H',Q (.bl true) H'):=by
 refine F.imp fun vs H Q E h=>?_;obtain⟨p,ns,rfl,hs,hn,q⟩:=h;have go1:∀ {i:Nat} {s:Sl},([some (Sl.fz (.scr ns))]:G)[i]?=some (some s)->i=0/\s=.fz (.scr ns):=fun {i s} h=>by
  cases i with
  | zero=>cases h;exact⟨rfl,rfl⟩
  | succ i=>cases h
 refine⟨rfl,H,[],[some (.fz (.scr ns))],fun r _=>r=.fz (.bl true),⟨aw.refl H,rfl,?_,?_,?_,?_,?_,?_,aw.refl H,fun b o h=>.inl h,fun b o h _=>h,fun b h=>h⟩,?_,⟨ns,rfl,hn,fun _=>rfl⟩,?_⟩
 ·intro i d h;obtain⟨rfl,e⟩:=go1 h;cases e;exact⟨_,rfl,p,rfl,hs⟩
 ·intro i d h;rcases h with h | h <;> cases (go1 h).2
 ·intro i d p h;cases (go1 h).2
 ·intro i d p h;cases (go1 h).2
 ·intro i j d e p h;rcases h with h | h <;> cases (go1 h).2
 ·intro i p h;cases h
 ·intro k d h;cases (go1 h).2
 ·intro r Γ' e v H' F' _ rv;subst e;have:v=.bl true:=rv;subst this;exact q H'
end
open PySem L2 PySem.Spec PySem.SeqAt
noncomputable def b2 (b:Bool):Int:=if b then 1 else 0
mutual
noncomputable def eqN:Nat->D->D->Option Bool
 | _,.non,.non=>some true
 | _,.bl a,.bl b=>some (a == b)
 | _,.int a,.int b=>some (a == b)
 | _,.str a,.str b=>some (a == b)
 | n + 1,.lst xs,.lst ys=>dD n xs ys
 | n + 1,.tup xs,.tup ys=>dD n xs ys
 | _,_,_=>none
noncomputable def dD:Nat->List D->List D->Option Bool
 | _,[],[]=>some true
 | n,x::xs,y::ys=>match eqN n x y,dD n xs ys with
  | some a,some b=>some (a && b)
  | _,_=>none
 | _,_,_=>some false
end
section
variable {K:Fg0} {F H:Hp}
theorem oP {n:Nat}:∀ {xs ys:List D} {k:Bool},dD n xs ys=some k->xs.length≠ys.length->k=false
 | [],[],_,_,h=>absurd rfl h
 | x::xs,[],_,e,_=>by unfold dD at e;cases e;rfl
 | [],y::ys,_,e,_=>by unfold dD at e;cases e;rfl
 | x::xs,y::ys,k,e,h=>by
  unfold dD at e;split at e
  ·rename_i a b ha hb;cases e;rw[oP hb (by simpa using h),Bool.and_false]
  ·cases e
theorem iV {n:Nat}:∀ {xs ys:List D} {k:Bool},dD n xs ys=some k->∃ e:Nat->Bool,(∀ (j:Nat) x y,xs[j]?=some x->ys[j]?=some y->eqN n x y=some (e j))/\k=((List.range (min xs.length ys.length)).all e && xs.length == ys.length)
 | [],[],k,h=>by unfold dD at h;cases h;exact⟨fun _=>true,fun j x y h=>by simp at h,by simp⟩
 | x::xs,[],k,h=>by unfold dD at h;cases h;exact⟨fun _=>true,fun j x y _ h=>by simp at h,by simp⟩
 | [],y::ys,k,h=>by unfold dD at h;cases h;exact⟨fun _=>true,fun j x y h=>by simp at h,by simp⟩
 | x::xs,y::ys,k,h=>by
  unfold dD at h;split at h
  ·rename_i a b ha hb;cases h;obtain⟨e,h1,h2⟩:=iV hb;refine⟨fun j=>match j with | 0=>a | j + 1=>e j,fun j x' y' hx hy=>?_,?_⟩
   ·cases j with
    | zero=>simp at hx hy;subst hx hy;exact ha
    | succ j=>exact h1 j x' y' (by simpa using hx) (by simpa using hy)
   ·subst h2;have hm:min (x::xs).length (y::ys).length=min xs.length ys.length + 1:=by simp [Nat.succ_min_succ]
    rw[hm,List.range_succ_eq_map,List.all_cons,List.all_map];simp only[List.length_cons,Function.comp_def,Bool.and_assoc]
    congr 1
    congr 1
    simp
  ·cases h
mutual
theorem rY:∀ {n:Nat} {d d':D} {v:V} {k:Bool},Rep K F d v->Rep K F d' v->eqN n d d'=some k->k=true
 | n,d,d',v,k,h,h',e=>by
  unfold eqN at e;split at e <;> first
   | (cases e;rfl)
   | (cases e;cases h;cases h';simp;done)
   | (cases e;cases h;cases h';done)
   | (cases e;cases h;obtain⟨_,_,z,_⟩:=h';cases z;done)
   | (cases e;cases h';obtain⟨_,_,z,_⟩:=h;cases z;done)
   | (obtain⟨p,vs,rfl,a,b⟩:=h;obtain⟨p',vs',q,a',b'⟩:=h';cases q;rw[a] at a';cases a';exact qm b b' e)
   | (obtain⟨p,vs,rfl,a,b⟩:=h;obtain⟨p',vs',q,a',b'⟩:=h';cases q;rw[a] at a';cases a';done)
   | (cases e;done)
theorem qm:∀ {n:Nat} {xs ys:List D} {vs:List V} {k:Bool},au K F xs vs->au K F ys vs->dD n xs ys=some k->k=true
 | n,[],[],_,k,_,_,e=>by unfold dD at e;cases e;rfl
 | n,x::xs,[],_,k,⟨v,ws,h1,_⟩,h',e=>by cases h';cases h1
 | n,[],y::ys,_,k,h,⟨v,ws,h1,_⟩,e=>by cases h;cases h1
 | n,x::xs,y::ys,_,k,⟨v,ws,h1,h2,h3⟩,⟨v',ws',h1',h2',h3'⟩,e=>by
  subst h1;cases h1';unfold dD at e;split at e
  ·rename_i a b ha hb;cases e;rw[rY h2 h2' ha,qm h3 h3' hb];rfl
  ·cases e
end
end
section
variable {K:Fg0} {X:Cx} {F H:Hp} {pins:Pn} {σ:L2.St} {s:Shared}
theorem Vals.at' {xs:List V} {us:Lv} (r:Vals xs us) {j:Nat} (h:j < us.toArray.size):∃ v,xs[j]?=some v/\RelV v (us.toArray[j]):=by
 have h1:j < xs.length:=by rw[r.length];simpa using h
 obtain⟨u,hu,ru⟩:=r.get (gE0 h1);refine⟨_,gE0 h1,?_⟩;have:us.toArray[j]=u:=by
  have h2:j < us.length:=by simpa using h
  have h3:us[j]?=some us[j]:=gE0 h2;rw[hu] at h3;cases h3;simp
 rw[this];exact ru
theorem l6 (I:Inv X pins σ H s) {p:Addr} {vs:List V} (h:H p=some (.lst vs)):∃ its:Lv,Vals vs its/\s.heap.IsList p its.toArray:=by
 obtain⟨its,n,r,e,_⟩:=I.lst h;exact⟨its,r,_,e,rfl,n,rfl⟩
theorem l5 (I:Inv X pins σ H s) {p:Addr} {vs:List V} (h:H p=some (.tup vs)):∃ its:Lv,Vals vs its/\s.heap.IsTuple p its.toArray:=by
 obtain⟨its,r,⟨o,e,hc,n,d⟩,_⟩:=I.tuple (a:=p) (xs:=vs) (.inl (.inl h));exact⟨its,r,o,e,hc,n,d⟩
theorem r8 {n:Nat} {A:Around} {xs ys:List D} {vs ws:List V} {us zs:Lv} {e:Nat->Bool} (ih:∀ {d d':D} {v v':V} {u u':Value} {k:Bool},Rep K F d v->Rep K F d' v'->RelV v u->RelV v' u'->eqN n d d'=some k->EqAt A s u u' k)
  (r1:au K F xs vs) (r2:au K F ys ws) (q1:Vals vs us) (q2:Vals ws zs) (he:∀ (j:Nat) x y,xs[j]?=some x->ys[j]?=some y->eqN n x y=some (e j)) :
  ∀ j (h1:j < us.toArray.size) (h2:j < zs.toArray.size),EqAt A s us.toArray[j] zs.toArray[j] (e j):=fun j h1 h2=>by
 obtain⟨v,hv,rv⟩:=Vals.at' q1 h1;obtain⟨w,hw,rw'⟩:=Vals.at' q2 h2;obtain⟨d,hd,rd⟩:=r1.AG hv;obtain⟨d',hd',rd'⟩:=r2.AG hw;exact ih rd rd' rv rw' (he j d d' hd hd')
theorem tD {n:Nat} {A:Around} {p q:Addr} {xs ys:List D} {vs ws:List V} {k:Bool} (I:Inv X pins σ H s) (ih:∀ {d d':D} {v v':V} {u u':Value} {k:Bool},Rep K F d v->Rep K F d' v'->RelV v u->RelV v' u'->eqN n d d'=some k->EqAt A.in1 s u u' k)
  (h1:H p=some (.lst vs)) (h2:H q=some (.lst ws)) (r1:au K F xs vs) (r2:au K F ys ws) (he:dD n xs ys=some k) (hu:A.units < cLine):RcAt A s (.ref p) (.ref q) k:=by
 obtain⟨us,q1,l1⟩:=l6 I h1;obtain⟨zs,q2,l2⟩:=l6 I h2;have n1:us.toArray.size=xs.length:=by rw[<- r1.length,q1.length];simp
 have n2:zs.toArray.size=ys.length:=by rw[<- r2.length,q2.length];simp
 by_cases hl:xs.length=ys.length
 ·obtain⟨e,g,rfl⟩:=iV he;have:=RcAt.lists l1 l2 (by rw[n1,n2,hl]) hu (r8 ih r1 r2 q1 q2 g);rw[n1] at this;rw[hl,Nat.min_self,beq_self_eq_true,Bool.and_true];rw[hl] at this;exact this
 ·rw[oP he hl];refine RcAt.lists_lengths l1 l2 ?_ hu;rw[n1,n2,bne_iff_ne];exact hl
theorem p7 {n:Nat} {A:Around} {p q:Addr} {xs ys:List D} {vs ws:List V} {k:Bool} (I:Inv X pins σ H s) (ih:∀ {d d':D} {v v':V} {u u':Value} {k:Bool},Rep K F d v->Rep K F d' v'->RelV v u->RelV v' u'->eqN n d d'=some k->EqAt A.in1 s u u' k)
  (h1:H p=some (.tup vs)) (h2:H q=some (.tup ws)) (r1:au K F xs vs) (r2:au K F ys ws) (he:dD n xs ys=some k) (hu:A.units < cLine):RcAt A s (.ref p) (.ref q) k:=by
 obtain⟨us,q1,l1⟩:=l5 I h1;obtain⟨zs,q2,l2⟩:=l5 I h2;have n1:us.toArray.size=xs.length:=by rw[<- r1.length,q1.length];simp
 have n2:zs.toArray.size=ys.length:=by rw[<- r2.length,q2.length];simp
 obtain⟨e,g,rfl⟩:=iV he;have:=RcAt.tuples l1 l2 hu (r8 ih r1 r2 q1 q2 g);rw[n1,n2] at this;exact this
theorem rZ (I:Inv X pins σ H s) (sm:aw F H):∀ (n:Nat) {A:Around} {d d':D} {v v':V} {u u':Value} {k:Bool},A.units + n < cLine->Rep K F d v->Rep K F d' v'->RelV v u->RelV v' u'->eqN n d d'=some k->EqAt A s u u' k:=by
 intro n
 induction n with
 | zero=>
  intro A d d' v v' u u' k hu r r' q q' e;unfold eqN at e;split at e <;> (try (cases e;done)) <;> (try (rename_i hn;cases hn;done)) <;> cases r <;> cases r'
  ·cases e;cases q;cases q';exact EqAt.same _
  ·cases e;cases q;cases q';exact .bool_bool _ _
  ·cases e;obtain⟨t,rfl⟩:=q;obtain⟨t',rfl⟩:=q';exact .int_int _ _ _ _
  ·cases e;obtain⟨t,rfl⟩:=q;obtain⟨t',rfl⟩:=q';exact .str_str _ _ _ _
 | succ n ih=>
  intro A d d' v v' u u' k hu r r' q q' e;have hu0:A.units < cLine:=by lia
  have hu1:A.in1.units + n < cLine:=by show A.units + 1 + n < cLine;lia
  have e0:=e;unfold eqN at e;split at e
  ·cases r;cases r';cases e;cases q;cases q';exact EqAt.same _
  ·cases r;cases r';cases e;cases q;cases q';exact .bool_bool _ _
  ·cases r;cases r';cases e;obtain⟨t,rfl⟩:=q;obtain⟨t',rfl⟩:=q';exact .int_int _ _ _ _
  ·cases r;cases r';cases e;obtain⟨t,rfl⟩:=q;obtain⟨t',rfl⟩:=q';exact .str_str _ _ _ _
  ·
   rename_i n' xs ys hn;cases hn;have r0:=r;have r0':=r';obtain⟨p,vs,rfl,a1,b1⟩:=r;obtain⟨p',vs',rfl,a2,b2⟩:=r';cases q;cases q';by_cases z:p=p'
   ·subst z;rw[rY r0 r0' e0];exact EqAt.same _
   ·exact .of_refs z (tD I (fun r r' q q' e=>ih hu1 r r' q q' e) (sm _ _ a1) (sm _ _ a2) b1 b2 e hu0)
  ·
   rename_i n' xs ys hn;cases hn;have r0:=r;have r0':=r';obtain⟨p,vs,rfl,a1,b1⟩:=r;obtain⟨p',vs',rfl,a2,b2⟩:=r';cases q;cases q';by_cases z:p=p'
   ·subst z;rw[rY r0 r0' e0];exact EqAt.same _
   ·exact .of_refs z (p7 I (fun r r' q q' e=>ih hu1 r r' q q' e) (sm _ _ a1) (sm _ _ a2) b1 b2 e hu0)
  ·cases e
def zE (K:Fg0) (n:Nat) (neg:Bool):R2:=fun x y H Q=>∃ F d d' k,aw F H/\fM K F H d x/\fM K F H d' y/\eqN (n + 1) d d'=some k/\Q (.bl (neg ^^ k)) H
theorem HH (I:Inv X pins σ H s) (sm:aw F H) (n:Nat) {A:Around} {d d':D} {v v':V} {u u':Value} {k:Bool} (hu:A.units + n + 1 < cLine) (r:fM K F H d v) (r':fM K F H d' v') (q:RelV v u) (q':RelV v' u') (e:eqN (n + 1) d d'=some k):RcAt A s u u' k:=by
 have hu0:A.units < cLine:=by lia
 have hu1:A.in1.units + n < cLine:=by show A.units + 1 + n < cLine;lia
 unfold eqN at e;split at e
 ·cases r;cases r';cases e;cases q;cases q';exact .none_none
 ·cases r;cases r';cases e;cases q;cases q';exact .bool_bool _ _
 ·cases r;cases r';cases e;obtain⟨t,rfl⟩:=q;obtain⟨t',rfl⟩:=q';exact .int_int _ _ _ _
 ·cases r;cases r';cases e;obtain⟨t,rfl⟩:=q;obtain⟨t',rfl⟩:=q';exact .str_str _ _ _ _
 ·rename_i n' xs ys hn;cases hn;obtain⟨p,vs,rfl,a1,b1⟩:=r;obtain⟨p',vs',rfl,a2,b2⟩:=r';cases q;cases q';exact tD I (fun r r' q q' e=>rZ I sm _ hu1 r r' q q' e) a1 a2 b1 b2 e hu0
 ·rename_i n' xs ys hn;cases hn;obtain⟨p,vs,rfl,a1,b1⟩:=r;obtain⟨p',vs',rfl,a2,b2⟩:=r';cases q;cases q';exact p7 I (fun r r' q q' e=>rZ I sm _ hu1 r r' q q' e) (sm _ _ a1) (sm _ _ a2) b1 b2 e hu0
 ·cases e
theorem FA (hK:X.K=K) {n:Nat} (hu:X.A.units + n + 1 < cLine):OpR X (compareOp .Eq) (zE K n false):=by
 intro pins s σ H x y v u Q I rx ry h;obtain⟨F,d,d',k,sm,r,r',e,q⟩:=h;refine HH I sm n hu r r' rx ry e _ _ _ _ (AN I q (by simp))
def uj (n:Nat) (neg:Bool) (x y:D) (Γ:G) (Q:RV->G->Prop):Prop:=∃ k,eqN (n + 1) x y=some k/\Q (.fz (.bl (neg ^^ k))) Γ
theorem AV {n:Nat} {neg:Bool}:jb K (zE K n neg) (uj n neg):=by
 intro B F σ H Γ x y dx dy Q QQ e rx ry q k;obtain⟨b,hb,q⟩:=q;exact⟨F,dx,dy,b,e.sub,rx,ry,hb,k _ _ (nW e q)⟩
theorem fI (hK:X.K=K) {k:Nat} (hr:cc k X.A):C3 K X .Eq (zE K 20 false) (uj 20 false):=⟨FA hK (by have:=hr.un;lia),AV⟩
theorem zp {n:Nat} {A:Around} {p q:Addr} {xs ys:List D} {vs ws:List V} {k:Bool} (I:Inv X pins σ H s) (ih:∀ {d d':D} {v v':V} {u u':Value} {k:Bool},Rep K F d v->Rep K F d' v'->RelV v u->RelV v' u'->eqN n d d'=some k->EqAt A.in1 s u u' k)
  (h1:H p=some (.lst vs)) (h2:H q=some (.lst ws)) (r1:au K F xs vs) (r2:au K F ys ws) (he:dD n xs ys=some k) (hu:A.units < cLine):RcNeAt A s (.ref p) (.ref q) (!k):=by
 obtain⟨us,q1,l1⟩:=l6 I h1;obtain⟨zs,q2,l2⟩:=l6 I h2;have n1:us.toArray.size=xs.length:=by rw[<- r1.length,q1.length];simp
 have n2:zs.toArray.size=ys.length:=by rw[<- r2.length,q2.length];simp
 by_cases hl:xs.length=ys.length
 ·obtain⟨e,g,rfl⟩:=iV he;have:=RcNeAt.lists l1 l2 (by rw[n1,n2,hl]) hu (r8 ih r1 r2 q1 q2 g);rw[n1] at this;rw[hl,Nat.min_self,beq_self_eq_true,Bool.and_true];rw[hl] at this;exact this
 ·rw[oP he hl];refine RcNeAt.lists_lengths l1 l2 ?_ hu;rw[n1,n2,bne_iff_ne];exact hl
theorem xW {n:Nat} {A:Around} {p q:Addr} {xs ys:List D} {vs ws:List V} {k:Bool} (I:Inv X pins σ H s) (ih:∀ {d d':D} {v v':V} {u u':Value} {k:Bool},Rep K F d v->Rep K F d' v'->RelV v u->RelV v' u'->eqN n d d'=some k->EqAt A.in1 s u u' k)
  (h1:H p=some (.tup vs)) (h2:H q=some (.tup ws)) (r1:au K F xs vs) (r2:au K F ys ws) (he:dD n xs ys=some k) (hu:A.units < cLine):RcNeAt A s (.ref p) (.ref q) (!k):=by
 obtain⟨us,q1,l1⟩:=l5 I h1;obtain⟨zs,q2,l2⟩:=l5 I h2;have n1:us.toArray.size=xs.length:=by rw[<- r1.length,q1.length];simp
 have n2:zs.toArray.size=ys.length:=by rw[<- r2.length,q2.length];simp
 obtain⟨e,g,rfl⟩:=iV he;have:=RcNeAt.tuples l1 l2 hu (r8 ih r1 r2 q1 q2 g);rw[n1,n2] at this;exact this
theorem HF (I:Inv X pins σ H s) (sm:aw F H) (n:Nat) {A:Around} {d d':D} {v v':V} {u u':Value} {k:Bool} (hu:A.units + n + 1 < cLine) (r:fM K F H d v) (r':fM K F H d' v') (q:RelV v u) (q':RelV v' u') (e:eqN (n + 1) d d'=some k):RcNeAt A s u u' (!k):=by
 have hu0:A.units < cLine:=by lia
 have hu1:A.in1.units + n < cLine:=by show A.units + 1 + n < cLine;lia
 unfold eqN at e;split at e
 ·cases r;cases r';cases e;cases q;cases q';exact .none_none
 ·cases r;cases r';cases e;cases q;cases q';exact .bool_bool _ _
 ·cases r;cases r';cases e;obtain⟨t,rfl⟩:=q;obtain⟨t',rfl⟩:=q';exact .int_int _ _ _ _
 ·cases r;cases r';cases e;obtain⟨t,rfl⟩:=q;obtain⟨t',rfl⟩:=q';exact .str_str _ _ _ _
 ·rename_i n' xs ys hn;cases hn;obtain⟨p,vs,rfl,a1,b1⟩:=r;obtain⟨p',vs',rfl,a2,b2⟩:=r';cases q;cases q';exact zp I (fun r r' q q' e=>rZ I sm _ hu1 r r' q q' e) a1 a2 b1 b2 e hu0
 ·rename_i n' xs ys hn;cases hn;obtain⟨p,vs,rfl,a1,b1⟩:=r;obtain⟨p',vs',rfl,a2,b2⟩:=r';cases q;cases q';exact xW I (fun r r' q q' e=>rZ I sm _ hu1 r r' q q' e) (sm _ _ a1) (sm _ _ a2) b1 b2 e hu0
 ·cases e
theorem Fx (hK:X.K=K) {n:Nat} (hu:X.A.units + n + 1 < cLine):OpR X (compareOp .NotEq) (zE K n true):=by
 intro pins s σ H x y v u Q I rx ry h;obtain⟨F,d,d',k,sm,r,r',e,q⟩:=h;refine HF I sm n hu r r' rx ry e _ _ _ _ (AN I q (by simp))
theorem dm (hK:X.K=K) {k:Nat} (hr:cc k X.A):C3 K X .NotEq (zE K 20 true) (uj 20 true):=⟨Fx hK (by have:=hr.un;lia),AV⟩
theorem qo {n:Nat}:∀ (xs ys:Li),dD n (xs.map .int) (ys.map .int)=some (decide (xs=ys))
 | [],[]=>by simp [dD]
 | x::xs,[]=>by simp [dD]
 | [],y::ys=>by simp [dD]
 | x::xs,y::ys=>by
  simp only[List.map_cons,dD,qo xs ys,eqN]
  congr 1
  rw[Bool.eq_iff_iff];simp
theorem ui {n:Nat} (xs ys:Li):eqN (n + 1) (.lst (xs.map .int)) (.lst (ys.map .int))=some (decide (xs=ys)):=by
 unfold eqN;exact qo xs ys
end
end L3
namespace L2
open PySem PySem.Spec PyProof.Rows
structure Acc (Y:Cx) (D:Addr) (pl:Pn) (ys:List V) (σ:St) (H:Hp) (s:Shared):Prop where
 us:∃ us,Inv Y ((D,c6 us us.length)::pl) σ H s/\Vals ys us
 exD:D∈Y.ex
 nd:∀ p∈Y.pn++pl,p.1≠D
abbrev TB:=List V->St->Hp->(List V->St->Hp->Prop)->Prop
def PB (Y:Cx) (D:Addr) (m:Sem Fin->Sem Fin) (t:TB):Prop:=
 ∀ (k:Sem Fin) (pl:Pn) (s:Shared) (ys:List V) (σ:St) (H:Hp) (Q:List V->St->Hp->Prop) (R:Fin->Shared->Prop),Acc Y D pl ys σ H s->t ys σ H Q->
  (∀ ys' σ' H' s',Acc Y D pl ys' σ' H' s'->Q ys' σ' H'->wpAny (model Y.prog Y.w) Y.A k R (fun _ _=>False) s')->wpAny (model Y.prog Y.w) Y.A (m k) R (fun _ _=>False) s
section
variable {Y:Cx} {D:Addr}
def lD (te:TE):TB:=fun ys σ H Q=>ys.length < sizeLine/\te σ H fun y H'=>Q (ys++[y]) σ H'
noncomputable abbrev qr (elt:Expr) (D:Addr) (env:Env) (k:Sem Fin):Sem Fin:=(eval elt env >>= fun x=>call (.builtin "list.append") [.ref D,x] >>= fun _=>pure ()) >>= fun _=>k
theorem Acc.pins {pl:Pn} {ys:List V} {σ σ':St} {H H':Hp} {s s':Shared} {us:Lv} (a:Acc Y D pl ys σ H s) (I:Inv Y ((D,c6 us us.length)::pl) σ' H' s') (r:Vals ys us):Acc Y D pl ys σ' H' s':=⟨⟨us,I,r⟩,a.exD,a.nd⟩
theorem rq {elt:Expr} {te:TE} (hx:Y.xe=fun _ _=>False) (he:PE Y elt te):PB Y D (qr elt D Y.env) (lD te):=by
 intro k pl s ys σ H Q R a ⟨hz,q⟩ hk;obtain⟨us,I,rv⟩:=a.us;have he':=he _ s σ H _ I q;rw[hx] at he';refine wpAny_bind (wpAny_bind (thn he' fun y s7 ⟨yv,H7,I7,r7,q7⟩=>wpAny_bind ?_));obtain⟨pD,pH,pL,pF,pc⟩:=I7.pin (D,c6 us us.length) (List.mem_append_right _ List.mem_cons_self);have hlen:us.length=ys.length:=rv.length.symm;refine append_at (hsz:=by rw[List.size_toArray,hlen];exact Nat.le_of_lt hz) pD fun h8 sb8 hD8=>wpAny_pure ?_;have I7n:Inv Y pl σ H7 s7:=I7.gP fun p z=>I7.pin p (List.mem_append_right _ (List.mem_cons_of_mem _ z));have I8:Inv Y pl σ H7 { s7 with heap:=h8 }:=I7n.turned (t':=s7.toks) (it:=D) (fun b o hb e=>(sb8.2 b hb).trans e) pH pL (.inl a.exD) (fun x c e=>(I7.ok.exf D a.exD).2 x c e) a.nd;have e8:h8.get? D=some (c6 (us++[y]) (us++[y]).length):=by
  rw[hD8];simp
 refine hk (ys++[yv]) σ H7 _ ⟨⟨us++[y],I8.gP fun p z=>?_,rv.append (.cons r7 .nil)⟩,a.exD,a.nd⟩ q7;rcases List.mem_cons.mp z with e | z
 ·subst e;exact⟨e8,pH,pL,pF,fun v z=>by cases z⟩
 ·exact I8.pin p (List.mem_append_right _ z)
def bIf (tc:TT) (t:TB):TB:=fun ys σ H Q=>tc σ H fun b H'=>if b=true then t ys σ H' Q else Q ys σ H'
noncomputable abbrev ifK (c:Expr) (env:Env) (m:Sem Fin->Sem Fin) (k:Sem Fin):Sem Fin:=(forIn [c] true fun c r=>if r=true then do let ok <- isTrue c env (eval c env);pure (ForInStep.yield ok) else pure (ForInStep.yield r)) >>= fun ok=>if ok=true then m k else k
theorem H8 {c:Expr} {tc:TT} {m:Sem Fin->Sem Fin} {t:TB} (hx:Y.xe=fun _ _=>False) (hc:PT Y c tc) (hm:PB Y D m t):PB Y D (ifK c Y.env m) (bIf tc t):=by
 intro k pl s ys σ H Q R a q hk;obtain⟨us,I,rv⟩:=a.us;have hc':=hc _ s σ H _ I q;rw[hx] at hc';refine wpAny_bind (wpAny_tests_one (thn hc' fun b s1 Z=>?_));obtain⟨H1,I1,q1⟩:=Z;cases b with
 | true=>exact hm k pl s1 ys σ H1 Q R (a.pins I1 rv) (by simpa using q1) hk
 | false=>exact hk ys σ H1 s1 (a.pins I1 rv) (by simpa using q1)
def uy (J:It) (g:TG) (t:TB):TB:=fun ys σ H Q=>∃ W:Nat->Nat->List V->St->Hp->Prop,(∃ m,W 0 m ys σ H)/\∀ i m ys σ H,W i m ys σ H->
 (J.stop i H/\Q ys σ H)\/(J.go i H/\∀ x H',J.yld i H x H'->g x σ H' fun σ2 H2=>t ys σ2 H2 fun ys' σ' H''=>∃ m',m' < m/\W (i + 1) m' ys' σ' H'')
theorem D0 {elt:Expr} {gens:List Comprehension} {sc:Scope} {pos p0:Pos} {d:Nat} {tg:Expr} {it:Addr} {fp:La0} {tn:Nat->Heap->Prop} {J:It} {g:TG} {m:Sem Fin->Sem Fin} {t:TB}
  (hx:Y.xe=fun _ _=>False) (hc:Y.calm=true) (T:Turn Y.prog Y.w Y.K tg J fp it tn) (hg:PG Y tg g) (hm:PB Y D m t)
  (hturn:compTurn (.ListComp elt gens sc pos) d (.ref it) (.ref D) Y.env=(standAt p0 >>= fun _=>pyNext (.ref it) >>= fun r=>match r with
   | none=>pure (.done .next)
   | some v=>letOwnedTupleGo tg (.ref it) v >>= fun _=>assign tg Y.env v >>= fun _=>m (again (.compLoop (.ListComp elt gens sc pos) d (.ref it) (.ref D) Y.env))))
  {pl:Pn} {ys:List V} {σ:St} {H:Hp} {s:Shared} {Q:List V->St->Hp->Prop} {R:Result->Shared->Prop} (a:Acc Y D pl ys σ H s) (st:tn 0 s.heap) (f:∀ b∈fp,fN Y pl H b/\D≠b) (q:uy J g t ys σ H Q)
  (hR:∀ ys' σ' H' s',Acc Y D pl ys' σ' H' s'->Q ys' σ' H'->R (.ok .next) s'):codeAny (model Y.prog Y.w) Y.A (.compLoop (.ListComp elt gens sc pos) d (.ref it) (.ref D) Y.env) R s:=by
 obtain⟨W,⟨m0,w0⟩,turn⟩:=q;have stat:∀ {H':Hp} {o:Obj},(∀ b∈fp,H' b=none)->∀ b∈fp,fN Y ((D,o)::pl) H' b:=fun hn b hb=>by
  obtain⟨⟨_,f1,f2,f3,f4,f5⟩,f6⟩:=f b hb;refine⟨hn b hb,f1,f2,f3,f4,fun p hp=>?_⟩;rcases List.mem_append.mp hp with hp | hp
  ·exact f5 p (List.mem_append_left _ hp)
  ·rcases List.mem_cons.mp hp with e | hp
   ·subst e;exact f6
   ·exact f5 p (List.mem_append_right _ hp)
 refine codeAny_loop rfl (fun n s'=>∃ i ys' σ' H',Acc Y D pl ys' σ' H' s'/\tn i s'.heap/\(∀ b∈fp,H' b=none)/\W i n ys' σ' H') (fun n s3 hI=>?_) m0 ⟨0,ys,σ,H,a,st,fun b hb=>(f b hb).1.1,w0⟩;show wpAny _ _ ((compTurn (.ListComp elt gens sc pos) d (.ref it) (.ref D) Y.env).onRaise (fun x=>do noteFrame x Y.env;theTreesLotGoes x)) _ _ s3;refine wpAny_noted ?_;rw[hturn];obtain⟨i,ys3,σ3,H3,a3,st3,fr3,w3⟩:=hI;obtain⟨us3,I3,rv3⟩:=a3.us;have noE:∀ {M:Model} {A:Around} {α:Type} {t:Sem α} {Q:α->Shared->Prop} {E:VS} {s:Shared},wpAny M A t Q (fun _ _=>False) s->wpAny M A t Q E s:=fun h=>wpAny_mono h (fun _ _ x=>x) fun _ _ x=>x.elim;refine wpAny_bind (wpAny_standAt (wpAny_bind ?_));rcases turn i n ys3 σ3 H3 w3 with ⟨stop,qn⟩ | ⟨go,step⟩
 ·refine noE (thn (T.done Y rfl rfl rfl hc i _ s3 σ3 H3 _ I3 (stat fr3) st3 stop) fun r s4 Z=>?_);obtain⟨hr,I4⟩:=Z;subst hr;exact wpAny_pure (hR ys3 σ3 H3 s4 (a3.pins I4 rv3) qn)
 ·refine noE (thn (T.item Y rfl rfl rfl hc i _ s3 σ3 H3 _ I3 (stat fr3) st3 go) fun r s4 Z=>?_);obtain⟨u,hr,h4⟩:=Z;subst hr;refine wpAny_bind (noE (thn h4 fun _ s5 Z=>?_));obtain⟨x,H5,I5,r5,y5,st5,fr5⟩:=Z;have I5':=I5.pinned (stat fr5) (T.obj _ _ st5);have hg':=hg _ s5 σ3 H5 x u _ I5' r5 (step x H5 y5);rw[hx] at hg';refine wpAny_bind (noE (thn hg' fun _ s6 Z=>?_));obtain⟨σ6,H6,I6,q6⟩:=Z;have a6:Acc Y D (pl++nX fp s5.heap) ys3 σ6 H6 s6:=⟨⟨us3,I6,rv3⟩,a.exD,fun p hp=>by
   rcases List.mem_append.mp hp with hp | hp
   ·exact a.nd p (List.mem_append_left _ hp)
   ·rcases List.mem_append.mp hp with hp | hp
    ·exact a.nd p (List.mem_append_right _ hp)
    ·exact fun z=>(f p.1 (qa hp).1).2 z.symm⟩
  refine noE (hm _ _ s6 ys3 σ6 H6 _ _ a6 q6 fun ys7 σ7 H7 s7 a7 ⟨m',hlt,w7⟩=>wpAny_pure ⟨rfl,m',hlt,i + 1,ys7,σ7,H7,?_,?_,?_,w7⟩)
  ·obtain⟨us7,I7,rv7⟩:=a7.us;exact⟨⟨us7,I7.gP fun p hp=>I7.pin p (List.mem_append_right _ (by
    rcases List.mem_cons.mp hp with e | hp
    ·subst e;exact List.mem_cons_self
    ·exact List.mem_cons_of_mem _ (List.mem_append_left _ hp))),rv7⟩,a.exD,a.nd⟩
  ·obtain⟨us7,I7,rv7⟩:=a7.us;exact T.keep _ _ _ st5 fun b hb o e=>(I7.pin (b,o) (List.mem_append_right _ (List.mem_cons_of_mem _ (List.mem_append_right _ (dz hb e))))).1
  ·intro b hb;obtain⟨us7,I7,rv7⟩:=a7.us;obtain⟨o,e,d⟩:=T.obj _ _ st5 b hb;exact(I7.pin (b,o) (List.mem_append_right _ (List.mem_cons_of_mem _ (List.mem_append_right _ (dz hb e))))).2.1
end
theorem k8 {prog:Program} {w:World} {A:Around} {R:Result->Shared->Prop} {s:Shared} {elt:Expr} {gens:List Comprehension} {sc:Scope} {pos:Pos} {d:Nat} {it acc:Value} {env:Env} {tg iter:Expr} {ifs:List Expr} (hcl:gens[d]?=some ⟨tg,iter,ifs,0⟩)
  (same:codeAny (model prog w) A (.compLoop (.ListComp elt gens sc pos) d it acc env) R s)
  (anew:wpAny (model prog w) A (pyIter it) (fun it2 s2=>codeAny (model prog w) A (.compLoop (.ListComp elt gens sc pos) d it2 acc env) R s2) (notedBy (model prog w) A env fun x s2=>R (.error x) s2) s) :
  codeAny (model prog w) A (.compStart (.ListComp elt gens sc pos) d it acc env) R s:=by
 have cl:(clausesOf (.ListComp elt gens sc pos))[d]?=some ⟨tg,iter,ifs,0⟩:=hcl;apply codeAny_of_tree;apply wpAny_notedAt (pos:=theWindowsPlace) (m:=compStart (.ListComp elt gens sc pos) d it acc env);simp only[compStart,cl];apply wpAny_bind;apply wpAny_askSetting;apply wpAny_ite;split
 ·exact wpAny_pure ⟨rfl,same⟩
 ·apply wpAny_bind;apply wpAny_rule;apply wpAny_bind;apply wpAny_standAt;exact wpAny_bind (wpAny_mono anew (fun _ _ q=>wpAny_pure ⟨rfl,q⟩) fun _ _ q=>q)
section
variable {Y:Cx} {D:Addr}
def ux (wi:TI) (g:TG) (t:TB):TB:=fun ys σ H Q=>wi σ H fun J H1=>uy J g t ys σ H1 Q
noncomputable abbrev zr (elt:Expr) (gens:List Comprehension) (sc:Scope) (pos:Pos) (d:Nat) (iter:Expr) (D:Addr) (env:Env) (k:Sem Fin):Sem Fin:=
 eval iter env >>= fun x=>standAt iter.pos >>= fun _=>foldedSetIterable iter env x >>= fun x=>holding [x] (pyIter x) >>= fun itv=>runOwn (.compStart (.ListComp elt gens sc pos) d itv (.ref D) env) env >>= fun _=>k
theorem wR {elt:Expr} {gens:List Comprehension} {sc:Scope} {pos p0:Pos} {d:Nat} {tg iter:Expr} {ifs:List Expr} {wi:TI} {g:TG} {m:Sem Fin->Sem Fin} {t:TB} (hx:Y.xe=fun _ _=>False) (hc:Y.calm=true) (hcl:gens[d]?=some ⟨tg,iter,ifs,0⟩)
  (hi:PI Y tg iter wi) (hg:PG Y tg g) (hm:PB Y D m t)
  (hturn:∀ it,compTurn (.ListComp elt gens sc pos) d (.ref it) (.ref D) Y.env=(standAt p0 >>= fun _=>pyNext (.ref it) >>= fun r=>match r with
   | none=>pure (.done .next)
   | some v=>letOwnedTupleGo tg (.ref it) v >>= fun _=>assign tg Y.env v >>= fun _=>m (again (.compLoop (.ListComp elt gens sc pos) d (.ref it) (.ref D) Y.env))))
  (hs:autoParam (∀ x,foldedSetIterable iter Y.env x=pure x) wT):PB Y D (zr elt gens sc pos d iter D Y.env) (ux wi g t):=by
 intro k pl s ys σ H Q R a q hk;obtain⟨us,I,rv⟩:=a.us;have hi':=hi _ s σ H _ I q;rw[hx] at hi';refine wpAny_bind (thn hi' fun v s1 h1=>wpAny_bind (wpAny_standAt (wpAny_bind ?_)));rw[hs];refine wpAny_pure (wpAny_bind (wpAny_holding (thn h1 fun itv s2 h2=>?_)));obtain⟨it,fp,tn,J,H2,e,I2,T,st2,f2,cw⟩:=h2;subst e;have a2:=a.pins I2 rv;refine wpAny_bind (wpAny_runOwn ?_);have lp:∀ {R:Result->Shared->Prop},(∀ ys' σ' H' s',Acc Y D pl ys' σ' H' s'->Q ys' σ' H'->R (.ok .next) s')->codeAny (model Y.prog Y.w) Y.A (.compLoop (.ListComp elt gens sc pos) d (.ref it) (.ref D) Y.env) R s2:=fun hR=>
  D0 hx hc T hg hm (hturn it) a2 st2 (fun b hb=>by
   obtain⟨f0,f1,f3,f4,f5,f6⟩:=f2 b hb;exact⟨⟨f0,f1,f3,f4,f5,fun p hp=>f6 p (by
    rcases List.mem_append.mp hp with hp | hp
    ·exact List.mem_append_left _ hp
    ·exact List.mem_append_right _ (List.mem_cons_of_mem _ hp))⟩,f6 (D,_) (List.mem_append_right _ List.mem_cons_self)⟩) cw hR
 have fin:=lp (R:=fun r s'=>match r with | .ok f=>wpAny (model Y.prog Y.w) Y.A k R (fun _ _=>False) s' | .error e=>False) fun ys' σ' H' s' a' q'=>hk ys' σ' H' s' a' q';have fin2:codeAny (model Y.prog Y.w) Y.A (.compLoop (.ListComp elt gens sc pos) d (.ref it) (.ref D) Y.env) (fun r s'=>match r with | .ok f=>wpAny (model Y.prog Y.w) Y.A k R (fun _ _=>False) s' | .error e=>cameBackBy (model Y.prog Y.w) Y.A Y.env (fun _ _=>False) e s') s2:=
  codeAny_mono fin fun r s' h=>by cases r with | ok f=>exact h | error e=>exact h.elim
 exact k8 hcl fin2 (wpAny_mono (T.self Y.A 0 _ _ (fun _ _=>False) st2 fin2) (fun _ _ h=>h) fun _ _ h=>h.elim)
end
section
variable {X:Cx}
theorem mO {elt iter tg:Expr} {gens:List Comprehension} {ifs:List Expr} {sc:Scope} {pos p0:Pos} {Nc:Ls} {fr:On} {g:TG} {m:Addr->Env->Sem Fin->Sem Fin} {t:TB} (hcl:gens[0]?=some ⟨tg,iter,ifs,0⟩) (B:Blk X.N X.env.scope sc Nc fr) (hc:X.calm=true)
  (hg:∀ s₀ H₀ C ex pn,PG (aF X sc Nc s₀ H₀ C ex pn) tg g) (hm:∀ s₀ H₀ C ex pn D,PB (aF X sc Nc s₀ H₀ C ex pn) D (m D (aF X sc Nc s₀ H₀ C ex pn).env) t)
  (hturn:∀ (it D:Addr) (env:Env),compTurn (.ListComp elt gens sc pos) 0 (.ref it) (.ref D) env=(standAt p0 >>= fun _=>pyNext (.ref it) >>= fun r=>match r with
   | none=>pure (.done .next)
   | some v=>letOwnedTupleGo tg (.ref it) v >>= fun _=>assign tg env v >>= fun _=>m D env (again (.compLoop (.ListComp elt gens sc pos) 0 (.ref it) (.ref D) env))))
  {pins:Pn} {σ:St} {s2:Shared} {H2:Hp} {it:Addr} {fp:La0} {tn:Nat->Heap->Prop} {J:It} (I2:Inv X pins σ H2 s2) (T:Turn X.prog X.w X.K tg J fp it tn) (st2:tn 0 s2.heap) (f2:∀ b∈fp,fN X pins H2 b)
  {Q:VK} (cw:uy J g t [] (i_ fr σ) H2 fun ys _ H'=>ys.length < sizeLine/\∀ l,H' l=none->Q (.ref l) (upd H' l (.lst ys))) {RR:Value->Addr->Result->Shared->Prop} {E:VS}
  (hRR:∀ D C s' H',Inv X pins σ H' s'->(∃ m,s'.heap.Ns C m)->fN X pins H' C->Q (.ref D) H'->RR (.ref D) C (.ok .next) s') :
  wpAny (model X.prog X.w) X.A (newList []) (fun acc s₃=>wpAny (model X.prog X.w) X.A (newFunctionEnv sc X.env.globals (takes X.env.cells sc.names []) [] X.env.qual none .none (some X.env)) (fun cenv s₄=>
   codeAny (model X.prog X.w) X.A (.compStart (.ListComp elt gens sc pos) 0 (.ref it) acc { cenv with scope:=relabel sc X.env }) (RR acc cenv.locals) s₄) E s₃) E s2:=by
 refine wpAny_newObj_type (qc fun h₁ hns₁ old₁ cl₁=>?_);dsimp only at hns₁ old₁ cl₁ ⊢;generalize hH2:s2.heap.push { cls:=.type "list",dict:=none,data:=.seq ([]:Lv).toArray }=hp at hns₁ old₁ cl₁ ⊢;have hCs:hp.objs.size=s2.heap.objs.size + 1:=by rw[<- hH2,Heap.size_push]
 generalize hCe:hp.objs.size=C at hns₁ cl₁ ⊢;generalize hDe:s2.heap.objs.size=D at hCs ⊢;have hDC:D≠C:=by rw[<- hCe,hCs];exact Nat.ne_of_lt (Nat.lt_succ_self _)
 have up:∀ b o,s2.heap.get? b=some o->hp.get? b=some o:=fun b o e=>by rw[<- hH2];exact Heap.get?_push_of_some _ e
 have hDp:hp.get? D=some (c6 [] 0):=by rw[<- hH2,<- hDe];exact Heap.get?_push_size _ rfl
 have I3:Inv X pins σ H2 { s2 with heap:=hp }:=I2.kept (t':=s2.toks) up;have hD0:H2 D=none:=I2.hok.fresh (by rw[hDe];exact Nat.le_refl _);have fD:fN X pins H2 D:=I2.pP (by rw[hDe];exact Nat.le_refl _) hD0;have fpo:∀ b∈fp,∃ o,s2.heap.get? b=some o/\∀ v,o.data≠.cell v:=T.obj 0 _ st2;have fplt:∀ b∈fp,b < D:=fun b hb=>by obtain⟨o,e,_⟩:=fpo b hb;rw[<- hDe];exact Heap.lt_size e
 have hDfp:D∉fp:=fun hb=>Nat.lt_irrefl _ (fplt D hb);have hCfp:C∉fp:=fun hb=>by have:=fplt C hb;rw[<- hCe,hCs] at this;exact absurd (Nat.lt_of_succ_lt this) (Nat.lt_irrefl _)
 have nobase:∀ b,(b∈X.ex\/X.s₀.heap.objs.size<=b)->∀ o,X.base.get? b≠some o:=fun b h o e=>by
  rcases h with h | h
  ·exact I2.ok.noex b o e h
  ·exact absurd (Nat.lt_of_lt_of_le (Heap.lt_size e) (Nat.le_trans I2.ok.bsz h)) (Nat.lt_irrefl _)
 have hex:∀ b∈D::fp,b < hp.objs.size/\b∉X.fs/\b≠X.env.locals/\(∀ x c,X.env.cells.lookup x=some c->c≠b)/\∀ o,X.base.get? b≠some o:=fun b hb=>by
  have fb:fN X pins H2 b:=by
   rcases List.mem_cons.mp hb with e | hb
   ·rw[e];exact fD
   ·exact f2 b hb
  refine⟨?_,fb.2.2.1,fb.2.1,fb.2.2.2.2.1,nobase b fb.2.2.2.1⟩;rcases List.mem_cons.mp hb with e | hb
  ·rw[e,hCs];exact Nat.lt_succ_self _
  ·rw[hCs];exact Nat.lt_succ_of_lt (fplt b hb)
 have hCle:hp.objs.size<=C:=by rw[hCe];exact Nat.le_refl _
 have ok:(aF X sc Nc { s2 with heap:=hp } H2 C (D::fp) (X.pn++pins)).Ok:=Bl B I3 hCle hex;have old:∀ b u,hp.get? b=some u->h₁.get? b=some u:=old₁;have J0:Inv (aF X sc Nc { s2 with heap:=hp } H2 C (D::fp) (X.pn++pins)) [(D,c6 [] 0)] (i_ fr σ) H2 { s2 with heap:=h₁ }:=
  xC B ok I3 hCle rfl rfl old hns₁ cl₁ hDp hD0 fD.2.1 fD.2.2.1 (fun v z=>by cases z)
 have a0:Acc (aF X sc Nc { s2 with heap:=hp } H2 C (D::fp) (X.pn++pins)) D [] [] (i_ fr σ) H2 { s2 with heap:=h₁ }:=
  ⟨⟨[],J0,.nil⟩,List.mem_cons_self,fun p hp'=>fD.2.2.2.2.2 p (by simpa using hp')⟩
 have fpY:∀ b∈fp,fN (aF X sc Nc { s2 with heap:=hp } H2 C (D::fp) (X.pn++pins)) [] H2 b/\D≠b:=fun b hb=>
  ⟨⟨(f2 b hb).1,fun e=>hCfp (by have e':b=C:=e;rw[<- e'];exact hb),ok.exfs b (List.mem_cons_of_mem _ hb),.inl (List.mem_cons_of_mem _ hb),(ok.exf b (List.mem_cons_of_mem _ hb)).2,fun p hp'=>(f2 b hb).2.2.2.2.2 p (by simpa using hp')⟩,fun z=>hDfp (by rw[z];exact hb)⟩
 have loop:codeAny (model X.prog X.w) X.A (.compLoop (.ListComp elt gens sc pos) 0 (.ref it) (.ref D) (compEnvC sc (bcl X.env.cells sc C) C X.env)) (RR (.ref D) C) { s2 with heap:=h₁ }:=by
  refine D0 (Y:=aF X sc Nc { s2 with heap:=hp } H2 C (D::fp) (X.pn++pins)) (D:=D) rfl hc T (hg _ _ _ _ _) (hm _ _ _ _ _ D) (hturn it D _) a0 (T.keep _ _ _ st2 (fun b _ o e=>old b o (up b o e))) fpY cw fun ys σ4 H3 s4 a4 hq=>?_;obtain⟨us,I4,rv⟩:=a4.us;obtain⟨hsz,qn⟩:=hq;obtain⟨pD,pH,_,_,_⟩:=I4.pin (D,c6 us us.length) (List.mem_append_right _ List.mem_cons_self);obtain⟨mC',hnC,_⟩:=I4.loc;have un:Un (frs X.stack) fp H2 (upd H3 D (.lst ys)) s2.heap s4.heap:=by
   have u0:Un (frs X.stack) (D::fp) H2 H3 hp s4.heap:=I4.base;have neD:∀ {b:Addr} {o:Obj},s2.heap.get? b=some o->b≠D:=fun e=>by rw[<- hDe];exact Nat.ne_of_lt (Heap.lt_size e)
   have nx:∀ {b:Addr} {o:Obj},s2.heap.get? b=some o->b∉fp->b∉D::fp:=fun e h1 h2=>by
    rcases List.mem_cons.mp h2 with z | z
    ·exact neD e z
    ·exact h1 z
   have neT:∀ {b:Addr} {o:HO},H2 b=some o->b≠D:=fun e z=>by rw[z,hD0] at e;cases e
   exact⟨fun b o e n hb hx=>u0.keep b o (up b o e) n hb (nx e hx),fun b o e n hb hx=>u0.slot b o (up b o e) n hb (nx e hx),fun b o e n hx=>by rw[aj (neD e)];exact u0.free b o (up b o e) n (nx e hx),
    fun b o e hx=>u0.there b o (up b o e) (nx e hx),fun b xs e=>by rw[aj (neT e)];exact u0.tups b xs e,fun b o xs e=>by rw[aj (neT e)];exact u0.frzs b o xs e,fun b ps e=>by rw[aj (neT e)];exact u0.tbls b ps e⟩
  have hok:HOk X.prog X.w (upd H3 D (.lst ys)) s4.heap:=fun b u e=>by
   by_cases hb:b=D
   ·subst hb;rw[aA] at e;cases e;exact⟨Nat.le_of_lt hsz,us,us.length,rv,pD⟩
   ·rw[aj hb] at e;refine(I4.hok b u e).sP (fun c v _ q=>q) (fun c q=>?_) fun c xs q=>?_
    ·rw[aj (fun z=>by rw[z] at q;rw[show H3 D=none from pH] at q;cases q)];exact q
    ·rw[aj (fun z=>by rw[z] at q;rw[show H3 D=none from pH] at q;cases q)];exact q
  have I5:Inv X pins σ (upd H3 D (.lst ys)) s4:=I2.Ei I4.os un hok I4.bare fun b hb=>⟨(f2 b hb).2.2.2.1,(f2 b hb).2.1,(f2 b hb).2.2.2.2.1,(f2 b hb).2.2.2.2.2⟩;refine hRR D C s4 _ I5 ⟨mC',hnC⟩ ?_ (qn D pH);have hC2:s2.heap.objs.size<=C:=by rw[hDe,<- hCe,hCs];exact Nat.le_succ _
  refine I2.pP hC2 ?_;rw[aj (Ne.symm hDC)];exact I4.free
 exact k8 hcl loop (wpAny_mono (T.self X.A 0 _ _ (fun _ _=>False) (T.keep _ _ _ st2 (fun b _ o e=>old b o (up b o e))) loop) (fun _ _ h=>h) fun _ _ h=>h.elim)
def gJ (fr:On) (wi:TI) (g:TG) (t:TB):TE:=fun σ H Q=>wi σ H fun J H1=>uy J g t [] (i_ fr σ) H1 fun ys _ H'=>ys.length < sizeLine/\∀ l,H' l=none->Q (.ref l) (upd H' l (.lst ys))
theorem tF {elt iter tg:Expr} {ifs:List Expr} {rest:List Comprehension} {sc:Scope} {pos p0:Pos} {Nc:Ls} {fr:On} {wi:TI} {g:TG} {m:Addr->Env->Sem Fin->Sem Fin} {t:TB} (hc:X.calm=true) (hi:PI X tg iter wi) (B:Blk X.N X.env.scope sc Nc fr)
  (hg:∀ s₀ H₀ C ex pn,PG (aF X sc Nc s₀ H₀ C ex pn) tg g) (hm:∀ s₀ H₀ C ex pn D,PB (aF X sc Nc s₀ H₀ C ex pn) D (m D (aF X sc Nc s₀ H₀ C ex pn).env) t)
  (hturn:∀ (it D:Addr) (env:Env),compTurn (.ListComp elt (⟨tg,iter,ifs,0⟩::rest) sc pos) 0 (.ref it) (.ref D) env=(standAt p0 >>= fun _=>pyNext (.ref it) >>= fun r=>match r with
   | none=>pure (.done .next)
   | some v=>letOwnedTupleGo tg (.ref it) v >>= fun _=>assign tg env v >>= fun _=>m D env (again (.compLoop (.ListComp elt (⟨tg,iter,ifs,0⟩::rest) sc pos) 0 (.ref it) (.ref D) env)))) (hs:autoParam (∀ x,foldedSetIterable iter X.env x=pure x) wT) :
  PE X (.ListComp elt (⟨tg,iter,ifs,0⟩::rest) sc pos) (gJ fr wi g t):=by
 intro pins s σ H Q I h;rw[eval_ListComp];refine wpAny_comprehension_free (use:=none) rfl hs (nB B I) B.kind B.locs (thn (hi pins s σ H _ I h) fun v s1 h1=>thn h1 fun itv s2 h2=>?_);obtain⟨it,fp,tn,J,H2,e,I2,T,st2,f2,cw⟩:=h2;subst e;refine mO (RR:=fun acc C=>compPost (model X.prog X.w) X.A X.xe none (EP X pins σ Q) acc C) rfl B hc hg hm hturn I2 T st2 f2 cw fun D C s' H' I' hn fC q=>?_;obtain⟨m,hn⟩:=hn;exact⟨m,hn,fun h' sb=>⟨.ref D,H',I'.turned (t':=s'.toks) (fun b o hb e=>(sb.2 b hb).trans e) fC.1 fC.2.1 fC.2.2.2.1 fC.2.2.2.2.1 fC.2.2.2.2.2,rfl,q⟩⟩
theorem mh {i:Nat} {x:Str} {px spos:Pos} {elt iter tg:Expr} {ifs:List Expr} {rest:List Comprehension} {sc:Scope} {pos p0:Pos} {Nc:Ls} {fr:On} {wi:TI} {g:TG} {m:Addr->Env->Sem Fin->Sem Fin} {t:TB} (hN:X.N.Nodup) (hi':X.N[i]?=some x) (hx:X.env.scope.names.lookup x=some .local)
  (hc:X.calm=true) (hi:PI X tg iter wi) (B:Blk X.N X.env.scope sc Nc fr)
  (hg:∀ s₀ H₀ C ex pn,PG (aF X sc Nc s₀ H₀ C ex pn) tg g) (hm:∀ s₀ H₀ C ex pn D,PB (aF X sc Nc s₀ H₀ C ex pn) D (m D (aF X sc Nc s₀ H₀ C ex pn).env) t)
  (hturn:∀ (it D:Addr) (env:Env),compTurn (.ListComp elt (⟨tg,iter,ifs,0⟩::rest) sc pos) 0 (.ref it) (.ref D) env=(standAt p0 >>= fun _=>pyNext (.ref it) >>= fun r=>match r with
   | none=>pure (.done .next)
   | some v=>letOwnedTupleGo tg (.ref it) v >>= fun _=>assign tg env v >>= fun _=>m D env (again (.compLoop (.ListComp elt (⟨tg,iter,ifs,0⟩::rest) sc pos) 0 (.ref it) (.ref D) env))))
  (hsw:autoParam (swapsWith (.ListComp elt (⟨tg,iter,ifs,0⟩::rest) sc pos) (some (.Name x px)) spos.line X.env=pure true) wE) (hs:autoParam (∀ x,foldedSetIterable iter X.env x=pure x) wT) :
  PS X (.Assign [.Name x px] (.ListComp elt (⟨tg,iter,ifs,0⟩::rest) sc pos) spos) (eZ (gJ fr wi g t) (cS i)):=by
 intro pins s σ H D I h;rw[exec_Assign_Name_used _ _ _ _ hsw];refine wpAny_bind (wpAny_standAt (wpAny_bind ?_));show wpAny _ X.A (do let _ <- comprehension (.ListComp elt (⟨tg,iter,ifs,0⟩::rest) sc pos) sc X.env _ (newList []) false (eval iter X.env) (some (assign (.Name x px) X.env))) _ _ s;refine wpAny_bind (wpAny_mono (wpAny_comprehension_free (use:=some (assign (.Name x px) X.env)) (Q:=fun _ s'=>SP X pins D .next s') rfl hs (nB B I) B.kind B.locs
  (thn (hi pins s σ H _ I h) fun v s1 h1=>thn h1 fun itv s2 h2=>?_)) (fun _ s' hq=>wpAny_pure (wpAny_pure hq)) fun _ _ e=>e)
 obtain⟨it,fp,tn,J,H2,e,I2,T,st2,f2,cw⟩:=h2;subst e;refine mO (Q:=fun x H1=>cS i x σ H1 D.nx) (RR:=fun acc C=>compPost (model X.prog X.w) X.A X.xe (some (assign (.Name x px) X.env)) (fun _ s'=>SP X pins D .next s') acc C) rfl B hc hg hm hturn I2 T st2 f2 cw fun L C s' H' I' hn fC q=>?_;obtain⟨m,hn⟩:=hn;show wpAny _ X.A (assign (.Name x px) X.env (.ref L)) _ _ _;refine wpAny_assign_Name (lJ I' hN hi' (.inl hx) (v:=.ref L) rfl (fun s3 I3 hs3=>?_) (.inr hx));obtain⟨a,sb,ha⟩:=hs3;have hCa:C≠a:=by
  rcases ha with e | e
  ·rw[e];exact fC.2.1
  ·exact fun z=>fC.2.2.2.2.1 _ _ e (by rw[z])
 exact⟨m,hn.sameBut sb hCa,fun h' sb'=>⟨_,H',I3.turned (t':=s3.toks) (fun b o hb e=>(sb'.2 b hb).trans e) fC.1 fC.2.1 fC.2.2.2.1 fC.2.2.2.2.1 fC.2.2.2.2.2,q⟩⟩
end
end L2
namespace L3
open PySem L2 PySem.Spec
abbrev jB:=List D->G->(List D->G->Prop)->Prop
noncomputable def PoL (K:Fg0) (B:Bs) (F:Hp) (Q:List D->G->Prop):List V->L2.St->Hp->Prop:=fun ys' σ' H'=>∃ F' Γ' ds',aw F F'/\En K B F' σ' H' Γ'/\au K F' ds' ys'/\Q ds' Γ'
def mT (K:Fg0) (t:TB) (b3:jB):Prop:=∀ (B:Bs) (F:Hp) (σ:L2.St) (H:Hp) (Γ:G) (ys:List V) (ds:List D) (Q:List D->G->Prop) (QQ:List V->L2.St->Hp->Prop),En K B F σ H Γ->au K F ds ys->b3 ds Γ Q->(∀ ys' σ' H',PoL K B F Q ys' σ' H'->QQ ys' σ' H')->t ys σ H QQ
structure G4 (K:Fg0) (Y:Cx) (D:Addr) (m:Sem Fin->Sem Fin) (t:TB) (b3:jB):Prop where
 pe:PB Y D m t
 rf:mT K t b3
def k7 (e3:TE3) (ys:List D) (Γ:G) (Q:List D->G->Prop):Prop:=ys.length < sizeLine/\e3 Γ fun r Γ1=>Q (ys++[r.d]) Γ1
def yJ (c3:TT3) (b3:jB) (ys:List D) (Γ:G) (Q:List D->G->Prop):Prop:=c3 Γ fun b Γ1=>match b with
 | true=>b3 ys Γ1 Q
 | false=>Q ys Γ1
def w4 (xs:List D) (g3:TG3) (b3:jB) (ys:List D) (Γ:G) (Q:List D->G->Prop):Prop:=∃ Iv:Nat->List D->G->Prop,Iv 0 ys Γ/\(∀ k d ys Γ,xs[k]?=some d->Iv k ys Γ->g3 d Γ fun Γ'=>b3 ys Γ' (Iv (k + 1)))/\∀ ys Γ,Iv xs.length ys Γ->Q ys Γ
def fX (i3:TI3) (g3:TG3) (b3:jB) (ys:List D) (Γ:G) (Q:List D->G->Prop):Prop:=i3 Γ fun xs Γ1=>w4 xs g3 b3 ys Γ1 Q
def gS (fr:On) (i3:TI3) (g3:TG3) (b3:jB) (Γ:G) (Q:RV->G->Prop):Prop:=i3 Γ fun xs Γ1=>w4 xs g3 b3 [] (c7 Γ1 (cT fr)) fun ys Γc=>ys.length < sizeLine/\Q (.fr (.lst ys)) (bK fr Γ1 Γc)
section
variable {K:Fg0} {X Y:Cx} {Da:Addr} {pos p0:Pos}
theorem fj {te:TE} {e3:TE3} (h:Ref K te e3):mT K (lD te) (k7 e3):=by
 intro B F σ H Γ ys ds Q QQ e r ⟨hz,q⟩ k;refine⟨by rw[r.length];exact hz,h B F σ H Γ _ _ e q fun v H' ⟨F',Γ',rv,s,e',rr,q'⟩=>k _ _ _ ?_⟩;obtain⟨F2,s2,e2,r2⟩:=e'.frozen rr;exact⟨F2,Γ',ds++[rv.d],s.trans s2,e2,au.append (ys:=[rv.d]) (r.mono (s.trans s2)) ⟨v,[],rfl,r2,rfl⟩,q'⟩
theorem nk {tc:TT} {c3:TT3} {t:TB} {b3:jB} (hc:m_ K tc c3) (h:mT K t b3):mT K (bIf tc t) (yJ c3 b3):=by
 intro B F σ H Γ ys ds Q QQ e r q k;refine hc B F σ H Γ _ _ e q fun b H' Z=>?_;obtain⟨F',Γ',s,e',q'⟩:=Z;cases b with
 | true=>exact vw (h B F' σ H' Γ' ys ds Q QQ e' (r.mono s) q' fun ys' σ' H2 ⟨F2,Γ2,d2,s2,rest⟩=>k _ _ _ ⟨F2,Γ2,d2,s.trans s2,rest⟩)
 | false=>exact vy (k _ _ _ ⟨F',Γ',ds,s,e',r.mono s,q'⟩)
theorem s_ {J:It} {xs:List D} {g:TG} {g3:TG3} {t:TB} {b3:jB} (hg:yL K g g3) (h:mT K t b3) {B:Bs} {F:Hp} {σ:L2.St} {H:Hp} {Γ:G} {ys:List V} {ds:List D} {Q:List D->G->Prop} {QQ:List V->L2.St->Hp->Prop}
  (R:ItR K F J xs) (e:En K B F σ H Γ) (r:au K F ds ys) (q:w4 xs g3 b3 ds Γ Q) (k:∀ ys' σ' H',PoL K B F Q ys' σ' H'->QQ ys' σ' H'):uy J g t ys σ H QQ:=by
 obtain⟨Iv,i0,it,ie⟩:=q;refine⟨fun i m ys σ H=>m=xs.length - i/\i<=xs.length/\∃ F' Γ' ds,aw F F'/\En K B F' σ H Γ'/\au K F' ds ys/\Iv i ds Γ',⟨_,rfl,Nat.zero_le _,F,Γ,ds,aw.refl F,e,r,i0⟩,?_⟩;rintro i m ys2 σ2 H2 ⟨rfl,hi,F2,Γ2,ds2,s2,e2,r2,iv⟩;by_cases lt:i < xs.length
 ·refine .inr ⟨R.go i H2 (s2.trans e2.sub) lt,fun x H3 y=>?_⟩;have hd:xs[i]?=some xs[i]:=gE0 lt;obtain⟨F3,s3,e3,r3⟩:=R.turn s2 e2 hd y;refine hg B F3 σ2 H3 Γ2 x _ _ _ e3 r3 (it i _ ds2 Γ2 hd iv) fun σ' Γ' e4 q4=>?_;exact h B F3 σ' H3 Γ' ys2 ds2 _ _ e4 (r2.mono s3) q4 fun ys' σ'' H4 ⟨F4,Γ4,d4,s4,e5,r5,iv5⟩=>⟨xs.length - (i + 1),by lia,rfl,lt,F4,Γ4,d4,(s2.trans s3).trans s4,e5,r5,iv5⟩
 ·have z:i=xs.length:=by lia
  subst z;exact .inl ⟨R.stop _ H2 (s2.trans e2.sub) rfl,k _ _ _ ⟨F2,Γ2,ds2,s2,e2,r2,ie ds2 Γ2 iv⟩⟩
theorem nT {wi:TI} {i3:TI3} {g:TG} {g3:TG3} {t:TB} {b3:jB} (hi:BM K wi i3) (hg:yL K g g3) (h:mT K t b3):mT K (ux wi g t) (fX i3 g3 b3):=by
 intro B F σ H Γ ys ds Q QQ e r q k;refine hi B F σ H Γ _ _ e q fun J H1 F1 Γ1 xs s1 e1 R q1=>?_;exact s_ hg h R e1 (r.mono s1) q1 fun ys' σ' H2 ⟨F2,Γ2,d2,s2,rest⟩=>k _ _ _ ⟨F2,Γ2,d2,s1.trans s2,rest⟩
theorem eX {fr:On} {wi:TI} {i3:TI3} {g:TG} {g3:TG3} {t:TB} {b3:jB} (nd:(fr.filterMap id).Nodup) (hi:BM K wi i3) (hg:yL K g g3) (h:mT K t b3):Ref K (gJ fr wi g t) (gS fr i3 g3 b3):=by
 intro B F σ H Γ Q QQ e q k;refine hi B F σ H Γ _ _ e q fun J H1 F1 Γ1 xs s1 e1 R q1=>?_;refine s_ hg h R (e1.blk nd) (ds:=[]) rfl q1 fun ys σ' H2 ⟨F2,Γ2,d2,s2,e2,r2,hz,q2⟩=>⟨by rw[r2.length];exact hz,fun l hl'=>k _ _ ?_⟩;have eo:En K B F2 σ H2 (bK fr Γ1 Γ2):=e1.back (ls:=fr) e2 (by have:=kq (Γ:=Γ1) (σ:=σ) (bs:=cT fr);rw[oB] at this;exact this);exact Po.mono (s1.trans s2) (fY eo hl' r2 q2)
theorem xD {elt:Expr} {te:TE} {e3:TE3} (hx:Y.xe=fun _ _=>False) (he:P3 K Y elt te e3):G4 K Y Da (qr elt Da Y.env) (lD te) (k7 e3):=⟨rq hx he.pe,fj he.rf⟩
theorem Er {c:Expr} {tc:TT} {c3:TT3} {m:Sem Fin->Sem Fin} {t:TB} {b3:jB} (hx:Y.xe=fun _ _=>False) (hc:P3T K Y c tc c3) (hm:G4 K Y Da m t b3):G4 K Y Da (ifK c Y.env m) (bIf tc t) (yJ c3 b3):=⟨H8 hx hc.pe hm.pe,nk hc.rf hm.rf⟩
theorem zX {elt iter tg c:Expr} {sc:Scope} {Nc:Ls} {fr:On} {wi:TI} {i3:TI3} {g:TG} {g3:TG3} {te:TE} {e3:TE3} {tc:TT} {c3:TT3} (hc:X.calm=true) (hi:P3I K X tg iter wi i3) (Bk:Blk X.N X.env.scope sc Nc fr)
  (hg:∀ s₀ H₀ C ex pn,P3G K (aF X sc Nc s₀ H₀ C ex pn) tg g g3) (ht:∀ s₀ H₀ C ex pn,P3T K (aF X sc Nc s₀ H₀ C ex pn) c tc c3) (he:∀ s₀ H₀ C ex pn,P3 K (aF X sc Nc s₀ H₀ C ex pn) elt te e3) (nd:autoParam ((fr.filterMap id).Nodup) wP) (hs:autoParam (∀ x,foldedSetIterable iter X.env x=pure x) wT) :
  P3 K X (.ListComp elt [⟨tg,iter,[c],0⟩] sc pos) (gJ fr wi g (bIf tc (lD te))) (gS fr i3 g3 (yJ c3 (k7 e3))):=
 ⟨tF (m:=fun D env=>ifK c env (qr elt D env)) hc hi.pe Bk (fun a b c d e=>(hg a b c d e).pe) (fun a b c d e D=>(Er rfl (ht a b c d e) (xD rfl (he a b c d e))).pe) (fun _ _ _=>rfl) hs,eX nd hi.rf (hg X.s₀ X.H₀ 0 [] []).rf (nk (ht X.s₀ X.H₀ 0 [] []).rf (fj (he X.s₀ X.H₀ 0 [] []).rf))⟩
theorem sU {i:Nat} {x:Str} {px spos:Pos} {elt iter tg c:Expr} {sc:Scope} {Nc:Ls} {fr:On} {wi:TI} {i3:TI3} {g:TG} {g3:TG3} {te:TE} {e3:TE3} {tc:TT} {c3:TT3} (hN:X.N.Nodup) (hi':X.N[i]?=some x) (hx:X.env.scope.names.lookup x=some .local)
  (hc:X.calm=true) (hi:P3I K X tg iter wi i3) (Bk:Blk X.N X.env.scope sc Nc fr)
  (hg:∀ s₀ H₀ C ex pn,P3G K (aF X sc Nc s₀ H₀ C ex pn) tg g g3) (ht:∀ s₀ H₀ C ex pn,P3T K (aF X sc Nc s₀ H₀ C ex pn) c tc c3) (he:∀ s₀ H₀ C ex pn,P3 K (aF X sc Nc s₀ H₀ C ex pn) elt te e3) (nd:autoParam ((fr.filterMap id).Nodup) wP)
  (hsw:autoParam (swapsWith (.ListComp elt [⟨tg,iter,[c],0⟩] sc pos) (some (.Name x px)) spos.line X.env=pure true) wE) (hs:autoParam (∀ x,foldedSetIterable iter X.env x=pure x) wT) :
  P3S K X (.Assign [.Name x px] (.ListComp elt [⟨tg,iter,[c],0⟩] sc pos) spos) (eZ (gJ fr wi g (bIf tc (lD te))) (cS i)) (sQ i (gS fr i3 g3 (yJ c3 (k7 e3)))):=
 ⟨mh (m:=fun D env=>ifK c env (qr elt D env)) hN hi' hx hc hi.pe Bk (fun a b c d e=>(hg a b c d e).pe) (fun a b c d e D=>(Er rfl (ht a b c d e) (xD rfl (he a b c d e))).pe) (fun _ _ _=>rfl) hsw hs,jg (eX nd hi.rf (hg X.s₀ X.H₀ 0 [] []).rf (nk (ht X.s₀ X.H₀ 0 [] []).rf (fj (he X.s₀ X.H₀ 0 [] []).rf)))⟩
theorem zY {elt i0 t0 i1 t1:Expr} {sc:Scope} {Nc:Ls} {fr:On} {wi:TI} {i3:TI3} {g:TG} {g3:TG3} {wi1:TI} {j3:TI3} {g1:TG} {h3:TG3} {te:TE} {e3:TE3} (hc:X.calm=true) (hi:P3I K X t0 i0 wi i3) (Bk:Blk X.N X.env.scope sc Nc fr)
  (hg:∀ s₀ H₀ C ex pn,P3G K (aF X sc Nc s₀ H₀ C ex pn) t0 g g3) (hj:∀ s₀ H₀ C ex pn,P3I K (aF X sc Nc s₀ H₀ C ex pn) t1 i1 wi1 j3) (hh:∀ s₀ H₀ C ex pn,P3G K (aF X sc Nc s₀ H₀ C ex pn) t1 g1 h3)
  (he:∀ s₀ H₀ C ex pn,P3 K (aF X sc Nc s₀ H₀ C ex pn) elt te e3) (hs1:∀ s₀ H₀ C ex pn x,foldedSetIterable i1 (aF X sc Nc s₀ H₀ C ex pn).env x=pure x:=by intros;rfl) (nd:autoParam ((fr.filterMap id).Nodup) wP) (hs:autoParam (∀ x,foldedSetIterable i0 X.env x=pure x) wT) :
  P3 K X (.ListComp elt [⟨t0,i0,[],0⟩,⟨t1,i1,[],0⟩] sc pos) (gJ fr wi g (ux wi1 g1 (lD te))) (gS fr i3 g3 (fX j3 h3 (k7 e3))):=
 ⟨tF (m:=fun D env=>zr elt [⟨t0,i0,[],0⟩,⟨t1,i1,[],0⟩] sc pos 1 i1 D env) hc hi.pe Bk (fun a b c d e=>(hg a b c d e).pe)
  (fun a b c d e D=>wR (m:=qr elt D _) rfl hc (by rfl) (hj a b c d e).pe (hh a b c d e).pe (rq rfl (he a b c d e).pe) (fun _=>rfl) (hs1 a b c d e)) (fun _ _ _=>rfl) hs,
  eX nd hi.rf (hg X.s₀ X.H₀ 0 [] []).rf (nT (hj X.s₀ X.H₀ 0 [] []).rf (hh X.s₀ X.H₀ 0 [] []).rf (fj (he X.s₀ X.H₀ 0 [] []).rf))⟩
theorem sV {i:Nat} {x:Str} {px spos:Pos} {elt i0 t0 i1 t1:Expr} {sc:Scope} {Nc:Ls} {fr:On} {wi:TI} {i3:TI3} {g:TG} {g3:TG3} {wi1:TI} {j3:TI3} {g1:TG} {h3:TG3} {te:TE} {e3:TE3} (hN:X.N.Nodup) (hi':X.N[i]?=some x) (hx:X.env.scope.names.lookup x=some .local)
  (hc:X.calm=true) (hi:P3I K X t0 i0 wi i3) (Bk:Blk X.N X.env.scope sc Nc fr)
  (hg:∀ s₀ H₀ C ex pn,P3G K (aF X sc Nc s₀ H₀ C ex pn) t0 g g3) (hj:∀ s₀ H₀ C ex pn,P3I K (aF X sc Nc s₀ H₀ C ex pn) t1 i1 wi1 j3) (hh:∀ s₀ H₀ C ex pn,P3G K (aF X sc Nc s₀ H₀ C ex pn) t1 g1 h3)
  (he:∀ s₀ H₀ C ex pn,P3 K (aF X sc Nc s₀ H₀ C ex pn) elt te e3) (hs1:∀ s₀ H₀ C ex pn x,foldedSetIterable i1 (aF X sc Nc s₀ H₀ C ex pn).env x=pure x:=by intros;rfl) (nd:autoParam ((fr.filterMap id).Nodup) wP)
  (hsw:autoParam (swapsWith (.ListComp elt [⟨t0,i0,[],0⟩,⟨t1,i1,[],0⟩] sc pos) (some (.Name x px)) spos.line X.env=pure true) wE) (hs:autoParam (∀ x,foldedSetIterable i0 X.env x=pure x) wT) :
  P3S K X (.Assign [.Name x px] (.ListComp elt [⟨t0,i0,[],0⟩,⟨t1,i1,[],0⟩] sc pos) spos) (eZ (gJ fr wi g (ux wi1 g1 (lD te))) (cS i)) (sQ i (gS fr i3 g3 (fX j3 h3 (k7 e3)))):=
 ⟨mh (m:=fun D env=>zr elt [⟨t0,i0,[],0⟩,⟨t1,i1,[],0⟩] sc pos 1 i1 D env) hN hi' hx hc hi.pe Bk (fun a b c d e=>(hg a b c d e).pe)
  (fun a b c d e D=>wR (m:=qr elt D _) rfl hc (by rfl) (hj a b c d e).pe (hh a b c d e).pe (rq rfl (he a b c d e).pe) (fun _=>rfl) (hs1 a b c d e)) (fun _ _ _=>rfl) hsw hs,
  jg (eX nd hi.rf (hg X.s₀ X.H₀ 0 [] []).rf (nT (hj X.s₀ X.H₀ 0 [] []).rf (hh X.s₀ X.H₀ 0 [] []).rf (fj (he X.s₀ X.H₀ 0 [] []).rf)))⟩
end
theorem I9 {n:Nat} {a b:Int}:eqN n (.int a) (.int b)=some (a == b):=by cases n <;> rfl
theorem uh {n:Nat} {a b:Str}:eqN n (.str a) (.str b)=some (a == b):=by cases n <;> rfl
theorem I_ {n:Nat} {a b:Bool}:eqN n (.bl a) (.bl b)=some (a == b):=by cases n <;> rfl
noncomputable def fo (s:Option D):Option Sl:=s.map Sl.fz
theorem j6 {s:Option Sl} {Γ:G} {i:Nat}:bY (s::Γ) (i + 1)=bY Γ i:=rfl
theorem vI {Γ:G}:bY (none::Γ) 0=True:=rfl
theorem vH {d:D} {Γ:G}:bY (some (.fz d)::Γ) 0=True:=rfl
theorem GG {d:D} {Γ:G}:bY (some (.ow d)::Γ) 0=True:=rfl
theorem j7 {s:Option D} {Γ:G}:bY (fo s::Γ) 0=True:=by cases s <;> rfl
end L3
universe u
namespace L3
open PySem L2 PySem.Spec
structure Tag {α:Sort u} (q:α):Type where
def m1 (o:Option D) (k:D->Prop) (_:Tag k):Prop:=match o with
 | some d=>k d
 | none=>False
theorem kB {d:D} {k:D->Prop} {t:Tag k}:m1 (some d) k t=k d:=rfl
theorem bQ {o:Option D} {k:D->Prop} {t:Tag k}:m1 o k t↔∃ d,o=some d/\k d:=by
 cases o with
 | none=>exact⟨fun h=>h.elim,fun Z=>by obtain⟨_,h,_⟩:=Z;cases h⟩
 | some d=>exact⟨fun h=>⟨d,rfl,h⟩,fun Z=>by obtain⟨_,h,q⟩:=Z;cases h;exact q⟩
def Eh (fr:On) (i3:TI3) (g3:TG3) (e3:TE3) (Γ:G) (Q:RV->G->Prop) (_:Tag (fr,i3,g3,e3)) (_:Tag Q):Prop:=qv fr i3 g3 e3 Γ Q
def GK (i3:TI3) (g3:TG3) (b3:TS3) (D:E3) (Γ:G) (_:Tag (i3,g3,b3)) (_:Tag D):Prop:=GL i3 g3 b3 D Γ
def A2 (fr:On) (i3:TI3) (g3:TG3) (b3:jB) (Γ:G) (Q:RV->G->Prop) (_:Tag (fr,i3,g3,b3)) (_:Tag Q):Prop:=gS fr i3 g3 b3 Γ Q
theorem A4 {fr:On} {i3:TI3} {g3:TG3} {b3:jB} {Γ:G} {Q:RV->G->Prop}:gS fr i3 g3 b3 Γ Q=A2 fr i3 g3 b3 Γ Q ⟨⟩ ⟨⟩:=rfl
theorem Dh {fr:On} {i3:TI3} {g3:TG3} {e3:TE3} {Γ:G} {Q:RV->G->Prop}:qv fr i3 g3 e3 Γ Q=Eh fr i3 g3 e3 Γ Q ⟨⟩ ⟨⟩:=rfl
theorem AK {i3:TI3} {g3:TG3} {b3:TS3} {D:E3} {Γ:G}:GL i3 g3 b3 D Γ=GK i3 g3 b3 D Γ ⟨⟩ ⟨⟩:=rfl
section
variable {op:D->D->TE3} {a3 b3:TB3} {Γ:G} {Q:RV->G->Prop}
theorem nI:dZ op a3 b3 Γ Q=(a3 Γ fun x Γ1=>b3 Γ1 fun y Γ2=>m1 (x.at Γ2) (fun dx=>m1 (y.at Γ2) (fun dy=>op dx dy Γ2 Q) ⟨⟩) ⟨⟩):=by
 unfold dZ
 congr;funext x Γ1;congr;funext y Γ2
 refine propext ⟨fun Z=>by obtain⟨dx,dy,h1,h2,h3⟩:=Z;rw[h1,h2];exact h3,fun h=>?_⟩;obtain⟨dx,h1,h⟩:=bQ.mp h;obtain⟨dy,h2,h⟩:=bQ.mp h;exact⟨dx,dy,h1,h2,h⟩
theorem EI {op:D->TE3}:y7 op a3 Γ Q=(a3 Γ fun x Γ1=>m1 (x.at Γ1) (fun dx=>op dx Γ1 Q) ⟨⟩):=by
 unfold y7
 congr;funext x Γ1
 exact propext bQ.symm
theorem IC {xs:List D} {i:Int}:ix3 (.lst xs) (.int i) Γ Q=m1 (atI xs i) (fun d=>Q (.fz d) Γ) ⟨⟩:=propext bQ.symm
theorem IA {xs:List D} {i:Int}:ix3 (.tup xs) (.int i) Γ Q=m1 (atI xs i) (fun d=>Q (.fz d) Γ) ⟨⟩:=propext bQ.symm
def mL (o:Option (List D)) (k:List D->Prop) (_:Tag k):Prop:=match o with
 | some d=>k d
 | none=>False
theorem kA {d:List D} {k:List D->Prop} {t:Tag k}:mL (some d) k t=k d:=rfl
theorem lA {c3:List D->TE3} {t3:dY}:uq c3 t3 Γ Q=(t3 Γ fun bs Γ1=>mL (ats Γ1 bs) (fun ds=>c3 ds Γ1 Q) ⟨⟩):=by
 unfold uq
 congr;funext bs Γ1
 refine propext ⟨fun Z=>by obtain⟨ds,h,q⟩:=Z;rw[h];exact q,fun h=>?_⟩;cases e:ats Γ1 bs with
 | none=>rw[e] at h;exact h.elim
 | some ds=>rw[e] at h;exact⟨ds,rfl,h⟩
def mN (o:Option Nat) (k:Nat->Prop) (_:Tag k):Prop:=match o with
 | some d=>k d
 | none=>False
theorem CN {d:Nat} {k:Nat->Prop} {t:Tag k}:mN (some d) k t=k d:=rfl
def mI (o:Option D) (k:Int->Prop) (_:Tag k):Prop:=match o with
 | some (.int d)=>k d
 | _=>False
theorem CO {d:Int} {k:Int->Prop} {t:Tag k}:mI (some (.int d)) k t=k d:=rfl
theorem BY {i:Nat} {k3:TB3} {e3:TE3} {D:E3}:wA i k3 e3 D Γ=(e3 Γ fun r Γ1=>(∃ xs,cm Γ1 i=some xs)/\k3 Γ1 fun b Γ2=>mL (cm Γ2 i) (fun xs=>mI (b.at Γ2) (fun k=>mN (ixN xs.length k) (fun j=>D.nx (putD Γ2 i (.lst (xs.set j r.d)))) ⟨⟩) ⟨⟩) ⟨⟩):=by
 unfold wA
 congr;funext r Γ1;congr;funext b Γ2
 refine propext ⟨fun ⟨xs,k,j,h1,h2,h3,q⟩=>?_,fun h=>?_⟩
 ·rw[h1,h2];show mN (ixN xs.length k) _ ⟨⟩;rw[h3];exact q
 ·cases e:cm Γ2 i with
  | none=>rw[e] at h;exact h.elim
  | some xs=>
   rw[e] at h;replace h:mI (b.at Γ2) (fun k=>mN (ixN xs.length k) (fun j=>D.nx (putD Γ2 i (.lst (xs.set j r.d)))) ⟨⟩) ⟨⟩:=h;cases e2:b.at Γ2 with
   | none=>rw[e2] at h;exact h.elim
   | some d=>
    rw[e2] at h;cases d with
    | int k=>
     replace h:mN (ixN xs.length k) (fun j=>D.nx (putD Γ2 i (.lst (xs.set j r.d)))) ⟨⟩:=h;cases e3:ixN xs.length k with
     | none=>rw[e3] at h;exact h.elim
     | some j=>rw[e3] at h;exact⟨xs,k,j,rfl,rfl,e3,h⟩
    | _=>exact h.elim
end
section
variable {K:Fg0} {B:Bs} {F:Hp} {σ:L2.St} {H:Hp} {Γ:G}
theorem ud {α:Type} {l:List α} {a b:α} {i:Nat} (h:(l++[a])[i]?=some b):l[i]?=some b\/(i=l.length/\b=a):=by
 rcases Nat.lt_or_ge i l.length with q | q
 ·rw[List.getElem?_append_left q] at h;exact .inl h
 ·have q2:i=l.length:=by
   have:=(gS0 h).1;rw[List.length_append,List.length_singleton] at this;lia
  subst q2;rw[List.getElem?_append_right (Nat.le_refl _),Nat.sub_self] at h;exact .inr ⟨rfl,(Option.some.inj h).symm⟩
theorem fA {α:Type} {l:List α} {a b:α} {i:Nat} (h:l[i]?=some b):(l++[a])[i]?=some b:=by
 rw[List.getElem?_append_left (gS0 h).1];exact h
theorem iG {α:Type} {l:List α} {a:α}:(l++[a])[l.length]?=some a:=by
 rw[List.getElem?_append_right (Nat.le_refl _),Nat.sub_self];rfl
theorem En.push (e:En K B F σ H Γ) {x:Addr} {d:D} (rv:jC K B F σ H Γ (.ref x) (.fr d)):En K B F (σ++[some (V.ref x)]) H (Γ++[some (Sl.ow d)]):=by
 obtain⟨p,e1,hF,ho,hB,hn⟩:=rv;cases e1;have hl:=e.len;have hG:∀ {i:Nat} {s:Sl},(Γ++[some (Sl.ow d)])[i]?=some (some s)->Γ[i]?=some (some s)\/(i=Γ.length/\s=.ow d):=fun h=>by
  rcases ud h with q | ⟨q,q2⟩
  ·exact .inl q
  ·cases q2;exact .inr ⟨q,rfl⟩
 have hS:∀ {i:Nat} {s:Option Sl},Γ[i]?=some s->(σ++[some (V.ref x)])[i]?=σ[i]?:=fun h=>by
  have lt:=(gS0 h).1;rw[List.getElem?_append_left (by lia)]
 have hat:(σ++[some (V.ref x)])[Γ.length]?=some (some (V.ref x)):=by rw[<- hl];exact iG
 have hH:∀ {i:Nat} {c:D},Hld (Γ++[some (Sl.ow d)]) i c->Hld Γ i c\/(i=Γ.length/\c=d):=fun h=>by
  rcases h with h | h
  ·rcases hG h with q | ⟨q,q2⟩
   ·exact .inl (.inl q)
   ·cases q2;exact .inr ⟨q,rfl⟩
  ·rcases hG h with q | ⟨q,q2⟩
   ·exact .inl (.inr q)
   ·cases q2
 have hHS:∀ {i:Nat} {c:D},Hld Γ i c->(σ++[some (V.ref x)])[i]?=σ[i]?:=fun h=>by
  rcases h with h | h <;> exact hS h
 refine⟨e.sub,by simp [hl],?_,?_,?_,?_,?_,?_,e.keep,e.new,e.rest,e.dom⟩
 ·intro i c h;rcases hG h with q | ⟨_,q⟩
  ·rw[hS q];exact e.fz i c q
  ·cases q
 ·intro i c h;rcases hH h with q | ⟨rfl,rfl⟩
  ·rw[hHS q];exact e.hl i c q
  ·exact⟨x,hat,hF,ho⟩
 ·intro i c q h a;rcases hG h with z | ⟨rfl,z⟩
  ·rw[hS z] at a;exact e.ow i c q z a
  ·rw[hat] at a;cases a;exact hB
 ·intro i c q h a;rcases hG h with z | ⟨_,z⟩
  ·rw[hS z] at a;exact e.ln i c q z a
  ·cases z
 ·intro i j c c' q h h' a a';rcases hH h with z | ⟨rfl,rfl⟩
  ·rw[hHS z] at a;rcases hH h' with z' | ⟨rfl,rfl⟩
   ·rw[hHS z'] at a';exact e.dis i j c c' q z z' a a'
   ·rw[hat] at a';cases a';exact absurd a (hn i c z)
  ·rw[hat] at a;cases a;rcases hH h' with z' | ⟨rfl,rfl⟩
   ·rw[hHS z'] at a';exact absurd a' (hn j c' z')
   ·rfl
 ·intro i q h;obtain⟨a,c,b⟩:=e.par i q h;exact⟨by rw[hS b];exact a,c,fA b⟩
theorem En.pop {x:Addr} {d:D} (e:En K B F (σ++[some (V.ref x)]) H (Γ++[some (Sl.ow d)])):En K B F σ H Γ/\jC K B F σ H Γ (.ref x) (.fr d):=by
 have hl:σ.length=Γ.length:=by have:=e.len;simpa using this
 have hat:(σ++[some (V.ref x)])[Γ.length]?=some (some (V.ref x)):=by rw[<- hl];exact iG
 have hS:∀ {i:Nat} {s:Option Sl},Γ[i]?=some s->(σ++[some (V.ref x)])[i]?=σ[i]?:=fun h=>by
  have lt:=(gS0 h).1;rw[List.getElem?_append_left (by lia)]
 have hL:Hld (Γ++[some (Sl.ow d)]) Γ.length d:=.inl iG;have up:∀ {i:Nat} {c:D},Hld Γ i c->Hld (Γ++[some (Sl.ow d)]) i c:=fun h=>h.imp fA fA;have hHS:∀ {i:Nat} {c:D},Hld Γ i c->(σ++[some (V.ref x)])[i]?=σ[i]?:=fun h=>by
  rcases h with h | h <;> exact hS h
 obtain⟨p,a,b,c⟩:=e.hl _ _ hL;rw[hat] at a;cases a;refine⟨⟨e.sub,hl,?_,?_,?_,?_,?_,?_,e.keep,e.new,e.rest,e.dom⟩,x,rfl,b,c,e.ow _ _ _ iG hat,?_⟩
 ·intro i c h;have:=e.fz i c (fA h)
  rwa [hS h] at this
 ·intro i c h;have:=e.hl i c (up h)
  rwa [hHS h] at this
 ·intro i c q h a;exact e.ow i c q (fA h) (by rw[hS h];exact a)
 ·intro i c q h a;exact e.ln i c q (fA h) (by rw[hS h];exact a)
 ·intro i j c c' q h h' a a';exact e.dis i j c c' q (up h) (up h') (by rw[hHS h];exact a) (by rw[hHS h'];exact a')
 ·intro i q h;obtain⟨a,c,b'⟩:=e.par i q h;rcases ud b' with z | ⟨_,z⟩
  ·exact⟨by rw[<- hS z];exact a,c,z⟩
  ·cases z
 ·intro i c h q;have lt:i < Γ.length:=by rcases h with h | h <;> exact(gS0 h).1
  have:=e.dis i _ c d x (up h) hL (by rw[hHS h];exact q) hat
  lia
theorem En.Ke (e:En K B F σ H Γ) {i:Nat} {d0 d1:D} (hh:Hld Γ i d0) {p:Addr} (hp:σ[i]?=some (some (V.ref p))) {o1:HO} (r:Own K F (upd H p o1) p d1):En K B F σ (upd H p o1) (putD Γ i d1):=by
 obtain⟨p0,a0,b0,c0⟩:=e.hl i _ hh;rw[hp] at a0;cases a0;obtain⟨o,ho⟩:=c0.some;have hput:(Γ[i]?=some (some (Sl.ow d0))/\putD Γ i d1=Γ.set i (some (.ow d1)))\/(Γ[i]?=some (some (Sl.ln d0))/\putD Γ i d1=Γ.set i (some (.ln d1))):=by
  rcases hh with q | q
  ·exact .inl ⟨q,by unfold putD;rw[q]⟩
  ·exact .inr ⟨q,by unfold putD;rw[q]⟩
 have il:i < Γ.length:=by rcases hput with ⟨q,_⟩ | ⟨q,_⟩ <;> exact(gS0 q).1
 have other:∀ {j:Nat},j≠i->(putD Γ i d1)[j]?=Γ[j]?:=fun z=>by
  rcases hput with ⟨_,q⟩ | ⟨_,q⟩ <;> rw[q,aY (Ne.symm z)]
 have same:∀ {s:Sl},(putD Γ i d1)[i]?=some (some s)->(s=.ow d1/\Γ[i]?=some (some (Sl.ow d0)))\/(s=.ln d1/\Γ[i]?=some (some (Sl.ln d0))):=fun {s} q=>by
  rcases hput with ⟨a,b⟩ | ⟨a,b⟩
  ·rw[b,aB il] at q;cases q;exact .inl ⟨rfl,a⟩
  ·rw[b,aB il] at q;cases q;exact .inr ⟨rfl,a⟩
 have hld:∀ {j x},Hld (putD Γ i d1) j x->(j=i/\x=d1)\/(j≠i/\Hld Γ j x):=fun {j x} q=>by
  by_cases z:j=i
  ·subst z
   left
   rcases q with q | q <;> rcases same q with ⟨h,_⟩ | ⟨h,_⟩ <;> cases h <;> exact⟨rfl,rfl⟩
  ·right;exact⟨z,by unfold Hld at q ⊢;rw[other z] at q;exact q⟩
 have hld':∀ {j x},Hld (putD Γ i d1) j x->∃ y,Hld Γ j y:=fun q=>by
  rcases hld q with ⟨rfl,_⟩ | ⟨_,q⟩
  ·exact⟨_,hh⟩
  ·exact⟨_,q⟩
 refine⟨?_,?_,?_,?_,?_,?_,?_,?_,e.keep,e.new,?_,?_⟩
 ·intro b u q;have z:b≠p:=fun z=>by subst z;rw[b0] at q;cases q
  rw[aj z];exact e.sub b u q
 ·rcases hput with ⟨_,q⟩ | ⟨_,q⟩ <;> rw[q,List.length_set] <;> exact e.len
 ·intro j d q;by_cases z:j=i
  ·subst z;rcases same q with ⟨h,_⟩ | ⟨h,_⟩ <;> cases h
  ·rw[other z] at q;exact e.fz j d q
 ·intro j d q;rcases hld q with ⟨rfl,rfl⟩ | ⟨z,q⟩
  ·exact⟨p,hp,b0,r⟩
  ·obtain⟨p',a,b,c⟩:=e.hl j d q;have ne:p'≠p:=fun y=>z (e.dis j i _ _ p q hh (y ▸ a) hp);exact⟨p',a,b,c.mono (aw.refl F) (aj ne)⟩
 ·intro j d p' q a;by_cases z:j=i
  ·subst z;rcases same q with ⟨h,g⟩ | ⟨h,g⟩
   ·exact e.ow j _ p' g a
   ·cases h
  ·rw[other z] at q;exact e.ow j d p' q a
 ·intro j d p' q a;by_cases z:j=i
  ·subst z;rcases same q with ⟨h,g⟩ | ⟨h,g⟩
   ·cases h
   ·exact e.ln j _ p' g a
  ·rw[other z] at q;exact e.ln j d p' q a
 ·intro j k d d' p' q1 q2;obtain⟨y1,h1⟩:=hld' q1;obtain⟨y2,h2⟩:=hld' q2;exact e.dis j k y1 y2 p' h1 h2
 ·intro j p' q;obtain⟨a,d,b⟩:=e.par j p' q;refine⟨a,?_⟩;by_cases z:j=i
  ·subst z;rcases hput with ⟨c,_⟩ | ⟨_,c⟩
   ·rw[b] at c;cases c
   ·exact⟨_,by rw[c,aB il]⟩
  ·exact⟨d,by rw[other z];exact b⟩
 ·intro b u q n;have z:b≠p:=fun z=>by
   subst z;rcases hh with g | g
   ·rw[e.ow i _ _ g hp] at q;cases q
   ·exact n i (e.ln i _ _ g hp)
  rw[aj z];exact e.rest b u q n
 ·intro b q;by_cases z:b=p
  ·subst z;rw[aA] at q;cases q
  ·rw[aj z] at q;exact e.dom b q
noncomputable def oE (Γ:G) (i:Nat):Option (Addr×Ls×List D):=match Γ[i]? with
 | some (some (.ow (.ins C ns xs)))=>some (C,ns,xs)
 | some (some (.ln (.ins C ns xs)))=>some (C,ns,xs)
 | _=>none
theorem qg {i:Nat} {C:Addr} {ns:Ls} {xs:List D} (h:oE Γ i=some (C,ns,xs)):Hld Γ i (.ins C ns xs):=by
 unfold oE at h;split at h
 ·cases h;rename_i q;exact .inl q
 ·cases h;rename_i q;exact .inr q
 ·cases h
theorem tE {f:Str} {v:V}:∀ {fs:List (Str×V)},f∉fs.map (·.1)->iy f v fs=fs++[(f,v)]
 | [],_=>rfl
 | (g,x)::r,h=>by
  simp only[List.map_cons,List.mem_cons,not_or] at h;show (if g=f then _ else _)=_;rw[if_neg (Ne.symm h.1),tE h.2];rfl
theorem au.snoc {xs:List D} {vs:List V} (r:au K F xs vs) {d:D} {v:V} (q:Rep K F d v):au K F (xs++[d]) (vs++[v]):=r.append ⟨v,[],rfl,q,rfl⟩
def oI (o:Option (Addr×Ls×List D)) (k:Addr->Ls->List D->Prop):Prop:=match o with
 | some (C,ns,xs)=>k C ns xs
 | none=>False
def zb (C0:Addr) (i:Nat) (f:Str) (e3:TE3) (D:E3) (Γ:G):Prop:=e3 Γ fun r Γ1=>oI (oE Γ1 i) fun C ns xs=>C=C0/\(f∉ns/\ns.length < 1000)/\D.nx (putD Γ1 i (.ins C (ns++[f]) (xs++[r.d])))
variable {X:Cx} {e:Expr} {te:TE} {e3:TE3} {pos:Pos}
theorem zv {C0:Addr} {i:Nat} {f:Str} (hC:Cls K C0) (hn:dH K C0 f) (h:Ref K te e3):Dw K (ER K (cX i) te f) (zb C0 i f e3):=by
 intro B F σ H Γ D D3 en k q;refine h B F σ H Γ _ _ en q fun v H1 Z=>?_;obtain⟨F1,Γ1,r,s1,e1,rv,q1⟩:=Z;obtain⟨F2,s2,e2,rp⟩:=e1.frozen rv;have q2:oI (oE Γ1 i) fun C ns xs=>C=C0/\(f∉ns/\ns.length < 1000)/\D3.nx (putD Γ1 i (.ins C (ns++[f]) (xs++[r.d]))):=q1;cases w:oE Γ1 i with
 | none=>rw[w] at q2;exact q2.elim
 | some t=>
  obtain⟨C,ns,xs⟩:=t;rw[w] at q2;obtain⟨rfl,⟨hf,hl⟩,q2⟩:=q2;obtain⟨p,a,b,dx,gs,c1,c2,c3⟩:=e2.hl i _ (qg w);refine⟨_,a,p,C,dx,gs,rfl,c1,hC,hn,?_,?_⟩
  ·have:=congrArg List.length c2;rw[lM0] at this;lia
  ·have hf':f∉gs.map (·.1):=by rw[c2];exact hf
   rw[tE hf'];have ow:Own K F2 (upd H1 p (.ins C dx (gs++[(f,v)]))) p (.ins C (ns++[f]) (xs++[r.d])):=⟨dx,gs++[(f,v)],aA,by rw[List.map_append,c2];rfl,by rw[List.map_append];exact c3.snoc rp⟩;exact k.nx F2 σ _ _ (s1.trans s2) (e2.Ke (qg w) a ow) q2
theorem qT {C0:Addr} (i:Nat) {x f:Str} {px p2:Pos} (hK:X.K=K) (hC:Cls K C0) (hn:dH K C0 f) (hx:P3B K X (.Name x px) (cX i) (bor i)) (he:P3 K X e te e3) (hs:autoParam (swapsWith e (some (.Attribute (.Name x px) f p2)) pos.line X.env=pure false) wE) :
  P3S K X (.Assign [.Attribute (.Name x px) f p2] e pos) (ER K (cX i) te f) (zb C0 i f e3):=⟨by subst hK;exact E_ hx.pe he.pe hs,zv hC hn he.rf⟩
end
section
variable {K:Fg0} {B:Bs} {F:Hp} {σ:L2.St} {H:Hp} {Γ:G} {X:Cx}
theorem bR.push {x:V}:∀ {bs:List Bo} {vs:List V},bR K F σ bs vs->bR K F (σ++[some x]) bs vs
 | [],_,h=>h
 | .d d::bs,_,⟨v,ws,h1,h2,h3⟩=>⟨v,ws,h1,h2,bR.push h3⟩
 | .v i::bs,_,⟨v,ws,h1,h2,h3⟩=>⟨v,ws,h1,fA h2,bR.push h3⟩
theorem bR.ds:∀ {ds:List D} {vs:List V},au K F ds vs->bR K F σ (ds.map Bo.d) vs
 | [],_,h=>h
 | _::_,_,⟨v,ws,h1,h2,h3⟩=>⟨v,ws,h1,h2,bR.ds h3⟩
theorem tW:∀ ds:List D,cR (ds.map Bo.d)=[]
 | []=>rfl
 | _::ds=>tW ds
theorem Dt (ds:List D) (Γ:G):c7 Γ ((ds.map Bo.d).map some)=ds.map fun d=>some (Sl.fz d):=by
 unfold c7;rw[List.map_map,List.map_map];rfl
theorem wV {cs:G} {j:Nat}:∀ ds:List D,newD (((ds.map Bo.d).map some).map cz) cs j=none
 | []=>by cases cs <;> rfl
 | _::ds=>by
  cases cs with
  | nil=>rfl
  | cons c cs=>exact wV (cs:=cs) ds
def IX (Γa:G) (k:D->Prop):Prop:=match Γa with
 | some (.ln d)::_=>k d
 | _=>False
def Ap (C:Addr) (n:Nat) (S:S3) (t3:TA3) (Γ:G) (Q:RV->G->Prop):Prop:=t3 Γ fun ds Γ1=>ds.length + 1=n/\
 S (some (.ln (.ins C [] []))::ds.map fun d=>some (.fz d)) fun r Γa=>r=.fz .non/\IX Γa fun d=>Q (.fr d) Γ1
theorem zw {C:Addr} {n:Nat} {S:S3} {E:XK} {t:TA} {t3:TA3} (h:JH K t t3):Ref K (y6 C (sp3 K n S) [] E t) (Ap C n S t3):=by
 intro B F σ H Γ Q QQ e q k;refine h B F σ H Γ _ _ e q fun vs H1 Z=>?_;obtain⟨F1,Γ1,ds,s1,e1,r1,hn,q1⟩:=Z;intro y dy hy hdy ne;rw[List.append_nil];have a1:=e1.alloc hdy (.own y);have hy':(upd H1 dy (.own y)) y=none:=by rw[aj (Ne.symm ne)];exact hy
 have e2:En K B F1 σ (upd (upd H1 dy (.own y)) y (.ins C dy [])) Γ1:=a1.alloc hy' _;have rv:jC K B F1 σ (upd (upd H1 dy (.own y)) y (.ins C dy [])) Γ1 (.ref y) (.fr (.ins C [] [])):=⟨y,rfl,a1.nof hy',⟨dy,[],aA,rfl,rfl⟩,e1.dom _ hy,a1.tM hy'⟩;have ep:=e2.push rv;have hl:σ.length=Γ1.length:=e1.len;have rb:bR K F1 (σ++[some (V.ref y)]) (Bo.v Γ1.length::ds.map Bo.d) (.ref y::vs):=⟨_,_,rfl,by rw[<- hl];exact iG,(bR.ds r1).push⟩;have nd:(cR (Bo.v Γ1.length::ds.map Bo.d)).Nodup:=by
  show (Γ1.length::cR (ds.map Bo.d)).Nodup;rw[tW];simp
 have eG:c7 (Γ1++[some (Sl.ow (.ins C [] []))]) ((Bo.v Γ1.length::ds.map Bo.d).map some)=some (.ln (.ins C [] []))::ds.map fun d=>some (.fz d):=by
  rw[List.map_cons,<- Dt ds (Γ1++[some (Sl.ow (.ins C [] []))])];show (some (Bo.v Γ1.length)).bind (l9 _)::_=_
  congr 1
  show eF (Γ1++[some (Sl.ow (.ins C [] []))])[Γ1.length]?=_;rw[iG];rfl
 have len:(V.ref y::vs).length=n:=by rw[<- hn,List.length_cons,r1.length]
 refine⟨len,F1,_,_,_,ep.args rb nd,nC,by rw[eG];exact q1,fun r Γa q2 v H' F' e3 rv'=>?_⟩;obtain⟨rfl,q2⟩:=q2;obtain⟨sm,eb,_⟩:=ep.called e3 rv';have ev:v=.non:=rv';cases Γa with
 | nil=>exact q2.elim
 | cons s Γr=>
  cases s with
  | none=>exact q2.elim
  | some s=>
   cases s with
   | fz d=>exact q2.elim
   | ow d=>exact q2.elim
   | ln d=>
    have q2:Q (.fr d) Γ1:=q2;have eq:bK (((Bo.v Γ1.length::ds.map Bo.d).map some).map cz) (Γ1++[some (Sl.ow (.ins C [] []))]) (some (.ln d)::Γr)=Γ1++[some (Sl.ow d)]:=by
     refine List.ext_getElem? fun j=>?_;rw[cy];show Option.map (eE (if Γ1.length=j then some d else newD (((ds.map Bo.d).map some).map cz) Γr j)) _=_;by_cases hj:Γ1.length=j
     ·subst hj;rw[if_pos rfl,iG,iG];rfl
     ·rw[if_neg hj,wV];have:(Γ1++[some (Sl.ow d)])[j]?=(Γ1++[some (Sl.ow (.ins C [] []))])[j]?:=by
       rcases Nat.lt_or_ge j Γ1.length with z | z
       ·rw[List.getElem?_append_left z,List.getElem?_append_left z]
       ·rw[List.getElem?_eq_none (by simp;lia),List.getElem?_eq_none (by simp;lia)]
      rw[this];cases (Γ1++[some (Sl.ow (.ins C [] []))])[j]? with
      | none=>rfl
      | some s=>cases s with
       | none=>rfl
       | some s=>cases s <;> rfl
    rw[eq] at eb;obtain⟨e5,rv5⟩:=eb.pop;exact⟨ev,k _ _ ⟨F',Γ1,.fr d,s1.trans sm,e5,rv5,q2⟩⟩
end
section
variable {K:Fg0} {B:Bs} {F:Hp} {σ:L2.St} {H:Hp} {Γ:G} {X:Cx} {C f:Addr} {fd:FuncData} {ps:Ls} {x m:Str} {k n:Nat} {S:S3} {p pos:Pos} {e:Expr} {es:List Expr} {t:TA} {t3:TA3} {te:TE} {e3:TE3}
theorem Cw (M:Mk X.K C f) (F:aQ X.prog X.w X.K X.mg X.base CX0 k f fd ps (sp3 K n S)) (hr:cc (k + 1) X.A) (hg:Gl X x) (hm:X.mg x=some (.ref C)) (hb:Binds X.K fd ps [])
  (ha:P3A K X (e::es) t t3) (hdb:autoParam ((x == ("__debug__":Str))=false) wP) (he:autoParam (starEach (e::es) X.env=(false,eval e X.env)::starEach es X.env) wE) (hpl:autoParam ((backTo pos (starEach es X.env)).any (·.1)=false) wE) :
  P3 K X (.Call (.Name x p) (e::es) [] pos) (y6 C (sp3 K n S) [] E0 t) (Ap C n S t3):=⟨Cq M F hr hg hm hb .nil nZ ha.pe hdb he hpl,zw ha.rf⟩
end
section
variable {K:Fg0} {B:Bs} {F:Hp} {σ:L2.St} {H:Hp} {Γ:G} {X:Cx}
noncomputable def signs (z:Str):List D:=z.cps.toList.map fun c=>D.str (sgn c)
def oS (d:D) (k:Str->Prop):Prop:=match d with
 | .str z=>k z
 | _=>False
theorem Ie {d:D} {k:Str->Prop} (h:oS d k):∃ z,d=.str z/\k z:=by
 cases d <;> first | exact h.elim | exact⟨_,rfl,h⟩
noncomputable def asc (z:Str):Bool:=z.cps.all (· < 128)
def iS3 (a3:TE3) (Γ:G) (Q:List D->G->Prop):Prop:=a3 Γ fun r Γ1=>oS r.d fun z=>asc z=true/\Q (signs z) Γ1
theorem pZ (z:Str):(signs z).length=z.cps.size:=by simp [signs]
theorem Hm {z:Str}:ItR K F (Its z) (signs z):=by
 refine⟨fun i H' _ lt=>by rw[pZ] at lt;exact lt,fun i H' _ e=>by rw[pZ] at e;exact Nat.le_of_eq e.symm,fun i H' x H'' d _ hd y=>?_⟩;obtain⟨e1,c,hc,rfl⟩:=y;refine .inl ⟨e1,?_⟩;unfold signs at hd;rw[List.getElem?_map,Array.getElem?_toList,hc] at hd;cases hd;rfl
theorem Az {tg l:Expr} {tl:TE} {l3:TE3} (h:P3 K X l tl l3):P3I K X tg l (IJ tl) (iS3 l3):=⟨Fc h.pe,fun B F σ H Γ Q R e q k=>
 h.rf B F σ H Γ _ _ e q fun v H' Z=>by
  obtain⟨F',Γ',r,s,e',rv,q'⟩:=Z;obtain⟨z,hz,ha,q'⟩:=Ie q';obtain⟨F2,s2,e2,r2⟩:=e'.frozen rv;rw[hz] at r2;exact⟨z,r2,ha,k _ H' F2 Γ' _ (s.trans s2) e2 Hm q'⟩⟩
noncomputable def pE (lo c:Int) (n:Nat):List D:=(List.range n).map fun (k:Nat)=>D.int (lo + (k:Int) * c)
theorem EU {lo c:Int} {n:Nat}:ItR K F (G7 lo c n) (pE lo c n):=by
 have hl:(pE lo c n).length=n:=by simp [pE]
 refine⟨fun i H' _ lt=>by rw[hl] at lt;exact lt,fun i H' _ e=>by rw[hl] at e;exact Nat.le_of_eq e.symm,fun i H' x H'' d _ hd y=>?_⟩;obtain⟨e1,e2⟩:=y;subst e1 e2;refine .inl ⟨rfl,?_⟩;have hi:i < n:=by have:=(gS0 hd).1;rw[hl] at this;exact this
 have:(pE lo c n)[i]?=some (.int (lo + i * c)):=by unfold pE;rw[List.getElem?_map,List.getElem?_range hi];rfl
 rw[this] at hd;cases hd
 rfl
def IL (t3:TA3) (Γ:G) (Q:List D->G->Prop):Prop:=t3 Γ fun ds Γ1=>∃ j:Int,ds=[.int j]/\(0<=j/\j < 2 ^ 62)/\Q (pE (j - 1) (-1) j.toNat) Γ1
theorem Gs {tg a:Expr} {ta:TA} {a3:TA3} {p p' pos pos':Pos} (hg':Gl X "reversed") (hm':X.mg "reversed"=none) (hg:Gl X "range") (hm:X.mg "range"=none) (ha:P3A K X [a] ta a3) (hs:autoParam (starEach [a] X.env=[(false,eval a X.env)]) wE)
  (hs':autoParam (starEach [.Call (.Name "range" p) [a] [] pos] X.env=[(false,eval (.Call (.Name "range" p) [a] [] pos) X.env)]) wE) :
  P3I K X tg (.Call (.Name "reversed" p') [.Call (.Name "range" p) [a] [] pos] [] pos') (IM ta) (IL a3):=⟨Fd hg' hm' hg hm ha.pe hs hs',fun B F σ H Γ Q R e q k=>
 ha.rf B F σ H Γ _ _ e q fun vs H' Z=>by
  obtain⟨F',Γ',ds,s,e',rv,j,h1,⟨h2,h3⟩,q'⟩:=Z;subst h1;obtain⟨v,ws,rfl,r1,r2⟩:=rv;cases r1;cases r2;exact⟨j,rfl,h2,h3,k _ H' F' Γ' _ s e' EU q'⟩⟩
end
section
variable {K:Fg0} {B:Bs} {F:Hp} {σ:L2.St} {H:Hp} {Γ:G} {X:Cx} {a b o e f:Expr} {ta tb te tf to:TE} {a3 b3:TB3} {e3 f3:TE3} {pos apos cpos:Pos}
def mm (x y:D) (Γ:G) (Q:RV->G->Prop):Prop:=match x,y with
 | .str z,.int n=>(n=0\/n=1)/\z.length<=sizeLine/\Q (.fz (.str (if n=0 then Str.empty else z))) Γ
 | _,_=>False
theorem CL:jb K zD mm:=by
 intro B F σ H Γ x y dx dy Q QQ e rx ry q k;unfold mm at q;split at q
 ·obtain⟨h1,h2,q⟩:=q;cases rx;cases ry;exact⟨_,_,rfl,rfl,h1,h2,k _ _ (q9 e q)⟩
 ·exact q.elim
theorem rB (ha:P3B K X a ta a3) (hb:P3B K X b tb b3):P3 K X (.BinOp a .Mult b pos) (tOp zD ta tb) (dZ mm a3 b3):=⟨mj CA ha.pe hb.pe,gu CL ha.rf hb.rf⟩
def oSo (d:Option D) (k:Str->Prop):Prop:=match d with
 | some (.str z)=>k z
 | _=>False
theorem FH {d:Option D} {k:Str->Prop} (h:oSo d k):∃ z,d=some (.str z)/\k z:=by
 cases d with
 | none=>exact h.elim
 | some d=>cases d <;> first | exact h.elim | exact⟨_,rfl,h⟩
def Hq (a3:TB3) (l3 h3:TO3) (Γ:G) (Q:RV->G->Prop):Prop:=a3 Γ fun x Γ1=>l3 Γ1 fun lo Γ2=>h3 Γ2 fun hi Γ3=>oSo (x.at Γ3) fun z=>z.length<=sizeLine/\Q (.fz (.str (Txt.slice z lo hi))) Γ3
theorem yf {lo hi:Option Expr} {tl th:TO} {l3 h3:TO3} {p2:Pos} (ha:P3B K X a ta a3) (hl:P3O K X lo tl l3) (hh:P3O K X hi th h3):P3 K X (.Subscript a (.Slice lo hi none p2) pos) (tSl HK ta tl th) (Hq a3 l3 h3):=
 ⟨nY EK ha.pe hl.pe hh.pe,fun B F σ H Γ Q QQ e q k=>ha.rf B F σ H Γ _ _ e q fun x H1 ⟨F1,Γ1,bo,s1,e1,r1,q1⟩=>hl.rf B F1 σ H1 Γ1 _ _ e1 q1 fun l H2 ⟨F2,Γ2,s2,e2,q2⟩=>hh.rf B F2 σ H2 Γ2 _ _ e2 q2 fun u H3 Z=>by
  obtain⟨F3,Γ3,s3,e3,q3⟩:=Z;obtain⟨z,hz,hl,q3⟩:=FH q3;have rx:=e3.bo ((r1.mono s2).mono s3) hz;cases rx;exact⟨z,rfl,hl,k _ _ (Po.mono (s1.trans (s2.trans s3)) (q9 e3 q3))⟩⟩
noncomputable def dS:D->Bool
 | .str _=>true
 | _=>false
theorem Jj (T:TyS X.K):B3 K X (.builtin "isinstance") (fun xs H Q=>∃ x,xs=[x,.ty "str"]/\Kn H x/\Q (.bl (isS x)) H) (is3 "str" dS):=Bj (g:=fun _ v=>isS v) (Bc T) fun s h hk=>by
 rename_i F H d v;cases d <;> first
  | (cases h;rfl)
  | (cases hk;done)
  | (obtain⟨p,vs,rfl,_⟩:=h;rfl)
  | (obtain⟨p,rfl,_⟩:=h;rfl)
  | (obtain⟨p,dx,gs,rfl,_⟩:=h;rfl)
end
mutual
noncomputable def dt:D->PyData
 | .non=>.none
 | .bl b=>.bool b
 | .int i=>.int i
 | .str x=>.str x
 | .lst xs=>.list (dtL xs)
 | .tup xs=>.tuple (dtL xs)
 | .dct=>.dict []
 | .dcs k i=>.dict [(.str k,.int i)]
 | _=>.none
noncomputable def dtL:List D->List PyData
 | []=>[]
 | x::xs=>dt x::dtL xs
end
inductive Sh:Nat->Nat->D->Prop where
 | non:Sh 100 1 .non
 | bl (b:Bool):Sh 100 1 (.bl b)
 | int {i:Int} (h:i.natAbs < 10 ^ 60):Sh 100 1 (.int i)
 | str {x:Str} {n:Nat} (h:(PyData.shown (.str x)).length<=n):Sh n 1 (.str x)
 | dct:Sh 100 1 .dct
 | dcs {k:Str} {i:Int} {n:Nat} (h:i.natAbs < 10 ^ 60) (hn:(PyData.shown (.dict [(.str k,.int i)])).length<=n):Sh n 1 (.dcs k i)
 | lst {n k l:Nat} {xs:List D} (h:∀ x∈xs,Sh n k x) (hl:xs.length<=l):Sh (l * (n + 2) + 3) (k + 1) (.lst xs)
 | tup {n k l:Nat} {xs:List D} (h:∀ x∈xs,Sh n k x) (hl:xs.length<=l):Sh (l * (n + 2) + 3) (k + 1) (.tup xs)
 | up {n k n' k':Nat} {d:D} (h:Sh n k d) (h1:n<=n') (h2:k<=k'):Sh n' k' d
section
variable {K:Fg0} {B:Bs} {F:Hp} {σ:L2.St} {H:Hp} {Γ:G} {X:Cx}
end
section
variable {K:Fg0} {B:Bs} {F:Hp} {σ:L2.St} {H:Hp} {Γ:G} {X:Cx} {a o e f:Expr} {ta te tf:TE} {a3:TB3} {e3 f3:TE3} {pos apos cpos:Pos}
def AM (C0:Addr) (f:Str) (x:D) (Γ:G) (Q:RV->G->Prop):Prop:=match x with
 | .ins C ns xs=>C=C0/\m1 ((ns.zip xs).lookup f) (fun d=>Q (.fz d) Γ) ⟨⟩
 | _=>False
theorem rE {f:Str} {C0:Addr} (hK:X.K=K) (ha:P3B K X a ta a3) (hC:Cls K C0) (hn:dH K C0 f) (hb:autoParam (attributeBase a f X.env (eval a X.env)=eval a X.env) wE) :
  P3 K X (.Attribute a f pos) (Hk K ta f) (y7 (AM C0 f) a3):=⟨by subst hK;exact Fm ha.pe hb,zu (r:=fun x H1 Q=>∃ a C dx fs v,x=.ref a/\H1 a=some (.ins C dx fs)/\Cls K C/\dH K C f/\fs.lookup f=some v/\Q v H1) (ta:=ta) (by
 intro B F σ H Γ x dx Q QQ e rx q k;unfold AM at q;split at q
 ·obtain⟨rfl,q⟩:=q;obtain⟨d,hd,q⟩:=bQ.mp q;obtain⟨p,dx,gs,rfl,h1,h2,h3⟩:=rx;obtain⟨v,hv,r⟩:=au.lookup h2 h3 hd;exact⟨p,_,dx,gs,v,rfl,h1,hC,hn,hv,k _ _ (gy e r q)⟩
 ·exact q.elim) ha.rf⟩
noncomputable def kt (zs:Ls):D:=.ktup (zs.map .str)
structure G6 (K:Fg0) (mg:SV) (x:Str) (p:Addr) (zs:Ls):Prop where
 mg:mg x=some (.ref p)
 sq:∀ F:Hp,SqT K F p (zs.map V.str)
theorem au.strs:∀ (zs:Ls),au K F (zs.map D.str) (zs.map V.str)
 | []=>rfl
 | z::zs=>⟨_,_,rfl,rfl,au.strs zs⟩
theorem fZ {x:Str} {zs:Ls} {p:Addr} {pos:Pos} (hg:Gl X x) (hm:G6 K X.mg x p zs) (hd:autoParam ((x == ("__debug__":Str))=false) wP):P3 K X (.Name x pos) (tC (.ref p)) (t3C (kt zs)):=
 ⟨rn hg hm.mg rfl hd,p6 fun F=>⟨p,_,rfl,hm.sq F,au.strs zs⟩⟩
end
section
variable {K:Fg0} {B:Bs} {F:Hp} {σ:L2.St} {H:Hp} {Γ:G} {X:Cx} {e:Expr} {te:TE} {e3:TE3} {pos:Pos}
end
def oIt (o:Option (Addr×Ls×List D)) (k:Addr->Ls->List D->Prop) (_:Tag k):Prop:=oI o k
theorem Ab {C:Addr} {ns:Ls} {xs:List D} {k:Addr->Ls->List D->Prop} {t:Tag k}:oIt (some (C,ns,xs)) k t=k C ns xs:=rfl
def oSt (o:D) (k:Str->Prop) (_:Tag k):Prop:=oS o k
theorem CF {z:Str} {k:Str->Prop} {t:Tag k}:oSt (.str z) k t=k z:=rfl
def Eb (o:G) (k:D->Prop) (_:Tag k):Prop:=IX o k
theorem C8 {d:D} {Γ:G} {k:D->Prop} {t:Tag k}:Eb (some (.ln d)::Γ) k t=k d:=rfl
section
variable {Γ:G} {Q:RV->G->Prop} {QI:List D->G->Prop} {C C0:Addr} {i n:Nat} {f:Str} {S:S3} {e3:TE3} {a3:TB3} {t3:TA3} {D1:E3} {k1 k2:Str} {d1 d2 d0:D} {l3 h3:TO3}
theorem BZ:zb C0 i f e3 D1 Γ=(e3 Γ fun r Γ1=>oIt (oE Γ1 i) (fun C ns xs=>C=C0/\(f∉ns/\ns.length < 1000)/\D1.nx (putD Γ1 i (.ins C (ns++[f]) (xs++[r.d])))) ⟨⟩):=rfl
theorem IK:iS3 e3 Γ QI=(e3 Γ fun r Γ1=>oSt r.d (fun z=>asc z=true/\QI (signs z) Γ1) ⟨⟩):=rfl
end
def bT (c:Bool) (p q:Prop) (_:Tag p) (_:Tag q):Prop:=match c with
 | true=>p
 | false=>q
theorem Bt {p q:Prop} {s:Tag p} {t:Tag q}:bT true p q s t=p:=rfl
theorem Bu {p q:Prop} {s:Tag p} {t:Tag q}:bT false p q s t=q:=rfl
theorem Jn {c:Bool} {p q:Prop} {s:Tag p} {t:Tag q} (h1:c=true->p) (h2:c=false->q):bT c p q s t:=by
 cases c with
 | true=>exact h1 rfl
 | false=>exact h2 rfl
section
variable {Γ:G} {Q:RV->G->Prop} {QB:Bo->G->Prop} {QT:Bool->G->Prop} {QA:List D->G->Prop} {QL:List Bo->G->Prop} {QO:Option Int->G->Prop} {QG:G->Prop} {i j:Nat} {is:List Nat} {D1:E3} {t u:TS3} {e3 f3:TE3} {a3 b3 c3:TB3} {A3 B3:TT3} {t3:TA3} {tb:dY} {d:D} {l3 h3 s3:TO3} {bb:jB} {ys:List D}
theorem t9:HA t u D1 Γ=t { D1 with nx:=u D1 } Γ:=rfl
theorem oG:DS D1 Γ=D1.nx Γ:=rfl
theorem t8:sQ i e3 D1 Γ=(e3 Γ fun r Γ1=>bY Γ1 i/\D1.nx (Γ1.set i (some r.sl))):=rfl
theorem IS:HG e3 D1 Γ=e3 Γ D1.rt:=rfl
theorem GA:Ef e3 D1 Γ=(e3 Γ fun _ Γ1=>D1.nx Γ1):=rfl
theorem t7:tst e3 Γ QT=(e3 Γ fun x Γ1=>match x.d with | .bl k=>QT k Γ1 | _=>False):=rfl
theorem ua:bor i Γ QB=((∃ d,Gat Γ i=some d)/\QB (.v i) Γ):=rfl
theorem ub:bof e3 Γ QB=(e3 Γ fun x Γ1=>QB (.d x.d) Γ1):=rfl
theorem kG:qu a3 tb Γ QL=(a3 Γ fun x Γ1=>tb Γ1 fun xs Γ2=>QL (x::xs) Γ2):=rfl
theorem oF:yi Γ QL=QL [] Γ:=rfl
theorem j0:eD e3 t3 Γ QA=(e3 Γ fun x Γ1=>t3 Γ1 fun xs Γ2=>QA (x.d::xs) Γ2):=rfl
theorem xg:lX Γ QA=QA [] Γ:=rfl
theorem h_c:t3C d Γ Q=Q (.fz d) Γ:=rfl
theorem IV:G0 A3 B3 Γ QT=(A3 Γ fun c Γ1=>bT c (B3 Γ1 QT) (QT false Γ1) ⟨⟩ ⟨⟩):=by
 show (A3 Γ fun c Γ1=>match c with | true=>B3 Γ1 QT | false=>QT false Γ1)=_
 congr 1
theorem Ko:or3 A3 B3 Γ QT=(A3 Γ fun c Γ1=>bT c (QT true Γ1) (B3 Γ1 QT) ⟨⟩ ⟨⟩):=by
 show (A3 Γ fun c Γ1=>match c with | true=>QT true Γ1 | false=>B3 Γ1 QT)=_
 congr 1
theorem IT:FI A3 Γ QT=(A3 Γ fun c Γ1=>QT (!c) Γ1):=rfl
theorem Kp:if3 A3 e3 f3 Γ Q=(A3 Γ fun c Γ1=>bT c (e3 Γ1 Q) (f3 Γ1 Q) ⟨⟩ ⟨⟩):=by
 show (A3 Γ fun c Γ1=>match c with | true=>e3 Γ1 Q | false=>f3 Γ1 Q)=_
 congr 1
theorem D_:Iy t3 Γ Q=(t3 Γ fun xs Γ1=>xs.length<=sizeLine/\Q (.fr (.lst xs)) Γ1):=rfl
theorem AE:yX t3 Γ Q=(t3 Γ fun xs Γ1=>xs.length<=sizeLine/\Q (.fz (.tup xs)) Γ1):=rfl
theorem IU:GZ i e3 Γ Q=((∃ xs,cm Γ i=some xs)/\e3 Γ fun r Γ1=>∃ xs,cm Γ1 i=some xs/\xs.length < sizeLine/\Q (.fz .non) (putD Γ1 i (.lst (xs++[r.d])))):=rfl
theorem Gv:DI is e3 D1 Γ=(e3 Γ fun r Γ1=>∃ ds Γ',r.d=.tup ds/\gives Γ1 is ds=some Γ'/\frees Γ1 is ds/\D1.nx Γ'):=rfl
theorem Gu:y_ a3 Γ QO=(a3 Γ fun x Γ1=>∃ i,x.at Γ1=some (.int i)/\QO (some i) Γ1):=rfl
theorem Gy:Ac Γ QO=QO none Γ:=rfl
abbrev hI (Iv:Nat->G->Prop) (k:Nat) (Γ:G) (_:Tag Iv):Prop:=Iv k Γ
def DZ (xs:List D) (Γ1:G) (g3:TG3) (b3:TS3) (E1:E3) (_:Tag (g3,b3,E1)):Prop:=∃ Iv:Nat->G->Prop,Iv 0 Γ1/\(∀ k d Γ,xs[k]?=some d->Iv k Γ->g3 d Γ fun Γ'=>b3 { E1 with nx:=Iv (k + 1),ct:=Iv (k + 1),bk:=E1.nx } Γ')/\∀ Γ,Iv xs.length Γ->E1.nx Γ
theorem Ea {i3:TI3} {g3:TG3} {b3:TS3} {t1:Tag (i3,g3,b3)} {t2:Tag D1}:GK i3 g3 b3 D1 Γ t1 t2=(i3 Γ fun xs Γ1=>DZ xs Γ1 g3 b3 D1 ⟨⟩):=rfl
theorem cJ {xs:List D} {Γ1:G} {g3:TG3} {b3:TS3} {E1:E3} {t:Tag (g3,b3,E1)} (Iv:Nat->G->Prop) (h0:Iv 0 Γ1) (hs:∀ k d Γ,xs[k]?=some d->Iv k Γ->g3 d Γ fun Γ'=>b3 { E1 with nx:=fun Γ=>hI Iv (k + 1) Γ ⟨⟩,ct:=fun Γ=>hI Iv (k + 1) Γ ⟨⟩,bk:=E1.nx } Γ')
  (he:∀ Γ,Iv xs.length Γ->E1.nx Γ):DZ xs Γ1 g3 b3 E1 t:=⟨Iv,h0,hs,he⟩
abbrev hJ (Iv:Nat->List D->G->Prop) (k:Nat) (ys:List D) (Γ:G) (_:Tag Iv):Prop:=Iv k ys Γ
def Eg (xs:List D) (Γ1:G) (fr:On) (g3:TG3) (e3:TE3) (Q:RV->G->Prop) (_:Tag (fr,g3,e3,Q)):Prop:=∃ Iv:Nat->List D->G->Prop,Iv 0 [] (c7 Γ1 (cT fr))/\
 (∀ k d ys Γc,xs[k]?=some d->ys.length=k->Iv k ys Γc->g3 d Γc fun Γ2=>e3 Γ2 fun r Γ3=>Iv (k + 1) (ys++[r.d]) Γ3)/\∀ ys Γc,ys.length=xs.length->Iv xs.length ys Γc->Q (.fr (.lst ys)) (bK fr Γ1 Γc)
theorem GB {fr:On} {i3:TI3} {g3:TG3} {t1:Tag (fr,i3,g3,e3)} {t2:Tag Q}:Eh fr i3 g3 e3 Γ Q t1 t2=(i3 Γ fun xs Γ1=>xs.length < sizeLine/\Eg xs Γ1 fr g3 e3 Q ⟨⟩):=rfl
theorem bZ {xs:List D} {Γ1:G} {fr:On} {g3:TG3} {e3:TE3} {Q:RV->G->Prop} {t:Tag (fr,g3,e3,Q)} (Iv:Nat->List D->G->Prop) (h0:Iv 0 [] (c7 Γ1 (cT fr)))
  (hs:∀ k d ys Γc,xs[k]?=some d->ys.length=k->Iv k ys Γc->g3 d Γc fun Γ2=>e3 Γ2 fun r Γ3=>hJ Iv (k + 1) (ys++[r.d]) Γ3 ⟨⟩) (he:∀ ys Γc,ys.length=xs.length->Iv xs.length ys Γc->Q (.fr (.lst ys)) (bK fr Γ1 Γc)):Eg xs Γ1 fr g3 e3 Q t:=⟨Iv,h0,hs,he⟩
def A1 (xs:List D) (Γ1:G) (fr:On) (g3:TG3) (b3:jB) (Q:RV->G->Prop) (_:Tag (fr,g3,b3,Q)):Prop:=w4 xs g3 b3 [] (c7 Γ1 (cT fr)) fun ys Γc=>ys.length < sizeLine/\Q (.fr (.lst ys)) (bK fr Γ1 Γc)
theorem C7 {fr:On} {i3:TI3} {g3:TG3} {t1:Tag (fr,i3,g3,bb)} {t2:Tag Q}:A2 fr i3 g3 bb Γ Q t1 t2=(i3 Γ fun xs Γ1=>A1 xs Γ1 fr g3 bb Q ⟨⟩):=rfl
theorem gC {xs:List D} {Γ1:G} {fr:On} {g3:TG3} {b3:jB} {Q:RV->G->Prop} {t:Tag (fr,g3,b3,Q)} (Iv:Nat->List D->G->Prop) (h0:Iv 0 [] (c7 Γ1 (cT fr)))
  (hs:∀ k d ys Γ,xs[k]?=some d->Iv k ys Γ->g3 d Γ fun Γ'=>b3 ys Γ' fun ys Γ=>hJ Iv (k + 1) ys Γ ⟨⟩) (he:∀ ys Γc,Iv xs.length ys Γc->ys.length < sizeLine/\Q (.fr (.lst ys)) (bK fr Γ1 Γc)):A1 xs Γ1 fr g3 b3 Q t:=⟨Iv,h0,hs,he⟩
theorem GO {n:Nat} {xs:List D}:eqN (n + 1) (.lst xs) (.lst [])=some xs.isEmpty:=by cases n <;> cases xs <;> rfl
theorem GP {n:Nat} {a b c:Int}:eqN (n + 1) (.lst [.int a,.int b,.int c]) (.lst [.int a,.int b,.int c])=some true:=by
 have:=ui (n:=n) [a,b,c] [a,b,c];rw[decide_eq_true rfl] at this;exact this
def AA (S:S3) (A:G) (L:On) (Γ1:G) (Q:RV->G->Prop) (_:Tag Q):Prop:=S A (fun r Γa=>Q r (bK L Γ1 Γa))
def IQ (S:S3) (A:G) (Γ1:G) (Q:RV->G->Prop) (_:Tag Q):Prop:=S A (fun r Γa=>r=.fz .non/\Eb Γa (fun d=>Q (.fr d) Γ1) ⟨⟩)
theorem lu {n:Nat} {S:S3} {t3:dY}:oV n S t3 Γ Q=(t3 Γ fun bs Γ1=>bs.length=n/\(cR bs).Nodup/\AA S (c7 Γ1 (bs.map some)) ((bs.map some).map cz) Γ1 Q ⟨⟩):=rfl
theorem FQ {C:Addr} {m:Str} {n:Nat} {S:S3} {o3:TB3} {t3:dY}:wX C m n S o3 t3 Γ Q=(o3 Γ fun x Γ1=>(∃ ns xs,x.at Γ1=some (.ins C ns xs)/\m∉ns)/\t3 Γ1 fun bs Γ2=>bs.length + 1=n/\(cR (x::bs)).Nodup/\AA S (c7 Γ2 ((x::bs).map some)) (((x::bs).map some).map cz) Γ2 Q ⟨⟩):=rfl
theorem FR {C:Addr} {n:Nat} {S:S3} {t3:TA3}:Ap C n S t3 Γ Q=(t3 Γ fun ds Γ1=>ds.length + 1=n/\IQ S (some (.ln (.ins C [] []))::ds.map fun d=>some (.fz d)) Γ1 Q ⟨⟩):=rfl
def bG (c:Bool) (t u:TS3) (E1:E3) (Γ:G) (_:Tag (t,u,E1)):Prop:=match c with
 | true=>t E1 Γ
 | false=>u E1 Γ
theorem Bv {s:Tag (t,u,D1)}:bG true t u D1 Γ s=t D1 Γ:=rfl
theorem Bw {s:Tag (t,u,D1)}:bG false t u D1 Γ s=u D1 Γ:=rfl
theorem lC {c:Bool} {s:Tag (t,u,D1)} (h1:c=true->t D1 Γ) (h2:c=false->u D1 Γ):bG c t u D1 Γ s:=by
 cases c with
 | true=>exact h1 rfl
 | false=>exact h2 rfl
theorem t_:Gr A3 t u D1 Γ=(A3 Γ fun c Γ1=>bG c t u D1 Γ1 ⟨⟩):=by
 show (A3 Γ fun c Γ1=>match c with | true=>t D1 Γ1 | false=>u D1 Γ1)=_
 congr 1
theorem Kq {e:D}:eD (t3C e) t3 Γ QA=(t3 Γ fun xs Γ2=>QA (e::xs) Γ2):=rfl
theorem D9 {d e:D}:yX (eD (t3C d) (eD (t3C e) lX)) Γ Q=Q (.fz (.tup [d,e])) Γ:=by
 show (2<=sizeLine/\Q (.fz (.tup [d,e])) Γ)=_;exact propext ⟨fun h=>h.2,fun h=>⟨by rw[sizeLine_eq];decide,h⟩⟩
theorem Ks {d e:D}:eD (yX (eD (t3C d) (eD (t3C e) lX))) t3 Γ QA=(t3 Γ fun xs Γ2=>QA (.tup [d,e]::xs) Γ2):=by
 show yX (eD (t3C d) (eD (t3C e) lX)) Γ (fun x Γ1=>t3 Γ1 fun xs Γ2=>QA (x.d::xs) Γ2)=_;rw[D9];rfl
end
theorem ln0 {α:Type} {us:List α} (h:us.length=0):us=[]:=List.eq_nil_of_length_eq_zero h
theorem ln1 {α:Type} {us:List α} (h:us.length=1):∃ a,us=[a]:=by
 match us,h with
 | [a],_=>exact⟨a,rfl⟩
theorem ln2 {α:Type} {us:List α} (h:us.length=2):∃ a b,us=[a,b]:=by
 match us,h with
 | [a,b],_=>exact⟨a,b,rfl⟩
theorem ln3 {α:Type} {us:List α} (h:us.length=3):∃ a b c,us=[a,b,c]:=by
 match us,h with
 | [a,b,c],_=>exact⟨a,b,c,rfl⟩
theorem ln4 {α:Type} {us:List α} (h:us.length=4):∃ a b c d,us=[a,b,c,d]:=by
 match us,h with
 | [a,b,c,d],_=>exact⟨a,b,c,d,rfl⟩
theorem ln5 {α:Type} {us:List α} (h:us.length=5):∃ a b c d e,us=[a,b,c,d,e]:=by
 match us,h with
 | [a,b,c,d,e],_=>exact⟨a,b,c,d,e,rfl⟩
section
variable {K:Fg0} {B:Bs} {F:Hp} {σ:L2.St} {H:Hp} {Γ:G} {X:Cx}
noncomputable def Bs.hid (B:Bs) (p:Addr) (o:HO):Bs:=⟨B.F,upd B.H p o,B.own⟩
theorem En.hide (e:En K B F σ H Γ) {p:Addr} {o:HO} (hF:F p=none) (hH:H p=some o) (hn:∀ (i:Nat) (d:D),Hld Γ i d->σ[i]?≠some (some (V.ref p))):En K (B.hid p o) F σ H Γ where
 sub:=e.sub
 len:=e.len
 fz:=e.fz
 hl:=e.hl
 ow:=fun i d p' h a=>by
  have z:p'≠p:=fun z=>hn i d (.inl h) (z ▸ a);show upd B.H p o p'=none;rw[aj z];exact e.ow i d p' h a
 ln:=e.ln
 dis:=e.dis
 par:=e.par
 keep:=e.keep
 new:=fun b u h=>by
  rcases e.new b u h with q | q
  ·exact .inl q
  ·have z:b≠p:=fun z=>by subst z;rw[hF] at h;cases h
   exact .inr (by show upd B.H p o b=none;rw[aj z];exact q)
 rest:=fun b u h n=>by
  by_cases z:b=p
  ·subst z;have h:upd B.H b o b=some u:=h;rw[aA] at h;cases h;exact hH
  ·have h:upd B.H p o b=some u:=h;rw[aj z] at h;exact e.rest b u h n
 dom:=fun b h=>by
  have z:b≠p:=fun z=>by subst z;rw[hH] at h;cases h
  show upd B.H p o b=none;rw[aj z];exact e.dom b h
theorem En.Ey {p:Addr} {o:HO} (e:En K (B.hid p o) F σ H Γ) (hB:B.H p=none) (hF:B.F p=none) (hn:∀ i,(i,p)∉B.own) :
  En K B F σ H Γ/\H p=some o/\F p=none/\∀ (i:Nat) (d:D),Hld Γ i d->σ[i]?≠some (some (V.ref p)):=by
 have at_p:(B.hid p o).H p=some o:=aA;have ne:∀ {b:Addr},b≠p->(B.hid p o).H b=B.H b:=fun z=>aj z;have un:∀ {b:Addr},(B.hid p o).H b=none->B.H b=none:=fun {b} h=>by
  have z:b≠p:=fun z=>by subst z;rw[at_p] at h;cases h
  rw[<- ne z];exact h
 refine⟨⟨e.sub,e.len,e.fz,e.hl,fun i d q h a=>un (e.ow i d q h a),e.ln,e.dis,e.par,e.keep,fun b u h=>(e.new b u h).imp id un,fun b u h n=>e.rest b u ?_ n,fun b h=>un (e.dom b h)⟩,e.rest p o at_p hn,?_,fun i d h a=>?_⟩
 ·have z:b≠p:=fun z=>by subst z;rw[hB] at h;cases h
  rw[ne z];exact h
 ·cases q:F p with
  | none=>rfl
  | some u=>
   rcases e.new p u q with z | z
   ·rw[show (B.hid p o).F p=B.F p from rfl,hF] at z;cases z
   ·rw[at_p] at z;cases z
 ·rcases h with h | h
  ·have z:=e.ow i d p h a;rw[at_p] at z;cases z
  ·exact hn i (e.ln i d p h a)
def frL (r:RV) (k:List D->Prop):Prop:=match r with
 | .fr (.lst xs)=>k xs
 | _=>False
theorem GI {r:RV} {k:List D->Prop} (h:frL r k):∃ xs,r=.fr (.lst xs)/\k xs:=by
 cases r with
 | fz d=>exact h.elim
 | two _ _=>exact h.elim
 | rws _=>exact h.elim
 | fr d=>cases d <;> first | exact h.elim | exact⟨_,rfl,h⟩
variable {a b:Expr} {ta tb:TE} {a3 b3:TE3} {pos:Pos}
end
open PySem L2 PySem.Spec PyProof.Rows
section
variable {K:Fg0} {B:Bs} {F:Hp} {σ:L2.St} {H:Hp} {Γ:G} {X:Cx} {p:Addr}
variable {st:Stmt} {rest:List Stmt} {t u:TS} {t3 u3:TS3}
end
section
variable {P:Program} {w:World} {K:Fg0} {mg:SV} {base:Heap}
end
section
variable {K:Fg0} {B:Bs} {F:Hp} {σ:L2.St} {H:Hp} {Γ:G} {X:Cx} {pos:Pos}
def Kv (a3:TE3) (Γ:G) (Q:RV->G->Prop):Prop:=a3 Γ fun r Γ1=>Q (.fz r.d) Γ1
theorem B_ {ta:TE} {a3:TE3} (h:Ref K ta a3):Ref K ta (Kv a3):=fun B F σ H Γ Q QQ e q k=>
 h B F σ H Γ _ _ e q fun v H' Z=>by
  obtain⟨F',Γ',r,s,e',rv,q'⟩:=Z;obtain⟨F2,s2,e2,r2⟩:=e'.frozen rv;exact k v H' ⟨F2,Γ',.fz r.d,s.trans s2,e2,r2,q'⟩
end
section
variable {P:Program} {w:World} {K:Fg0} {mg:SV} {base:Heap}
end
noncomputable def wd (i:Int):List Nat:=(toString i).toList.map Char.toNat
noncomputable def tl:Li->List Nat
 | []=>[93]
 | i::is=>44::32::(wd i++tl is)
noncomputable def lt:Li->List Nat
 | []=>[91,93]
 | i::is=>91::(wd i++tl is)
section
variable {K:Fg0} {X:Cx} {B:Bs} {F0:Hp} {e:Expr} {st:Stmt} {rest:List Stmt} {te:TE} {e3:TE3} {t u:TS} {t3 u3:TS3} {pos:Pos}
end
section
variable {K:Fg0} {B:Bs} {F0:Hp}
end
section
variable {P:Program} {w:World} {K:Fg0} {mg:SV} {base:Heap}
end
section
variable {K:Fg0} {X:Cx} {B:Bs} {F0:Hp} {e:Expr} {te:TE} {e3:TE3} {pos:Pos}
end
section
variable {K:Fg0} {X:Cx} {B:Bs} {F0:Hp} {CX:CXT} {k:Nat} {f C:Addr} {fd:FuncData} {ps:Ls} {x m:Str} {p pos apos:Pos} {e o:Expr} {es:List Expr} {ta:TE} {t:TA} {t3:dY} {o3:TB3} {n:Nat} {S:S3X} {E:L2.St->XK} {W:XD->G->Prop}
end
section
variable {K:Fg0} {X:Cx} {B:Bs} {F0:Hp} {CX:CXT} {k:Nat} {f C:Addr} {fd:FuncData} {ps ns:Ls} {x:Str} {p pos cpos:Pos} {e:Expr} {es:List Expr} {t:TA} {t3:TA3} {E:XK} {W:XD->G->Prop}
end
section
variable {K:Fg0} {B:Bs} {F F0:Hp} {σ:L2.St} {H:Hp} {Γ:G} {C₀:Addr} {i:Nat}
end
section
variable {K:Fg0} {X:Cx} {B:Bs} {F0:Hp} {x nm:Str} {i:Nat} {C₀ L:Addr} {body suite:List Stmt} {b₀:Stmt} {np hpos pos:Pos} {tb:(L2.St->XK)->TS} {b3:(XD->G->Prop)->TS3} {ts:TS} {s3:TS3}
end
section
variable {K:Fg0} {X:Cx} {a:Expr} {ta:TE} {a3:TB3} {pos:Pos}
end
end L3
namespace L2
open PySem PySem.Spec PyProof.Rows
section
variable {X:Cx}
end
end L2
namespace L3
open PySem L2
section
variable {K:Fg0} {B:Bs} {F:Hp} {σ:L2.St} {H:Hp} {Γ:G} {X:Cx} {a b o e:Expr} {to te ta:TE} {e3 o3 a3:TE3} {b3:TB3} {pos apos cpos:Pos}
section
variable (hbase:∀ m:Str,m="removeprefix"\/m="split"\/m="join"->True)
end
theorem Cy {x:Str} {C:Addr} (hg:Gl X x) (hm:X.mg x=some (.ref C)) (hd:autoParam ((x == ("__debug__":Str))=false) wP):P3 K X (.Name x pos) (tC (.ref C)) (t3C (.adr C)):=
 ⟨rn hg hm rfl hd,fun B F σ H Γ Q QQ e q k=>k _ _ (gy (d:=.adr C) e rfl q)⟩
end
section
variable {K:Fg0} {X:Cx} {c:Expr} {body:List Stmt} {tc:TT} {A3:TT3} {tb:TS} {b3:TS3} {pos:Pos}
end
noncomputable abbrev sg (z:Str):List Nat:=z.cps.toList
section
variable {K:Fg0} {X:Cx} {st:Stmt} {t:TS} {t3:TS3}
end
def fz3 (e3:TE3) (Γ:G) (Q:RV->G->Prop):Prop:=e3 Γ fun r Γ1=>Q (.fz r.d) Γ1
theorem cQ {K:Fg0} {X:Cx} {e:Expr} {te:TE} {e3:TE3} (h:P3 K X e te e3):P3 K X e te (fz3 e3):=⟨h.pe,fun B F σ H Γ Q QQ en q k=>h.rf B F σ H Γ _ _ en q fun v H' Z=>by
 obtain⟨F',Γ',r,s,e',rv,q'⟩:=Z;obtain⟨F2,s2,e2,rp⟩:=e'.frozen rv;exact k v H' ⟨F2,Γ',.fz r.d,s.trans s2,e2,rp,q'⟩⟩
section
variable {Γ:G} {Q:RV->G->Prop} {W:XD->G->Prop} {D:E3}
end
end L3
namespace L2
open PySem PySem.Spec PyProof.Rows
section
variable {X:Cx} {a b e:Expr} {ta tb te:TE} {rest es:List Expr} {pos:Pos}
end
end L2
namespace L3
open PySem L2
section
variable {K:Fg0} {B:Bs} {F:Hp} {σ:L2.St} {H:Hp} {Γ:G} {X:Cx} {a b o e:Expr} {rest es:List Expr} {to te ta tb:TE} {e3 o3 a3 b3:TE3} {pos apos cpos:Pos}
end
end L3
namespace L2
open PySem PySem.Spec PyProof.Rows
section
variable {X:Cx} {pins:Pn} {σ:St} {H:Hp} {s:Shared} {e C:Addr} {dx:Option Addr}
end
section
variable {X:Cx} {CX:CXT} {k:Nat} {f C:Addr} {fd:FuncData} {ps:Ls} {sp:Sp} {dvs:List V} {ds:Lv} {E':XK} {x:Str} {p cpos:Pos} {e:Expr} {es:List Expr} {t:TA}
end
end L2
namespace L3
open PySem L2 PySem.Spec PyProof.Rows
section
variable {K:Fg0} {X:Cx} {B:Bs} {F0:Hp} {k:Nat} {f C:Addr} {fd:FuncData} {ps ns:Ls} {x:Str} {p cpos:Pos} {e:Expr} {es:List Expr} {t:TA} {t3:TA3}
end
section
variable {K:Fg0} {X:Cx} {e:Expr} {te:TE} {e3:TE3}
end
end L3
namespace L2
open PySem PySem.Spec PyProof.Rows
section
variable {K:Fg0} {U C D:Addr}
end
end L2
namespace L3
open PySem L2 PySem.Spec PyProof.Rows
section
variable {K:Fg0} {X:Cx} {k:Nat} {f C:Addr} {fd:FuncData} {ps:Ls} {x:Str} {p cpos:Pos} {e:Expr} {es:List Expr} {t:TA} {t3:TA3}
end
section
variable {K:Fg0} {X:Cx} {pos p1 p2:Pos} {x y:Str}
end
section
variable {K:Fg0} {X:Cx} {F:Hp} {a b:Expr} {ta tb:TE} {a3 b3:TB3} {pos:Pos}
end
end L3
namespace L2
open PySem PySem.Spec PyProof.Rows
section
variable {X:Cx} {pins:Pn} {σ σ':St} {H:Hp} {s:Shared} {L:Nat} {st:Stmt} {ss:List Stmt} {t:TS}
end
end L2
namespace L3
open PySem L2 PySem.Spec PyProof.Rows
section
variable {K:Fg0} {X:Cx} {B:Bs} {F F':Hp} {σ σ':L2.St} {H:Hp} {Γ Γ':G} {pos:Pos}
def Wk (K:Fg0) (Γ Γ':G):Prop:=∀ (B:Bs) (F:Hp) (σ:L2.St) (H:Hp),En K B F σ H Γ->∃ F',aw F F'/\En K B F' σ H Γ'
def wk3 (K:Fg0) (t3:TS3) (D:E3) (Γ:G):Prop:=∃ Γ',Wk K Γ Γ'/\t3 D Γ'
theorem HR {ss:List Stmt} {t:TS} {t3:TS3} (h:pf K X ss t t3):pf K X ss t (wk3 K t3):=⟨h.pe,fun B F σ H Γ D D3 e k Z=>by
 obtain⟨Γ',w,q⟩:=Z;obtain⟨F1,s1,e1⟩:=w B F σ H e;exact h.rf B F1 σ H Γ' D D3 e1 (k.mono s1) q⟩
theorem En.adr (e:En K B F σ H Γ) {i:Nat} {q:Addr} {xs:List D} (h:Hld Γ i (.cel q xs)):σ[i]?=some (some (V.ref q))/\F q=none/\∃ vs,H q=some (.lst vs)/\au K F xs vs:=by
 obtain⟨p,a,b,rfl,vs,c,d⟩:=e.hl i _ h;exact⟨a,b,vs,c,d⟩
def Dv (r:RV) (k:Addr->Prop):Prop:=match r with
 | .fz (.adr q)=>k q
 | _=>False
theorem Du {r:RV} {k:Addr->Prop} (h:Dv r k):∃ q,r=.fz (.adr q)/\k q:=by
 cases r with
 | fz d=>cases d <;> first | exact h.elim | exact⟨_,rfl,h⟩
 | fr _=>exact h.elim
 | two _ _=>exact h.elim
 | rws _=>exact h.elim
def zf (r:RV) (k:List (List D)->Prop):Prop:=match r with
 | .rws xss=>k xss
 | _=>False
theorem B2 {r:RV} {k:List (List D)->Prop} (h:zf r k):∃ xss,r=.rws xss/\k xss:=by
 cases r with
 | rws xss=>exact⟨_,rfl,h⟩
 | fz _=>exact h.elim
 | fr _=>exact h.elim
 | two _ _=>exact h.elim
def vB (b:Bo) (k:Nat->Prop):Prop:=match b with
 | .v j=>k j
 | .d _=>False
def Jm (e3:TE3) (Γ:G) (Q:Bo->G->Prop):Prop:=e3 Γ fun r Γ1=>Dv r fun q=>∃ j xs,Hld Γ1 j (.cel q xs)/\Q (.v j) Γ1
theorem bA {e:Expr} {te:TE} {e3:TE3} (h:P3 K X e te e3):P3B K X e te (Jm e3):=⟨h.pe,by
 intro B F σ H Γ Q QQ en q k;refine h.rf B F σ H Γ _ _ en q fun v H1 Z=>?_;obtain⟨F1,Γ1,r,s1,e1,rv,q1⟩:=Z;obtain⟨q',rfl,j,xs,hj,q1⟩:=Du q1;have hv:v=.ref q':=rv;subst hv;exact k _ _ ⟨F1,Γ1,.v j,s1,e1,(e1.adr hj).1,q1⟩⟩
noncomputable def zG (Γ:G) (j:Nat) (xs:List D):G:=match Γ[j]? with
 | some (some (.ow (.cel q _)))=>Γ.set j (some (.ow (.cel q xs)))
 | some (some (.ln (.cel q _)))=>Γ.set j (some (.ln (.cel q xs)))
 | _=>Γ
theorem Ce {j:Nat} {q:Addr} {xs ys:List D} (h:Hld Γ j (.cel q xs)):zG Γ j ys=putD Γ j (.cel q ys):=by
 rcases h with h | h <;> unfold zG putD <;> rw[h]
theorem En.Kf (e:En K B F σ H Γ) {j:Nat} {q:Addr} {xs ys:List D} {ws:List V} (h:Hld Γ j (.cel q xs)) (r:au K F ys ws):En K B F σ (upd H q (.lst ws)) (zG Γ j ys):=by
 rw[Ce h];exact e.Ih h (e.adr h).1 ⟨rfl,ws,aA,r⟩
variable {o k e:Expr} {to tk te:TE} {o3 k3:TB3} {e3:TE3} {p2 apos cpos:Pos}
def DJ (o3 k3:TB3) (e3:TE3) (D:E3) (Γ:G):Prop:=e3 Γ fun r Γ1=>o3 Γ1 fun bo Γ2=>vB bo fun j=>k3 Γ2 fun b Γ3=>∃ q xs k n,Hld Γ3 j (.cel q xs)/\b.at Γ3=some (.int k)/\ixN xs.length k=some n/\D.nx (zG Γ3 j (xs.set n r.d))
theorem B1 (ho:P3B K X o to o3) (hk:P3B K X k tk k3) (he:P3 K X e te e3)
  (ha:∀ v,assign (.Subscript o k p2) X.env v=(do
   let ov <- holding [v] (eval o X.env)
   let iv <- holding [v,ov] (eval k X.env)
   standAt p2
   holding [v,ov,iv] (setItem ov iv v)
   release [v,ov,iv] []):=by intro _;rfl)
  (hs:autoParam (swapsWithSole [.Subscript o k p2] e pos.line X.env=pure false) wE) (hw:autoParam (swappedStores [.Subscript o k p2] e X.env=pure none) wE)
  (h1:autoParam ((assignEach [.Subscript o k p2] X.env).map (·.2)=[assign (.Subscript o k p2) X.env]) wE) :
  P3S K X (.Assign [.Subscript o k p2] e pos) (eZ te (yC to tk p8)) (DJ o3 k3 e3):=⟨q8 he.pe (zO ho.pe hk.pe set_list ha) hs hw h1,fun B F σ H Γ D D3 en kk q=>
 he.rf B F σ H Γ _ _ en q fun v H' Z=>by
  obtain⟨F',Γ',r,s,e',rv,q'⟩:=Z;obtain⟨F2,s2,e2,r2⟩:=e'.frozen rv;refine ho.rf B F2 σ H' Γ' _ _ e2 q' fun w H2 Z=>?_;obtain⟨F3,Γ3,bo,s3,e3,rb,q3⟩:=Z;cases bo with
  | d _=>exact q3.elim
  | v j=>
   refine hk.rf B F3 σ H2 Γ3 _ _ e3 q3 fun u H3 Z=>?_;obtain⟨F4,Γ4,b4,s4,e4,rb4,q0,xs,kk',n,hj,hb,hn,q4⟩:=Z;obtain⟨a1,a2,vs,a3,a4⟩:=e4.adr hj;have hw:σ[j]?=some (some w):=rb;rw[a1] at hw;cases hw;have hu:u=.int kk':=e4.bo rb4 hb;exact⟨q0,vs,kk',n,rfl,hu,a3,by rw[a4.length];exact hn,kk.nx F4 σ _ _ (((s.trans s2).trans s3).trans s4) (e4.Kf hj (au.set (r2.mono (s3.trans s4)) n a4)) q4⟩⟩
theorem sY:∀ {qs:La0},au K F (qs.map D.adr) (qs.map V.ref)
 | []=>rfl
 | _::_=>⟨_,_,rfl,rfl,sY⟩
end
noncomputable def Bs.m9 (B:Bs):List (Addr×HO)->Bs
 | []=>B
 | (q,o)::l=>(Bs.m9 B l).hid q o
section
variable {K:Fg0} {X:Cx} {B:Bs} {F F':Hp} {σ σ':L2.St} {H:Hp} {Γ Γ':G} {pos:Pos}
theorem AB:∀ {l:List (Addr×HO)},(B.m9 l).F=B.F
 | []=>rfl
 | _::l=>AB (l:=l)
theorem tZ:∀ {l:List (Addr×HO)},(B.m9 l).own=B.own
 | []=>rfl
 | _::l=>tZ (l:=l)
theorem xf:∀ {l:List (Addr×HO)} {q:Addr},(B.m9 l).H q=none->B.H q=none/\q∉l.map (·.1)
 | [],q,h=>⟨h,by simp⟩
 | (z,o)::l,q,h=>by
  have h:upd (B.m9 l).H z o q=none:=h;have ne:q≠z:=fun w=>by rw[w,aA] at h;cases h
  rw[aj ne] at h;obtain⟨a,b⟩:=xf h;exact⟨a,by rw[List.map_cons,List.mem_cons,not_or];exact⟨ne,b⟩⟩
theorem qe:∀ {l:List (Addr×HO)} {q:Addr},B.H q=none->q∉l.map (·.1)->(B.m9 l).H q=none
 | [],q,h,_=>h
 | (z,o)::l,q,h,n=>by
  rw[List.map_cons,List.mem_cons,not_or] at n;show upd (B.m9 l).H z o q=none;rw[aj n.1];exact qe h n.2
theorem En.wk:∀ {l:List (Addr×HO)},En K (B.m9 l) F σ H Γ->(l.map (·.1)).Nodup->(∀ z,z∈l->B.H z.1=none/\B.F z.1=none/\∀ i,(i,z.1)∉B.own)->
  En K B F σ H Γ/\∀ z,z∈l->H z.1=some z.2/\F z.1=none/\∀ (i:Nat) (d:D),Hld Γ i d->σ[i]?≠some (some (V.ref z.1))
 | [],e,_,_=>⟨e,fun _ h=>nomatch h⟩
 | (q,o)::l,e,nd,hn=>by
  rw[List.map_cons,List.nodup_cons] at nd;obtain⟨b1,b2,b3⟩:=hn (q,o) (.head _);obtain⟨e1,h1,f1,n1⟩:=En.Ey (B:=B.m9 l) e (qe b1 nd.1) (by rw[AB];exact b2) (by rw[tZ];exact b3);obtain⟨e2,k2⟩:=En.wk e1 nd.2 fun z hz=>hn z (.tail _ hz);refine⟨e2,fun z hz=>?_⟩;rcases List.mem_cons.mp hz with rfl | hz
  ·exact⟨h1,f1,n1⟩
  ·exact k2 z hz
def r_ (fr:On) (i3:TI3) (g3:TG3) (e3:TE3) (Γ:G) (Q:RV->G->Prop):Prop:=i3 Γ fun xs Γ1=>xs.length < sizeLine/\∃ Iv:Nat->List (List D)->G->Prop,Iv 0 [] (c7 Γ1 (cT fr))/\
 (∀ k d ys Γc,xs[k]?=some d->ys.length=k->Iv k ys Γc->g3 d Γc fun Γ2=>e3 Γ2 fun r Γ3=>frL r fun zs=>Iv (k + 1) (ys++[zs]) Γ3)/\∀ ys Γc,ys.length=xs.length->Iv xs.length ys Γc->Q (.rws ys) (bK fr Γ1 Γc)
theorem c8.snoc:∀ {qs:La0} {xss:List (List D)} {q:Addr} {xs:List D} {vs:List V},c8 K F H qs xss->H q=some (.lst vs)->au K F xs vs->c8 K F H (qs++[q]) (xss++[xs])
 | [],_,q,xs,vs,h,h1,h2=>by cases h;exact⟨xs,[],vs,rfl,h1,h2,rfl⟩
 | _::_,_,q,xs,vs,⟨ys,yt,ws,a1,a2,a3,a4⟩,h1,h2=>by subst a1;exact⟨ys,_,ws,rfl,a2,a3,c8.snoc a4 h1 h2⟩
noncomputable def lH (K:Fg0) (F:Hp):List (Addr×HO)->List (List D)->Prop
 | [],xss=>xss=[]
 | z::l,xss=>∃ xs xt vs,xss=xt++[xs]/\z.2=.lst vs/\au K F xs vs/\lH K F l xt
theorem lH.mono (s:aw F F'):∀ {l:List (Addr×HO)} {xss:List (List D)},lH K F l xss->lH K F' l xss
 | [],_,h=>h
 | _::_,_,⟨xs,xt,vs,h1,h2,h3,h4⟩=>⟨xs,xt,vs,h1,h2,h3.mono s,lH.mono s h4⟩
theorem lH.at:∀ {l:List (Addr×HO)} {xss:List (List D)},lH K F l xss->(∀ z,z∈l->H z.1=some z.2)->c8 K F H (l.map (·.1)).reverse xss
 | [],_,h,_=>h
 | z::l,_,⟨xs,xt,vs,h1,h2,h3,h4⟩,hH=>by
  subst h1;rw[List.map_cons,List.reverse_cons];exact(lH.at h4 fun y hy=>hH y (.tail _ hy)).snoc (by rw[hH z (.head _),h2]) h3
theorem xX {fr:On} {wi:TI} {i3:TI3} {g:TG} {g3:TG3} {te:TE} {e3:TE3} (nd:(fr.filterMap id).Nodup) (hi:BM K wi i3) (hg:yL K g g3) (he:Ref K te e3):Ref K (nH fr wi g te) (r_ fr i3 g3 e3):=by
 intro B F σ H Γ Q QQ e q k;refine hi B F σ H Γ _ _ e q fun J H1 F1 Γ1 xs s1 e1 R Z=>?_;obtain⟨hz,Iv,i0,it,ie⟩:=Z;have eb:=e1.blk nd;refine⟨fun i m ys σc H=>m=xs.length - i/\i<=xs.length/\∃ F' Γc ds l,aw F1 F'/\En K ((Bs.mk F1 H1 (ownOf Γ1 σ (cT fr))).m9 l) F' σc H Γc/\ys=((l.map (·.1)).reverse).map V.ref/\(l.map (·.1)).Nodup/\(∀ z,z∈l->H1 z.1=none)/\lH K F' l ds/\l.length=i/\ds.length=i/\Iv i ds Γc,
  ⟨_,rfl,Nat.zero_le _,F1,_,[],[],aw.refl _,eb,rfl,by simp,(fun _ h=>nomatch h),rfl,rfl,rfl,i0⟩,?_⟩
 rintro i m ys σc H2 ⟨rfl,hi',F2,Γ2,ds,l,s2,e2,rfl,nd2,new2,r2,hl2,hl,iv⟩;refine⟨by simp [hl2];lia,?_⟩;have cond:∀ z,z∈l->(Bs.mk F1 H1 (ownOf Γ1 σ (cT fr))).H z.1=none/\(Bs.mk F1 H1 (ownOf Γ1 σ (cT fr))).F z.1=none/\∀ j,(j,z.1)∉(Bs.mk F1 H1 (ownOf Γ1 σ (cT fr))).own:=fun z hz=>by
  have h1:=new2 z hz;refine⟨h1,e1.nof h1,fun j hj=>?_⟩;obtain⟨i',d,_,h5,h6⟩:=ji.mp hj;exact e1.tM h1 i' d h5 h6
 by_cases lt:i < xs.length
 ·refine .inr ⟨R.go i H2 (s2.trans e2.sub) lt,fun x H3 y=>?_⟩;have hd:xs[i]?=some xs[i]:=gE0 lt;obtain⟨F3,s3,e3',r3⟩:=R.turn s2 e2 hd y;refine hg _ F3 σc H3 Γ2 x _ _ _ e3' r3 (it i _ ds Γ2 hd hl iv) fun σ2 Γ4 e4 q4=>?_;refine⟨fun y H5=>∃ F5 Γ5 r,aw F3 F5/\En K ((Bs.mk F1 H1 (ownOf Γ1 σ (cT fr))).m9 l) F5 σ2 H5 Γ5/\jC K ((Bs.mk F1 H1 (ownOf Γ1 σ (cT fr))).m9 l) F5 σ2 H5 Γ5 y r/\frL r fun zs=>Iv (i + 1) (ds++[zs]) Γ5,fun y H5 Z=>?_,he _ F3 σ2 H3 Γ4 _ _ e4 q4 fun v H' p=>p⟩;obtain⟨F5,Γ5,r,s5,e5,rv,iv5⟩:=Z;obtain⟨zs,rfl,iv5⟩:=GI iv5;obtain⟨p,rfl,f5,⟨vs,h5,r5⟩,b5,n5⟩:=rv;obtain⟨b6,b7⟩:=xf b5;refine⟨xs.length - (i + 1),by lia,rfl,lt,F5,Γ5,ds++[zs],(p,.lst vs)::l,((s2.trans s3).trans s5),e5.hide f5 h5 n5,by simp,?_,?_,⟨zs,ds,vs,rfl,rfl,r5,r2.mono (s3.trans s5)⟩,by simp [hl2],by simp [hl],iv5⟩
  ·rw[List.map_cons,List.nodup_cons];exact⟨b7,nd2⟩
  ·intro z hz;rcases List.mem_cons.mp hz with rfl | hz
   ·exact b6
   ·exact new2 z hz
 ·have z:i=xs.length:=by lia
  subst z;refine .inl ⟨R.stop _ H2 (s2.trans e2.sub) rfl,fun l' hl'=>k _ _ ?_⟩;obtain⟨e3,k3⟩:=e2.wk nd2 cond;have eo:En K B F2 σ H2 (bK fr Γ1 Γ2):=e1.back (ls:=fr) e3 (by have:=kq (Γ:=Γ1) (σ:=σ) (bs:=cT fr);rw[oB] at this;exact this);have nh:∀ {p:Addr},H1 p=none->∀ (i:Nat) (x:D),Hld (bK fr Γ1 Γ2) i x->σ[i]?≠some (some (V.ref p)):=fun {p} h4' i x hx hp=>by
   obtain⟨d0,w⟩:∃ d0,Hld Γ1 i d0:=by
    rcases hx with hx | hx <;> rw[cy] at hx
    ·cases w:Γ1[i]? with
     | none=>rw[w] at hx;cases hx
     | some s=>rw[w] at hx;cases s with
      | none=>cases hx
      | some s=>cases s with
       | fz d=>cases hx
       | ow d=>exact⟨d,.inl w⟩
       | ln d=>cases hx
    ·cases w:Γ1[i]? with
     | none=>rw[w] at hx;cases hx
     | some s=>rw[w] at hx;cases s with
      | none=>cases hx
      | some s=>cases s with
       | fz d=>cases hx
       | ow d=>cases hx
       | ln d=>exact⟨d,.inr w⟩
   exact e1.tM h4' i d0 w hp
  have mem:∀ {z:Addr},z∈(l.map (·.1)).reverse->∃ o,(z,o)∈l:=fun {z} hz=>by
   rw[List.mem_reverse,List.mem_map] at hz;obtain⟨⟨y,o⟩,hy,rfl⟩:=hz;exact⟨o,hy⟩
  refine⟨F2,_,.rws ds,s1.trans s2,eo.alloc hl' _,⟨l',(l.map (·.1)).reverse,rfl,aA,?_,?_,fun z hz=>?_⟩,ie ds Γ2 hl iv⟩
  ·rw[List.nodup_cons];refine⟨fun hz=>?_,List.pairwise_reverse.mpr (nd2.imp fun h=>Ne.symm h)⟩;obtain⟨o,ho⟩:=mem hz;rw[(k3 _ ho).1] at hl';cases hl'
  ·refine(r2.at fun z hz=>(k3 z hz).1).mono (aw.refl F2) fun z hz=>?_;obtain⟨o,ho⟩:=mem hz;exact aj (aU (k3 _ ho).1 hl')
  ·rcases List.mem_cons.mp hz with rfl | hz
   ·exact⟨eo.nof hl',eo.dom _ hl',eo.tM hl'⟩
   ·obtain⟨o,ho⟩:=mem hz;have h1:=new2 _ ho;exact⟨(k3 _ ho).2.1,e1.dom _ h1,nh h1⟩
theorem zW {elt iter tg:Expr} {sc:Scope} {Nc:Ls} {fr:On} {wi:TI} {i3:TI3} {g:TG} {g3:TG3} {te:TE} {e3:TE3} (hc:X.calm=true) (hi:P3I K X tg iter wi i3) (Bk:Blk X.N X.env.scope sc Nc fr)
  (hg:∀ s₀ H₀ C ex pn,P3G K (aF X sc Nc s₀ H₀ C ex pn) tg g g3) (he:∀ s₀ H₀ C ex pn,P3 K (aF X sc Nc s₀ H₀ C ex pn) elt te e3) (nd:autoParam ((fr.filterMap id).Nodup) wP) (hs:autoParam (∀ x,foldedSetIterable iter X.env x=pure x) wT) :
  P3 K X (.ListComp elt [⟨tg,iter,[],0⟩] sc pos) (nH fr wi g te) (r_ fr i3 g3 e3):=
 ⟨wO hc hi.pe Bk (fun a b c d e=>(hg a b c d e).pe) (fun a b c d e=>(he a b c d e).pe) hs,xX nd hi.rf (hg X.s₀ X.H₀ 0 [] []).rf (he X.s₀ X.H₀ 0 [] []).rf⟩
end
section
variable {P:Program} {w:World} {K:Fg0} {mg:SV} {base:Heap}
end
theorem CG {ls:On} {cs:G} {j:Nat} (h:∀ k:Nat,ls[k]?≠some (some j)):newD ls cs j=none:=by
 cases q:newD ls cs j with
 | none=>rfl
 | some d=>obtain⟨k,a,_⟩:=c9 q;exact absurd a (h k)
section
variable {K:Fg0} {X:Cx} {B:Bs} {F F':Hp} {σ σ':L2.St} {H:Hp} {Γ Γ':G} {pos:Pos}
variable {k L n:Nat} {f:Addr} {fd:FuncData} {ps:Ls} {x:Str} {p:Pos} {e:Expr} {es:List Expr} {t:TA} {t3:dY} {S:S3}
end
section
variable {K:Fg0} {X:Cx} {B:Bs} {F F':Hp} {σ σ':L2.St} {H:Hp} {Γ Γ':G} {pos:Pos}
end
section
variable {K:Fg0} {B:Bs} {F F':Hp} {σ σ':L2.St} {H:Hp} {Γ Γ':G}
variable {P:Program} {w:World} {mg:SV} {base:Heap}
end
end L3
namespace L2
open PySem PySem.Spec PyProof.Rows
section
variable {X:Cx}
end
end L2
namespace L3
open PySem L2 PySem.Spec PyProof.Rows
section
variable {K:Fg0} {X:Cx} {B:Bs} {F F':Hp} {σ σ':L2.St} {H:Hp} {Γ Γ':G} {pos:Pos}
end
theorem Bn {xs:List D}:bare (.lst xs)=.lst xs:=rfl
theorem Bp {C:Addr} {ns:Ls} {xs:List D}:bare (.ins C ns xs)=.ins C ns xs:=rfl
theorem Bq {q:Addr} {xs:List D}:bare (.cel q xs)=.lst xs:=rfl
noncomputable def tlG (T:G):G:=T
noncomputable def nn (m:Nat):G:=List.replicate m none
noncomputable def oY (k:Nat) (ls:On) (Γ cs:G):G:=Γ.mapIdx fun i s=>eE (newD ls cs (i + k)) s
noncomputable def lsB:On->Nat->Bool
 | [],_=>true
 | none::l,k=>lsB l k
 | some j::l,k=>decide (j < k) && lsB l k
section
variable {Γ cs T:G} {ls:On} {k:Nat} {s:Option Sl}
theorem xE:bK ls Γ cs=oY 0 ls Γ cs:=rfl
theorem qD:oY k ls [] cs=[]:=rfl
theorem oX:oY k ls (s::Γ) cs=eE (newD ls cs k) s::oY (k + 1) ls Γ cs:=by
 unfold oY;rw[List.mapIdx_cons,Nat.zero_add]
 congr 2
 funext i s
 rw[Nat.add_right_comm,Nat.add_assoc]
theorem vq:∀ {ls:On},lsB ls k=true->∀ {j:Nat},k<=j->∀ a:Nat,ls[a]?≠some (some j)
 | [],_,j,_,a,h=>by simp at h
 | none::l,hb,j,hj,0,h=>by simp at h
 | none::l,hb,j,hj,a + 1,h=>vq (ls:=l) hb hj a (by simpa using h)
 | some i::l,hb,j,hj,0,h=>by
  have hb:(decide (i < k) && lsB l k)=true:=hb;rw[Bool.and_eq_true] at hb;have:=of_decide_eq_true hb.1;simp at h;lia
 | some i::l,hb,j,hj,a + 1,h=>by
  have hb:(decide (i < k) && lsB l k)=true:=hb;rw[Bool.and_eq_true] at hb;exact vq (ls:=l) hb.2 hj a (by simpa using h)
theorem vW {s:Option Sl}:eE none s=s:=by
 cases s with
 | none=>rfl
 | some s=>cases s <;> rfl
theorem uw (h:lsB ls k=true):oY k ls (tlG T) cs=tlG T:=by
 unfold oY tlG;apply List.ext_getElem?;intro i;rw[List.getElem?_mapIdx,CG fun a=>vq h (Nat.le_add_left k i) a];cases T[i]? with
 | none=>rfl
 | some s=>simp [vW]
theorem wZ:lsB [] k=true:=rfl
theorem tT {l:On}:lsB (none::l) k=lsB l k:=rfl
theorem tS {l:On} {j:Nat}:lsB (some j::l) k=(decide (j < k) && lsB l k):=rfl
end
section
variable {fr:On} {i3:TI3} {g3:TG3} {e3:TE3} {o3 k3:TB3} {b3 u3 t3:TS3} {Γ:G} {Q:RV->G->Prop} {D1:E3} {K:Fg0}
def A0 (fr:On) (i3:TI3) (g3:TG3) (e3:TE3) (Γ:G) (Q:RV->G->Prop) (_:Tag (fr,i3,g3,e3)) (_:Tag Q):Prop:=r_ fr i3 g3 e3 Γ Q
theorem Dg:r_ fr i3 g3 e3 Γ Q=A0 fr i3 g3 e3 Γ Q ⟨⟩ ⟨⟩:=rfl
abbrev hR (Iv:Nat->List (List D)->G->Prop) (k:Nat) (ys:List (List D)) (Γ:G) (_:Tag Iv):Prop:=Iv k ys Γ
def AZ (xs:List D) (Γ1:G) (fr:On) (g3:TG3) (e3:TE3) (Q:RV->G->Prop) (_:Tag (fr,g3,e3,Q)):Prop:=∃ Iv:Nat->List (List D)->G->Prop,Iv 0 [] (c7 Γ1 (cT fr))/\
 (∀ k d ys Γc,xs[k]?=some d->ys.length=k->Iv k ys Γc->g3 d Γc fun Γ2=>e3 Γ2 fun r Γ3=>frL r fun zs=>Iv (k + 1) (ys++[zs]) Γ3)/\∀ ys Γc,ys.length=xs.length->Iv xs.length ys Γc->Q (.rws ys) (bK fr Γ1 Γc)
theorem C6 {t1:Tag (fr,i3,g3,e3)} {t2:Tag Q}:A0 fr i3 g3 e3 Γ Q t1 t2=(i3 Γ fun xs Γ1=>xs.length < sizeLine/\AZ xs Γ1 fr g3 e3 Q ⟨⟩):=rfl
theorem yE {xs:List D} {Γ1:G} {t:Tag (fr,g3,e3,Q)} (Iv:Nat->List (List D)->G->Prop) (h0:Iv 0 [] (c7 Γ1 (cT fr)))
  (hs:∀ k d ys Γc,xs[k]?=some d->ys.length=k->Iv k ys Γc->g3 d Γc fun Γ2=>e3 Γ2 fun r Γ3=>frL r fun zs=>hR Iv (k + 1) (ys++[zs]) Γ3 ⟨⟩) (he:∀ ys Γc,ys.length=xs.length->Iv xs.length ys Γc->Q (.rws ys) (bK fr Γ1 Γc)):AZ xs Γ1 fr g3 e3 Q t:=⟨Iv,h0,hs,he⟩
def KH (j:Nat) (ob:Option D) (d:D) (Γ:G) (N:G->Prop) (_:Tag N):Prop:=∃ q xs k n,Hld Γ j (.cel q xs)/\ob=some (.int k)/\ixN xs.length k=some n/\N (zG Γ j (xs.set n d))
theorem Gx:DJ o3 k3 e3 D1 Γ=(e3 Γ fun r Γ1=>o3 Γ1 fun bo Γ2=>vB bo fun j=>k3 Γ2 fun b Γ3=>KH j (b.at Γ3) r.d Γ3 D1.nx ⟨⟩):=rfl
theorem G2 {q:Addr} {k:Addr->Prop}:Dv (.fz (.adr q)) k=k q:=rfl
theorem ES {xss:List (List D)} {k:List (List D)->Prop}:zf (.rws xss) k=k xss:=rfl
theorem JQ {j:Nat} {k:Nat->Prop}:vB (.v j) k=k j:=rfl
def KI (q:Addr) (Γ:G) (Q:Bo->G->Prop) (_:Tag Q):Prop:=∃ j xs,Hld Γ j (.cel q xs)/\Q (.v j) Γ
theorem GC {QB:Bo->G->Prop}:Jm e3 Γ QB=(e3 Γ fun r Γ1=>Dv r fun q=>KI q Γ1 QB ⟨⟩):=rfl
def wkH (K:Fg0) (t3:TS3) (E1:E3) (Γ:G) (_:Tag (t3,E1)):Prop:=wk3 K t3 E1 Γ
theorem Km:wk3 K t3 D1 Γ=wkH K t3 D1 Γ ⟨⟩:=rfl
theorem Ha {t:Tag (t3,D1)} {Γ':G} (h:Wk K Γ Γ') (q:t3 D1 Γ'):wkH K t3 D1 Γ t:=⟨Γ',h,q⟩
end
noncomputable def gh (c:D->Sl) (p:Addr) (ds:List D) (qs:La0) (xss:List (List D)):G:=some (c (.cel p ds))::List.zipWith (fun q xs=>some (c (.cel q xs))) qs xss
section
variable {c:D->Sl} {p q:Addr} {ds:List D} {qs:La0} {xs ys:List D} {xss:List (List D)} {T T' pre:G} {L g n m y:Nat} {K:Fg0}
theorem EV {R:LL}:List.map D.lst (List.map (fun r=>List.map D.int r) R)=List.map (fun ns=>D.lst (ns.map D.int)) R:=by rw[List.map_map];rfl
theorem EA:(tlG (gh c p ds qs xss++T))[0]?=some (some (c (.cel p ds))):=rfl
section
variable {Γ:G} {QB:Bo->G->Prop} {t:Tag QB}
end
end
section
variable {c:D->Sl} {p q:Addr} {ds:List D} {qs:La0} {xs ys:List D} {xss:List (List D)} {T T' T0 A Z pre Γ:G} {L g n m y:Nat} {K:Fg0}
section
variable {QB:Bo->G->Prop} {t:Tag QB}
end
def hX (L:Nat) (A T:G) (m:Nat) (p:Addr) (qs:La0) (Jv:Nat->G->List (List D)->Prop) (k:Nat) (Γ:G) (_:Tag Jv):Prop:=∃ pre X,pre.length=L/\X.length=qs.length/\Jv k pre X/\Γ=pre++tlG (A++(gh .ow p (qs.map .adr) qs X++(nn (m - (qs.length + 1))++T)))
end
section
variable {c:D->Sl} {p q:Addr} {ds:List D} {qs:La0} {xs ys:List D} {xss:List (List D)} {T T' T0 A Z pre Γ:G} {L L0 g n m y:Nat} {K:Fg0}
end
end L3
namespace L2
open PySem PySem.Spec PyProof.Rows
section
variable {X:Cx}
end
noncomputable def dh (n:Nat) (g:Addr->Option Obj) (m:Addr->Option Str):Heap:={ objs:=Array.ofFn (n:=n) fun i=>(g i.1).getD { cls:=(m i.1).elim .none fun q=>.str q 0,data:=.freed } }
section
variable {n:Nat} {g:Addr->Option Obj} {m:Addr->Option Str} {b:Addr} {o:Obj} {h:Heap}
theorem vG (e:h.get? b=some o):o.data≠.freed:=by
 unfold Heap.get? at e;cases q:h.objs[b]? with
 | none=>rw[q] at e;cases e
 | some x=>
  rw[q] at e;obtain⟨c,d,dt,sl⟩:=x;cases dt with
  | freed=>cases e
  | _=>cases e;intro y;cases y
theorem iE:(dh n g m).objs.size=n:=by unfold dh;exact Array.size_ofFn
theorem jj (hb:b < n):(dh n g m).objs[b]?=some ((g b).getD { cls:=(m b).elim .none fun q=>.str q 0,data:=.freed }):=by
 unfold dh;rw[Array.getElem?_eq_getElem (by rw[Array.size_ofFn];exact hb),Array.getElem_ofFn]
theorem vh (hb:b < n) (hg:g b=some o) (nf:o.data≠.freed):(dh n g m).get? b=some o:=by
 unfold Heap.get?;rw[jj hb,hg];obtain⟨c,d,dt,sl⟩:=o;show (match some (Obj.mk c d dt sl) with | some ⟨_,_,.freed,_⟩=>none | o=>o)=_;split
 ·rename_i z;cases z;exact absurd rfl nf
 ·rfl
theorem qb (e:(dh n g m).get? b=some o):b < n/\g b=some o:=by
 have hb:b < n:=by have:=Heap.lt_size e;rw[iE] at this;exact this
 refine⟨hb,?_⟩;have nf:=vG e;unfold Heap.get? at e;rw[jj hb] at e;cases q:g b with
 | none=>rw[q] at e;cases e
 | some o'=>
  rw[q] at e;split at e
  ·cases e
  ·cases e;rfl
theorem vg {q:Str} (hb:b < n) (hg:g b=none) (hm:m b=some q):sD (dh n g m) b q:=by
 unfold sD;rw[jj hb,hg,hm]
 rfl
theorem Aa {q:Str} (nf:∀ o,g b=some o->o.data≠.freed) (e:sD (dh n g m) b q):g b=none/\m b=some q:=by
 unfold sD at e;have hb:b < n:=by
  obtain⟨z,_⟩:=Array.getElem?_eq_some_iff.mp e;rw[iE] at z;exact z
 rw[jj hb] at e;cases hg:g b with
 | some o=>
  rw[hg] at e;have e':o={ cls:=.str q 0,data:=.freed }:=Option.some.inj e;exact absurd (by rw[e']) (nf o hg)
 | none=>
  refine⟨rfl,?_⟩;rw[hg] at e;have e':=Option.some.inj e;cases hm:m b with
  | none=>rw[hm] at e';have:=congrArg Obj.cls e';cases this
  | some q'=>
   rw[hm] at e';have:=congrArg Obj.cls e';have y:Value.str q' 0=Value.str q 0:=this;cases y
   rfl
end
noncomputable def pick (h:Heap) (p:Addr->Bool):Heap:=dh h.objs.size (fun b=>if p b=true then h.get? b else none) fun _=>none
section
variable {h:Heap} {p:Addr->Bool} {b:Addr} {o:Obj}
end
section
variable {X:Cx} {pins:Pn} {σ:St} {H:Hp} {s:Shared}
end
section
variable {X:Cx} {k:Nat} {g:Addr} {fd:FuncData} {ps:Ls} {x nm:Str} {p pos:Pos} {e:Expr} {es:List Expr} {t:TA} {q:Str} {params:Arguments} {body:Expr} {scope:Scope} {i j:Nat}
end
section
variable {P:Program} {w:World} {K:Fg0} {mg:SV} {base:Heap} {ps:Ls} {q:Str} {params:Arguments} {body:Expr} {scope:Scope} {nm:Str} {o:Obj} {f:Addr} {v:V} {k:Nat} {sp:Sp}
end
theorem kD {β:Type} {a:Addr} {v:β}:∀ {l:List (Addr×β)},l.lookup a=some v->(a,v)∈l
 | [],h=>by cases h
 | (b,u)::l,h=>by
  rw[List.lookup_cons] at h;cases q:a == b with
  | true=>
   rw[q] at h;cases h;have e:a=b:=by simpa using q
   rw[e];exact List.mem_cons_self
  | false=>rw[q] at h;exact List.mem_cons_of_mem _ (kD h)
def JD (K:Fg0) (h:Heap) (P:Addr):Prop:=h.get? P=some { cls:=.none,data:=.fields #[] }/\K.lookup P=none/\∃ c oc vs,h.get? c=some oc/\oc.cls=.type "code"/\oc.data=.fields vs/\vs[11]?=some (.ref P)
theorem yu {P:Program} {w:World} {K:Fg0} {mg mb:SV} {CX:CXT} {k:Nat} {fa a:Addr} {fd:FuncData} {x:Str} {sp:Sp} {s₁:Shared} {vs:Lv} {ns:Li} {tabs:List (Addr×Str)}
  (KX:K.In s₁.heap) (hns:s₁.heap.Ns mainGlobals mg) (hb:s₁.heap.Ns builtinsNs mb) (hbb:∀ x:Str,x≠"__name__"->mb x=bootBuiltins x) (hlim:s₁.heap.NoLimit)
  (hbm:∃ bm ob,mg "__builtins__"=some (.ref bm)/\bm≠builtinsNs/\s₁.heap.get? bm=some ob/\ob.cls=.type "module"/\ob.dict=some builtinsNs/\ob.data=.plain) (hg:s₁.gens=#[])
  (ha:s₁.heap.get? a=some { cls:=.type "list",data:=.seq vs.toArray }) (hi:IntsAre vs ns) (hl:ns.length<=sizeLine) (hr:cc k callerA)
  (hT:∀ p∈tabs,JD K s₁.heap p.1)
  (F:∀ base:Heap,K.In base->base.Ns mainGlobals mg->(∀ P q,tabs.lookup P=some q->sD base P q)->aQ P w K mg base CX k fa fd [x] sp) (hbind:∀ (s:Shared) (u:Value),BindsTo s fd ⟨[u],[]⟩ [(x,u)])
  (hsp:∀ H:Hp,G5 H->SqL K H a (ns.map V.int)->sp [.ref a] H (fun v _=>v=.bl true) fun _ _ _=>False)
  (hCX:∀ H e s',CX [] H s₁ (fun _ _ _=>False) e s'->False) :
  codeAny (model P w) callerA (.call (.ref fa) ⟨[.ref a],[]⟩) (fun r s'=>r=.ok (.ret (.bool true))/\OldK s₁.heap s'.heap/\s'.os=s₁.os/\AllBare s'.gens) s₁:=by
 have rv:=pW hi;have lenV:=hi.length;have tabO:∀ {b:Addr} {q:Str},tabs.lookup b=some q->s₁.heap.get? b=some { cls:=.none,data:=.fields #[] }:=fun {b q} e=>(hT _ (kD e)).1;have tabA:tabs.lookup a=none:=by
  cases q:tabs.lookup a with
  | none=>rfl
  | some y=>have z:=tabO q;rw[ha] at z;cases z
 have core:∀ H:Hp,G5 H->SqL K H a (ns.map V.int)->HOk P w H s₁.heap->(∀ b u,H b=some u->b=a\/∃ q,tabs.lookup b=some q)->(H a≠none->K.lookup a=none)->(∀ b q,tabs.lookup b=some q->H b=some (.tbl #[.str q 0]))->
   codeAny (model P w) callerA (.call (.ref fa) ⟨[.ref a],[]⟩) (fun r s'=>r=.ok (.ret (.bool true))/\OldK s₁.heap s'.heap/\s'.os=s₁.os/\AllBare s'.gens) s₁:=by
  intro H hO hS hok hA hK hTb;have base_of:∀ {b:Addr} {o:Obj},s₁.heap.get? b=some o->H b=none->(dh s₁.heap.objs.size (fun b=>if (H b).isNone then s₁.heap.get? b else none) fun b=>tabs.lookup b).get? b=some o:=fun e n=>vh (Heap.lt_size e) (by rw[n];exact e) (vG e);have noT:∀ {b:Addr} {o:Obj},s₁.heap.get? b=some o->o.cls≠.type "list"->o≠{ cls:=.none,data:=.fields #[] }->H b=none:=fun {b o} e d1 d2=>by
   cases q:H b with
   | none=>rfl
   | some u=>
    rcases hA b u q with z | ⟨y,z⟩
    ·subst z;rw[ha] at e;cases e;exact absurd rfl d1
    ·rw[tabO z] at e;cases e;exact absurd rfl d2
  have noA:∀ {b:Addr} {o:Obj} {es:Array DictEntry} {ep:Nat},s₁.heap.get? b=some o->o.data=.dict es ep->H b=none:=fun {b o es ep} e d=>by
   cases q:H b with
   | none=>rfl
   | some u=>
    rcases hA b u q with z | ⟨y,z⟩
    ·subst z;rw[ha] at e;cases e;cases d
    ·rw[tabO z] at e;cases e;cases d
  have nsK:∀ {b:Addr} {m:SV},s₁.heap.Ns b m->(dh s₁.heap.objs.size (fun b=>if (H b).isNone then s₁.heap.get? b else none) fun b=>tabs.lookup b).Ns b m:=fun {b m} ⟨o,es,ep,e,d,r⟩=>⟨o,es,ep,base_of e (noA e d),d,r⟩;have hKb:K.In (dh s₁.heap.objs.size (fun b=>if (H b).isNone then s₁.heap.get? b else none) fun b=>tabs.lookup b):=fun b o e=>by
   refine base_of (KX b o e) ?_;cases q:H b with
   | none=>rfl
   | some u=>
    rcases hA b u q with z | ⟨y,z⟩
    ·subst z;rw[hK (by rw[q];simp)] at e;cases e
    ·have z2:=(hT _ (kD z)).2.1;rw[z2] at e;cases e
  have off:∀ {b:Addr} {o:Obj},(if (H b).isNone then s₁.heap.get? b else none)=some o->s₁.heap.get? b=some o/\H b=none:=fun {b o} e=>by
   split at e
   ·rename_i z;exact⟨e,by simpa using z⟩
   ·cases e
  have hM:Mod K mg (dh s₁.heap.objs.size (fun b=>if (H b).isNone then s₁.heap.get? b else none) fun b=>tabs.lookup b):=⟨hKb,nsK hns,⟨mb,nsK hb,hbb⟩,let ⟨mc,h1,h2⟩:=hlim;⟨mc,nsK h1,h2⟩,let ⟨bm,ob,h1,h2,h3,h4,h5⟩:=hbm;⟨bm,ob,h1,h2,base_of h3 (noT h3 (by rw[h4];decide) (by intro z;rw[z] at h4;cases h4)),h4,h5⟩⟩;have e0:wb P w K mg (dh s₁.heap.objs.size (fun b=>if (H b).isNone then s₁.heap.get? b else none) fun b=>tabs.lookup b) callerA [] s₁ H:=⟨rfl,hM,fun b o e=>⟨(off (qb e).2).1,.inl (off (qb e).2).2⟩,Nat.le_of_eq iE,trivial,fun b hb=>absurd (show b∈([]:La0) from hb) (by simp),hok,.of_eq hg,
   fun P q z=>⟨_,0,hTb P q (Aa (fun o e=>vG (off e).1) z).2,rfl⟩⟩
  refine codeAny_mono ((F _ hKb (nsK hns) fun P q z=>vg (Heap.lt_size (tabO z)) (by rw[hTb P q z];rfl) z).run callerA [] s₁ H ⟨[.ref a],[]⟩ [.ref a] [.ref a] _ _ hr e0 (hbind s₁ (.ref a)) (.cons rfl .nil) (hsp H hO hS)) fun r s' h=>?_;cases r with
  | error e=>exact(hCX H e s' h).elim
  | ok fl=>
   cases fl with
   | next=>exact False.elim h
   | brk=>exact False.elim h
   | cont=>exact False.elim h
   | ret u=>
    obtain⟨v,H',os,bare,un,hok',r',q⟩:=h;have q':v=.bl true:=q;subst q';obtain rfl:u=Value.bool true:=r';refine⟨rfl,⟨fun b o e=>?_,fun b o e=>un.there b o e (by simp)⟩,os,bare⟩;cases q:H b with
    | none=>exact .inl (un.keep b o e q (by intro z;exact absurd (show b∈([]:La0) from z) (by simp)) (by simp))
    | some u=>
     rcases hO b with z | ⟨ob,xs,z⟩ | ⟨ps,z⟩
     ·rw[q] at z;cases z
     ·have z2:=un.frzs b ob _ z;obtain⟨e1,_⟩:=hok b _ z;obtain⟨e2,_⟩:=hok' b _ z2;rw[e] at e1;cases e1;exact .inl e2
     ·rcases hA b u q with y | ⟨y,hy⟩
      ·subst y;obtain⟨_,_,_,_,e1,_⟩:=hok b _ z;rw[ha] at e1;cases e1
      ·obtain⟨m,z2⟩:=un.tbls b ps z;obtain⟨_,_,qs,_,e2,_⟩:=hok' b _ z2;have e1:=tabO hy;rw[e] at e1;cases e1;obtain⟨c,oc,ws,c1,c2,c3,c4⟩:=(hT _ (kD hy)).2.2;exact .inr (.inl ⟨⟨c,oc,ws,c1,c2,c3,c4⟩,rfl,#[],qs,rfl,by rw[Array.empty_append];exact e2⟩)
 let Ht:Hp:=fun b=>(tabs.lookup b).map fun q=>.tbl #[.str q 0]
 have htOk:∀ {b:Addr} {u:HO} {H:Hp},Ht b=some u->cU P w H s₁.heap b u:=fun {b u H} z=>by
  cases q:tabs.lookup b with
  | none=>have z':(tabs.lookup b).map (fun q=>HO.tbl #[.str q 0])=some u:=z;rw[q] at z';cases z'
  | some y=>
   have z':(tabs.lookup b).map (fun q=>HO.tbl #[.str q 0])=some u:=z;rw[q] at z';cases z';exact⟨y,0,#[],rfl,tabO q,trivial,fun _ _ r=>by simp [codeAmong] at r⟩
 have htSome:∀ {b:Addr} {u:HO},Ht b=some u->∃ q,tabs.lookup b=some q/\u=.tbl #[.str q 0]:=fun {b u} z=>by
  have z':(tabs.lookup b).map (fun q=>HO.tbl #[.str q 0])=some u:=z;cases q:tabs.lookup b with
  | none=>rw[q] at z';cases z'
  | some y=>rw[q] at z';cases z';exact⟨y,rfl,rfl⟩
 have htA:Ht a=none:=by show (tabs.lookup a).map _=none;rw[tabA];rfl
 have htOf:∀ b q,tabs.lookup b=some q->Ht b=some (.tbl #[.str q 0]):=fun b q z=>by show (tabs.lookup b).map _=_;rw[z];rfl
 cases hk:K.lookup a with
 | some o=>
  have e:=KX a o hk;rw[ha] at e;cases e;refine core Ht (fun b=>?_) (.inr ⟨_,vs.toArray,_,hk,rfl,rfl,rfl,by rw[List.size_toArray,lenV];exact hl,by simpa using rv⟩) (fun b u z=>htOk z) (fun b u z=>.inr (let ⟨q,h,_⟩:=htSome z;⟨q,h⟩)) (fun z=>absurd htA z) htOf;cases z:Ht b with
  | none=>exact .inl rfl
  | some u=>obtain⟨q,_,rfl⟩:=htSome z;exact .inr (.inr ⟨_,rfl⟩)
 | none=>
  refine core (upd Ht a (.frz { cls:=.type "list",data:=.seq vs.toArray } (.lst (ns.map V.int)))) (fun b=>?_) (.inl (.inr ⟨{ cls:=.type "list",data:=.seq vs.toArray },aA⟩)) (fun b u z=>?_) (fun b u z=>?_) (fun _=>hk) fun b q z=>?_
  ·by_cases hb:b=a
   ·subst hb;exact .inr (.inl ⟨_,_,aA⟩)
   ·rw[aj hb];cases z:Ht b with
    | none=>exact .inl rfl
    | some u=>obtain⟨q,_,rfl⟩:=htSome z;exact .inr (.inr ⟨_,rfl⟩)
  ·by_cases hb:b=a
   ·subst hb;rw[aA] at z;cases z;exact⟨ha,by rw[lM0];exact hl,vs,_,rv,ha⟩
   ·rw[aj hb] at z;exact htOk z
  ·by_cases hb:b=a
   ·exact .inl hb
   ·rw[aj hb] at z;exact .inr (let ⟨q,h,_⟩:=htSome z;⟨q,h⟩)
  ·rw[aj (fun y=>by rw[y,tabA] at z;cases z)];exact htOf b q z
theorem yQ {l:PySem.W.OpenLaw} {n k:Nat} {q:Program} {loose:Ls} {XP:(SV)->Heap->Prop} {YP:World->Heap->Prop} {d:DefRec} {K:Params->Fg0} {CX:World->CXT} {sp:Fg0->Sp} {x:Str} {ts:La0}
  (hn:l.most=some n) (hn2:n<=sizeLine) (hdf:d.params.defaults=[]) (hr:cc k callerA)
  (hY:∀ (w:World) (h:Heap),YP w h->(K w.params).In h/\∀ P∈ts,h.get? P=some (PySem.W.tabObj #[]))
  (F:∀ (w:World) (mg:SV) (fa:Addr) (h:Heap),(K w.params).In h->h.Ns mainGlobals mg->mg d.name=some (.ref fa)->
   ∃ (fd:FuncData) (tabs:List (Addr×Str)),(∀ (s:Shared) (u:Value),BindsTo s fd ⟨[u],[]⟩ [(x,u)])/\(∀ p∈tabs,p.1∈ts/\(K w.params).lookup p.1=none/\∃ c,PySem.W.CodeHd h c p.1)/\
    ∀ base:Heap,(K w.params).In base->base.Ns mainGlobals mg->(∀ P q,tabs.lookup P=some q->sD base P q)->aQ l.prog w (K w.params) mg base (CX w) k fa fd [x] (sp (K w.params)))
  (hsp:∀ (K:Fg0) (H:Hp) (a:Addr) (ns:Li),ns.length<=n->G5 H->SqL K H a (ns.map V.int)->sp K [.ref a] H (fun v _=>v=.bl true) fun _ _ _=>False)
  (hCX:∀ (w:World) (H:Hp) (s:Shared) (e:Value) (s':Shared),CX w [] H s (fun _ _ _=>False) e s'->False) :
  PySem.W.WalkO q loose XP YP l.row.toRowW d [] (fun f vs=>PySem.call f vs):=by
 refine Att.uz hn hdf fun w s₀ s₁ mg mb fa o pm cd doc a vs ns G Y ho hd hcd hmg hobj hints hlen hg=>?_;obtain⟨KX,hts⟩:=hY w _ Y;obtain⟨fd,tabs,hb,hT,hF⟩:=F w mg fa _ KX G.T.g hmg;refine yu KX G.T.g G.T.b G.T.builtins G.T.nolimit G.T.bmain hg hobj hints (Nat.le_trans hlen hn2) hr (fun p hp=>?_) hF hb (fun H hO hS=>hsp _ H a ns hlen hO hS) fun H e s'=>hCX w H s₁ e s';obtain⟨h1,h2,c,o,vs,_,_,_,_,_,_,_,c1,c2,c3,c4,_⟩:=hT p hp;exact⟨hts _ h1,h2,c,o,vs,c1,c2,c3,c4⟩
end L2
namespace L3
open PySem L2 PySem.Spec PyProof.Rows
section
variable {K:Fg0} {X:Cx} {B:Bs} {F:Hp} {σ:L2.St} {H:Hp} {Γ:G} {pos:Pos} {q:Str} {params:Arguments} {body:Expr} {scope:Scope} {clos:List (Str×Addr)} {pm:Value}
end
abbrev NR:=LL
noncomputable def fi (xss:NR):List (List D):=xss.map fun ns=>ns.map D.int
structure jD (F H:Hp) (p:Addr) (qs:La0) (xss:NR):Prop where
 sub:aw F H
 top:H p=some (.lst (qs.map V.ref))
 nd:(p::qs).Nodup
 len:qs.length=xss.length
 row:∀ (i:Nat) (q:Addr) (xs:Li),qs[i]?=some q->xss[i]?=some xs->H q=some (.lst (xs.map V.int))
 no:∀ z,z∈p::qs->F z=none
structure Step (H0:Hp) (own:La0) (H:Hp) (qs:La0):Prop where
 keep:∀ b o,H0 b=some o->b∉own->H b=some o
 dom:∀ b,H b=none->H0 b=none
 new:∀ q,q∈qs->q∈own\/H0 q=none
abbrev E0n (K:Fg0) (F:Hp) (σ:L2.St) (H:Hp) (Γ:G):Prop:=En K ⟨F,H,[]⟩ F σ H Γ
section
variable {K:Fg0} {X:Cx} {F F':Hp} {σ σ':L2.St} {H H' H0:Hp} {Γ Γ':G} {pos:Pos} {i:Nat} {p:Addr} {qs own:La0} {xss:NR}
theorem qt (sub:aw F H) (len:σ.length=Γ.length) (fz:∀ (k:Nat) (s:Sl),Γ[k]?=some (some s)->∃ d v,s=.fz d/\σ[k]?=some (some v)/\Rep K F d v):E0n K F σ H Γ where
 sub:=sub
 len:=len
 fz:=fun k d h=>by obtain⟨d',v,e,a,b⟩:=fz k _ h;cases e;exact⟨v,a,b⟩
 hl:=fun k d h=>by rcases h with h | h <;> (obtain⟨_,_,e,_⟩:=fz k _ h;cases e)
 ow:=fun k d q h=>by obtain⟨_,_,e,_⟩:=fz k _ h;cases e
 ln:=fun k d q h=>by obtain⟨_,_,e,_⟩:=fz k _ h;cases e
 dis:=fun k j d e q h=>by rcases h with h | h <;> (obtain⟨_,_,e,_⟩:=fz k _ h;cases e)
 par:=fun k q h=>nomatch h
 keep:=aw.refl F
 new:=fun b o h=>.inl h
 rest:=fun b o h _=>h
 dom:=fun b h=>h
theorem E0n.all (e:E0n K F σ H Γ) {k:Nat} {s:Sl} (h:Γ[k]?=some (some s)):∃ d v,s=.fz d/\σ[k]?=some (some v)/\Rep K F d v:=by
 cases s with
 | fz d=>obtain⟨v,a,b⟩:=e.fz k d h;exact⟨d,v,rfl,a,b⟩
 | ow d=>
  obtain⟨q,a,_,o⟩:=e.hl k d (.inl h);obtain⟨u,hu⟩:=o.some;have:=e.ow k d q h a;rw[show (⟨F,H,[]⟩:Bs).H q=H q from rfl,hu] at this;cases this
 | ln d=>
  obtain⟨q,a,_,o⟩:=e.hl k d (.inr h);exact nomatch e.ln k d q h a
theorem E0n.move (e:E0n K F σ H Γ) (s:aw F F') (sub:aw F' H'):E0n K F' σ H' Γ:=qt sub e.len fun k s' h=>by
 obtain⟨d,v,a,b,c⟩:=e.all h;exact⟨d,v,a,b,c.mono s⟩
theorem E0n.put (e:E0n K F σ H Γ) {j:Nat} {d:D} {v:V} (hj:j < Γ.length) (r:Rep K F d v):E0n K F (σ.set j (some v)) H (Γ.set j (some (.fz d))):=qt e.sub (by rw[List.length_set,List.length_set];exact e.len) fun k s h=>by
 by_cases z:k=j
 ·subst z;rw[aB hj] at h;cases h;exact⟨d,v,rfl,aB (by rw[e.len];exact hj),r⟩
 ·rw[aY (Ne.symm z)] at h ⊢;exact e.all h
theorem E0n.see (e:E0n K F σ H Γ) {j:Nat} {d:D} {v:V} (hs:σ[j]?=some (some v)) (r:Rep K F d v):E0n K F σ H (Γ.set j (some (.fz d))):=qt e.sub (by rw[List.length_set];exact e.len) fun k s h=>by
 by_cases z:k=j
 ·subst z;have hj:k < Γ.length:=by rw[<- e.len];exact(gS0 hs).1
  rw[aB hj] at h;cases h;exact⟨d,v,rfl,hs,r⟩
 ·rw[aY (Ne.symm z)] at h;exact e.all h
structure NSt (K:Fg0) (H0:Hp) (own:La0) (i:Nat) (p:Addr) (F:Hp) (σ:L2.St) (H:Hp) (Γ:G) (xss:NR):Prop where
 e:E0n K F σ H Γ
 at_:Γ[i]?=some (some (.fz (.adr p)))
 n:∃ qs,jD F H p qs xss/\Step H0 own H qs
 po:p∈own
theorem jD.grow (n:jD F H p qs xss) (s:aw H H') (sub:aw F' H') (hn:∀ b o,F' b=some o->F b=some o\/H b=none):jD F' H' p qs xss where
 sub:=sub
 top:=s _ _ n.top
 nd:=n.nd
 len:=n.len
 row:=fun i q xs a b=>s _ _ (n.row i q xs a b)
 no:=fun z hz=>by
  cases q:F' z with
  | none=>rfl
  | some o=>
   exfalso;rcases hn z o q with h | h
   ·rw[n.no z hz] at h;cases h
   ·rcases List.mem_cons.mp hz with e | hm
    ·rw[e,n.top] at h;cases h
    ·obtain⟨k,hk⟩:=List.mem_iff_getElem?.mp hm;have lk:k < xss.length:=by rw[<- n.len];exact(gS0 hk).1
     rw[n.row k z _ hk (gE0 lk)] at h;cases h
theorem Step.grow (n:Step H0 own H qs) (s:aw H H'):Step H0 own H' qs:=⟨fun b o h hb=>s _ _ (n.keep b o h hb),fun b h=>n.dom b (by
 cases q:H b with
 | none=>rfl
 | some o=>rw[s _ _ q] at h;cases h),n.new⟩
theorem NSt.grow (t:NSt K H0 own i p F σ H Γ xss) (s:aw H H') (sF:aw F F') (sub:aw F' H') (hn:∀ b o,F' b=some o->F b=some o\/H b=none):NSt K H0 own i p F' σ H' Γ xss:=by
 obtain⟨qs,n,st⟩:=t.n;exact⟨t.e.move sF sub,t.at_,⟨qs,n.grow s sub hn,st.grow s⟩,t.po⟩
theorem NSt.up (t:NSt K H0 own i p F σ H Γ xss) (s:aw H H'):NSt K H0 own i p F σ H' Γ xss:=t.grow s (aw.refl F) (t.e.sub.trans s) fun _ _ h=>.inl h
noncomputable def gU (F H:Hp) (l:La0):Hp:=fun b=>if b∈l then H b else F b
theorem pV {l:La0}:∀ {qs:La0} {xss:NR},qs.length=xss.length->(∀ q,q∈qs->q∈l)->(∀ (i:Nat) (q:Addr) (xs:Li),qs[i]?=some q->xss[i]?=some xs->H q=some (.lst (xs.map V.int)))->
  au K (gU F H l) (xss.map fun ns=>D.lst (ns.map D.int)) (qs.map V.ref)
 | [],[],_,_,_=>rfl
 | [],_::_,h,_,_=>nomatch h
 | _::_,[],h,_,_=>nomatch h
 | q::qs,xs::xss,h,hm,hr=>⟨_,_,rfl,⟨q,_,rfl,by unfold gU;rw[if_pos (hm q (.head _))];exact hr 0 q xs rfl rfl,au.ints xs⟩,pV (Nat.succ.inj h) (fun z hz=>hm z (.tail _ hz)) fun i q' xs' a b=>hr (i + 1) q' xs' a b⟩
theorem jD.DL (n:jD F H p qs xss):aw F (gU F H (p::qs)):=fun b o h=>by
 unfold gU;rw[if_neg]
 ·exact h
 ·intro z;rw[n.no b z] at h;cases h
theorem jD.DK (n:jD F H p qs xss) {l:La0}:aw (gU F H l) H:=fun b o h=>by
 unfold gU at h;split at h
 ·exact h
 ·exact n.sub b o h
theorem NSt.view (t:NSt K H0 own i p F σ H Γ xss):∃ Fv,aw F Fv/\E0n K Fv σ H (Γ.set i (some (.fz (.lst (xss.map fun ns=>D.lst (ns.map D.int)))))):=by
 obtain⟨qs,n,_⟩:=t.n;refine⟨gU F H (p::qs),n.DL,(t.e.move n.DL n.DK).see (v:=.ref p) ?_ ⟨p,_,rfl,by unfold gU;rw[if_pos (.head _)];exact n.top,pV n.len (fun q h=>.tail _ h) n.row⟩⟩;obtain⟨v,a,b⟩:=t.e.fz i _ t.at_;rw[a,show v=.ref p from b]
noncomputable def FK (R:Li->Prop) (_:Tag R):RV->G->Prop:=fun r _=>∃ ns:Li,r=.fr (.lst (ns.map D.int))/\R ns
noncomputable def zd (i:Nat) (Γ:G) (xss:NR):G:=Γ.set i (some (.fz (.lst (xss.map fun ns=>D.lst (ns.map D.int)))))
theorem NSt.eval {te:TE} {e3:TE3} {R:Li->Prop} {QQ:VK} (t:NSt K H0 own i p F σ H Γ xss) (he:Ref K te e3) (h3:e3 (zd i Γ xss) (FK R ⟨⟩))
  (k:∀ z H' ns,R ns->H z=none->aw H H'->H' z=some (.lst (ns.map V.int))->QQ (.ref z) H'):te σ H QQ:=by
 obtain⟨Fv,_,ev⟩:=t.view;refine he _ Fv σ H _ _ QQ ev h3 fun v H' Z=>?_;obtain⟨F',Γ',r,sF,e',rv,ns,hr,hR⟩:=Z;subst hr;obtain⟨z,rfl,_,⟨vs,hv,rl⟩,hB,_⟩:=rv;rw[rl.kF] at hv;exact k z H' ns hR hB (fun b o h=>e'.rest b o h fun _ q=>nomatch q) hv
abbrev TN:=(G->NR->Prop)->G->NR->Prop
def JG (K:Fg0) (i:Nat) (t:TS) (n3:TN):Prop:=∀ (H0:Hp) (own:La0) (p:Addr) (F:Hp) (σ:L2.St) (H:Hp) (Γ:G) (xss:NR) (D:Ends) (k:G->NR->Prop),NSt K H0 own i p F σ H Γ xss->
 (∀ F' σ' H' Γ' yss,aw F F'->NSt K H0 own i p F' σ' H' Γ' yss->k Γ' yss->D.nx σ' H')->n3 k Γ xss->t D σ H
structure N3S (K:Fg0) (X:Cx) (i:Nat) (st:Stmt) (t:TS) (n3:TN):Prop where
 pe:PS X st t
 rf:JG K i t n3
structure uH (K:Fg0) (X:Cx) (i:Nat) (st:List Stmt) (t:TS) (n3:TN):Prop where
 pe:PSs X st t
 rf:JG K i t n3
variable {st:Stmt} {rest ss:List Stmt} {t u:TS} {n3 m3:TN}
def Ae:TN:=fun k Γ xss=>k Γ xss
theorem Ag:uH K X i [] y3 Ae:=⟨wJ,fun H0 own p F σ H Γ xss D k s kk q=>kk F σ H Γ xss (aw.refl F) s q⟩
theorem iD (h:N3S K X i st t n3):uH K X i [st] t n3:=⟨qZ h.pe,h.rf⟩
theorem rQ (h:N3S K X i st t n3) (h2:uH K X i rest u m3):uH K X i (st::rest) (yZ t u) (fun k=>n3 (m3 k)):=⟨km h.pe h2.pe,fun H0 own p F σ H Γ xss D k s kk q=>
 h.rf H0 own p F σ H Γ xss _ _ s (fun F' σ' H' Γ' yss sF s' q'=>h2.rf H0 own p F' σ' H' Γ' yss D k s' (fun F2 σ2 H2 Γ2 zss s2=>kk F2 σ2 H2 Γ2 zss (sF.trans s2)) q') q⟩
theorem w9 {n k:Nat} (h:k < n):ixN n (k:Int)=some k:=by
 unfold ixN;rw[if_pos (by lia),if_pos (by lia),Int.toNat_natCast]
end
section
variable {K:Fg0} {X:Cx} {F F':Hp} {σ σ':L2.St} {H H' H0:Hp} {Γ Γ':G} {pos:Pos} {i:Nat} {p:Addr} {qs own:La0} {xss:NR}
variable {st:Stmt} {rest ss:List Stmt} {t u:TS} {n3 m3:TN}
theorem NSt.Hd (t:NSt K H0 own i p F σ H Γ xss) (n:jD F H p qs xss):∃ Fv,E0n K Fv σ H (Γ.set i (some (.fz (.lst (qs.map D.adr))))):=by
 have s1:aw F (gU F H [p]):=fun b o h=>by
  unfold gU;rw[if_neg]
  ·exact h
  ·intro z;rw[List.mem_singleton] at z;rw[z,n.no p (.head _)] at h;cases h
 refine⟨gU F H [p],(t.e.move s1 n.DK).see (v:=.ref p) ?_ ⟨p,_,rfl,by unfold gU;rw[if_pos (.head _)];exact n.top,sY⟩⟩;obtain⟨v,a,b⟩:=t.e.fz i _ t.at_;rw[a,show v=.ref p from b]
theorem DU {α:Type}:∀ {l:List α} {m k:Nat} {a:α},l.Nodup->l[m]?=some a->l[k]?=some a->m=k
 | [],_,_,_,_,h,_=>by simp at h
 | x::l,0,0,_,_,_,_=>rfl
 | x::l,0,k + 1,a,nd,h1,h2=>by
  cases h1;exact absurd (List.mem_of_getElem? (l:=l) (i:=k) h2) (List.nodup_cons.mp nd).1
 | x::l,m + 1,0,a,nd,h1,h2=>by
  cases h2;exact absurd (List.mem_of_getElem? (l:=l) (i:=m) h1) (List.nodup_cons.mp nd).1
 | x::l,m + 1,k + 1,a,nd,h1,h2=>by rw[DU (List.nodup_cons.mp nd).2 (m:=m) (k:=k) h1 h2]
def tV (i l:Nat) (e3:TE3):TN:=fun k Γ xss=>e3 (zd i Γ xss) (FK (fun ns=>l < Γ.length/\k (Γ.set l (some (.fz (.lst (ns.map D.int))))) xss) ⟨⟩)
theorem CJ {l:Nat} {te:TE} {e3:TE3} (hl:i≠l) (h:PS X st (eZ te (cS l))) (he:Ref K te e3):N3S K X i st (eZ te (cS l)) (tV i l e3):=⟨h,fun H0 own p F σ H Γ xss DD k s kk q=>by
 refine s.eval he q fun z H' ns ⟨lG,q⟩ hz sH hv=>?_;have fz:F z=none:=by
  cases q:F z with
  | none=>rfl
  | some o=>rw[s.e.sub _ _ q] at hz;cases hz
 have sF:aw F (upd F z (.lst (ns.map V.int))):=br fz;have sub:aw (upd F z (.lst (ns.map V.int))) H':=fun b o h=>by
  by_cases e:b=z
  ·subst e;rw[aA] at h;cases h;exact hv
  ·rw[aj e] at h;exact sH _ _ (s.e.sub _ _ h)
 have s1:=s.grow (F':=upd F z (.lst (ns.map V.int))) sH sF sub fun b o h=>by
  by_cases e:b=z
  ·subst e;exact .inr hz
  ·rw[aj e] at h;exact .inl h
 exact kk _ _ H' _ xss sF ⟨s1.e.put (d:=.lst (ns.map D.int)) (v:=.ref z) lG ⟨z,_,rfl,aA,au.ints ns⟩,by rw[aY (Ne.symm hl)];exact s.at_,s1.n,s.po⟩ q⟩
end
def spN (K:Fg0) (n:Nat) (S:List D->NR->(NR->Prop)->Prop):Sp:=fun vs H Q _=>vs.length=n/\∃ F ds p qs xss k3,au K F ds vs/\ds[1]?=some (.adr p)/\jD F H p qs xss/\S ds xss k3/\
 ∀ yss,k3 yss->∀ H' qs',jD F H' p qs' yss->Step H (p::qs) H' qs'->Q .non H'
section
variable {K:Fg0} {X:Cx} {F F':Hp} {σ σ':L2.St} {H H' H0:Hp} {Γ Γ':G} {pos:Pos} {i:Nat} {p:Addr} {qs own:La0} {xss:NR}
variable {st:Stmt} {rest ss:List Stmt} {t u:TS} {n3 m3:TN}
def ifN (A3:TT3) (n3 m3:TN):TN:=fun k Γ xss=>A3 Γ fun c Γ1=>Γ1=Γ/\match c with
 | true=>n3 k Γ xss
 | false=>m3 k Γ xss
theorem DV {c:Expr} {a b:List Stmt} {tc:TT} {A3:TT3} (hc:P3T K X c tc A3) (ha:uH K X i a t n3) (hb:uH K X i b u m3):N3S K X i (.If c a b pos) (ED tc t u) (ifN A3 n3 m3):=⟨DO hc.pe ha.pe hb.pe,fun H0 own p F σ H Γ xss DD k s kk q=>by
 refine hc.rf _ F σ H Γ _ _ s.e q fun c H' Z=>?_;obtain⟨F',Γ',sF,e',_,q'⟩:=Z;have s1:=s.up (H':=H') fun b o h=>e'.rest b o h fun _ q=>nomatch q
 cases c with
 | true=>exact ha.rf H0 own p F σ H' Γ xss DD k s1 kk q'
 | false=>exact hb.rf H0 own p F σ H' Γ xss DD k s1 kk q'⟩
def GJ (i:Nat) (xs:List D) (Γ:G) (xss:NR) (g3:TG3) (b3:TN) (k:G->NR->Prop) (_:Tag (g3,b3,k)):Prop:=∃ Iv:Nat->G->NR->Prop,Iv 0 Γ xss/\(∀ m d Γ yss,xs[m]?=some d->Iv m Γ yss->g3 d Γ fun Γ'=>Γ'[i]?=Γ[i]?/\b3 (Iv (m + 1)) Γ' yss)/\∀ Γ yss,Iv xs.length Γ yss->k Γ yss
def yD (i:Nat) (i3:TI3) (g3:TG3) (b3:TN):TN:=fun k Γ xss=>i3 Γ fun xs Γ1=>Γ1=Γ/\GJ i xs Γ xss g3 b3 k ⟨⟩
theorem iI {i3:TI3} {g3:TG3} {b3:TN} {k:G->NR->Prop}:yD i i3 g3 b3 k Γ xss=i3 Γ fun xs Γ1=>Γ1=Γ/\GJ i xs Γ xss g3 b3 k ⟨⟩:=rfl
theorem kJ {xs:List D} {g3:TG3} {b3:TN} {k:G->NR->Prop} {t:Tag (g3,b3,k)} (Iv:Nat->G->NR->Prop) (h0:Iv 0 Γ xss) (ht:∀ m d Γ yss,xs[m]?=some d->Iv m Γ yss->g3 d Γ fun Γ'=>Γ'[i]?=Γ[i]?/\b3 (Iv (m + 1)) Γ' yss) (he:∀ Γ yss,Iv xs.length Γ yss->k Γ yss):GJ i xs Γ xss g3 b3 k t:=⟨Iv,h0,ht,he⟩
theorem oq {tg iter:Expr} {body:List Stmt} {wi:TI} {i3:TI3} {g:TG} {g3:TG3} {tb:TS} {b3:TN} (hp:PassesOwn (model X.prog X.w) X.A X.env X.xe) (hc:X.calm=true) (hi:P3I K X tg iter wi i3) (hg:P3G K X tg g g3) (hb:uH K X i body tb b3) (hs:autoParam (∀ x,foldedSetIterable iter X.env x=pure x) wT) :
  N3S K X i (.For tg iter body [] pos) (EF wi g tb) (yD i i3 g3 b3):=⟨zJ hp hc hi.pe hg.pe hb.pe hs,fun H0 own p F σ H Γ xss DD k s kk q=>by
 refine hi.rf _ F σ H Γ _ _ s.e q fun J H1 F1 Γ1 xs s1 e1 R Z=>?_;obtain⟨eΓ,Iv,i0,it,ie⟩:=Z;have t1:NSt K H0 own i p F1 σ H1 Γ xss:=s.grow (fun b o h=>e1.rest b o h fun _ q=>nomatch q) s1 e1.sub fun b o h=>e1.new b o h;refine⟨fun m n σ H=>n=xs.length - m/\m<=xs.length/\∃ F' Γ' yss,aw F1 F'/\NSt K H0 own i p F' σ H Γ' yss/\Iv m Γ' yss,⟨_,rfl,Nat.zero_le _,F1,Γ,xss,aw.refl _,t1,i0⟩,?_⟩;rintro m n σ2 H2 ⟨rfl,hm,F2,Γ2,yss,s2,t2,iv⟩;by_cases lt:m < xs.length
 ·refine .inr ⟨R.go m H2 (s2.trans t2.e.sub) lt,fun σ' H'=>∃ F' Γ' yss,aw F1 F'/\NSt K H0 own i p F' σ' H' Γ' yss/\Iv (m + 1) Γ' yss,fun σ' H' ⟨F',Γ',zss,a,b,c⟩=>⟨xs.length - (m + 1),by lia,rfl,lt,F',Γ',zss,a,b,c⟩,fun x H3 y=>?_⟩;have hd:xs[m]?=some xs[m]:=gE0 lt;obtain⟨F3,s3,e3,r3⟩:=R.turn s2 t2.e hd y;have t3:NSt K H0 own i p F3 σ2 H3 Γ2 yss:=t2.grow (fun b o h=>e3.rest b o h fun _ q=>nomatch q) s3 e3.sub fun b o h=>e3.new b o h;refine hg.rf _ F3 σ2 H3 Γ2 x _ _ _ t3.e r3 (it m _ Γ2 yss hd iv) fun σ' Γ' e4 Z=>?_;obtain⟨a4,q4⟩:=Z;have t4:NSt K H0 own i p F3 σ' H3 Γ' yss:=⟨e4,a4.trans t3.at_,t3.n,t3.po⟩;exact hb.rf H0 own p F3 σ' H3 Γ' yss _ (Iv (m + 1)) t4 (fun F' σ' H' Γ' zss sF t' q'=>⟨F',Γ',zss,(s2.trans s3).trans sF,t',q'⟩) q4
 ·have z:m=xs.length:=by lia
  subst z;exact .inl ⟨R.stop _ H2 (s2.trans t2.e.sub) rfl,kk F2 σ2 H2 Γ2 yss (s1.trans s2) t2 (ie Γ2 yss iv)⟩⟩
theorem Ep:∀ {ds:List D} {vs:List V},bR K F σ (ds.map Bo.d) vs->au K F ds vs
 | [],_,h=>h
 | d::ds,_,⟨v,ws,h1,h2,h3⟩=>⟨v,ws,h1,h2,Ep h3⟩
def xB (i n:Nat) (S:List D->NR->(NR->Prop)->Prop) (t3:dY):TN:=fun k Γ xss=>t3 Γ fun bs _=>bs.length=n/\∃ ds p,bs=ds.map Bo.d/\ds[1]?=some (.adr p)/\Γ[i]?=some (some (.fz (.adr p)))/\S ds xss fun yss=>k Γ yss
theorem jD.less (s:aw F F') (n:jD F' H p qs xss):jD F H p qs xss:=⟨s.trans n.sub,n.top,n.nd,n.len,n.row,fun z hz=>by
 cases q:F z with
 | none=>rfl
 | some o=>have:=s _ _ q;rw[n.no z hz] at this;cases this⟩
theorem Step.trans {H1 H2:Hp} {qs1 qs2:La0} (a:Step H0 own H1 qs1) (hp:p∈own) (b:Step H1 (p::qs1) H2 qs2):Step H0 own H2 qs2 where
 keep:=fun x o h hn=>b.keep x o (a.keep x o h hn) fun z=>by
  rcases List.mem_cons.mp z with e | z
  ·exact hn (e ▸ hp)
  ·rcases a.new x z with w | w
   ·exact hn w
   ·rw[w] at h;cases h
 dom:=fun x h=>a.dom x (b.dom x h)
 new:=fun q h=>by
  rcases b.new q h with w | w
  ·rcases List.mem_cons.mp w with e | w
   ·exact .inl (e ▸ hp)
   ·exact a.new q w
  ·exact .inr (a.dom q w)
theorem CK {n:Nat} {S:List D->NR->(NR->Prop)->Prop} {e:Expr} {ta:TA} {t3:dY} {E:XK} (h:PS X st (sM (md (spN K n S) [] E ta))) (ha:qF K ta t3):N3S K X i st (sM (md (spN K n S) [] E ta)) (xB i n S t3):=⟨h,fun H0 own p F σ H Γ xss DD k s kk q=>by
 refine ha _ F σ H Γ _ _ s.e q fun vs H1 Z=>?_;obtain⟨F1,Γ1,bs,s1,e1,r1,hn,ds,p',hb,hp',hi,q1⟩:=Z;have ep:p'=p:=by rw[s.at_] at hi;cases hi;rfl
 subst ep hb;have t1:NSt K H0 own i p' F1 σ H1 Γ xss:=s.grow (fun b o h=>e1.rest b o h fun _ q=>nomatch q) s1 e1.sub fun b o h=>e1.new b o h;obtain⟨qs,ns,sp⟩:=t1.n;have rl:=Ep r1;show spN K n S (vs++[]) H1 _ E;rw[List.append_nil];refine⟨by rw[rl.length,<- hn,lM0],F1,ds,p',qs,xss,_,rl,hp',ns,q1,fun yss ky H' qs' n' st'=>?_⟩;exact kk F1 σ H' Γ yss s1 ⟨t1.e.move (aw.refl _) n'.sub,s.at_,⟨qs',n',sp.trans s.po st'⟩,s.po⟩ ky⟩
end
section
variable {P:Program} {w:World} {K:Fg0} {mg:SV} {base:Heap}
noncomputable def nJ (N:Ls) (ds:List D):G:=(ds.map fun d=>some (Sl.fz d))++List.replicate (N.length - ds.length) none
theorem okN {x qual:Str} {st:Stmt} {f:Addr} {fd:FuncData} {N ps:Ls} {k:Nat} {S:List D->NR->(NR->Prop)->Prop} (F:Fun K x qual st f fd) (Sc:aC N ps (ah st)) (hn:autoParam (ps.length<=N.length) wP)
  (hbody:∀ (cdv:Value) (A:Around) (outer:List Env) (s:Shared) (H:Hp) (E:XK),cc k (A.deeper (envOfC qual (ah st) s.heap.objs.size f cdv))->
   ∃ t n3,uH K (uk CX0 P w K mg base N qual (ah st) f cdv A outer s H E).nox 1 (eS st) t n3/\∀ ds xss k3,S ds xss k3->ds.length=ps.length->n3 (fun _ yss=>k3 yss) (nJ N ds) xss) :
  aQ P w K mg base CX0 (k + 1) f fd ps (spN K ps.length S):=by
 refine F.ok Sc (fun vs H Q E h=>h.1) fun cdv A outer s H vs Q E hr h=>?_;obtain⟨hl,F0,ds,p,qs,xss,k3,rl,hp,ns,hS,hQ⟩:=h;obtain⟨t,n3,ht,rd⟩:=hbody cdv A outer s H E hr;have dl:ds.length=ps.length:=by rw[<- rl.length];exact hl
 refine⟨t,ht.pe,ht.rf H (p::qs) p F0 _ H (nJ N ds) xss _ (fun _ yss=>k3 yss) ⟨qt ns.sub ?_ ?_,?_,⟨qs,ns,⟨fun b o h _=>h,fun b h=>h,fun q h=>.inl (.tail _ h)⟩⟩,.head _⟩ (fun F' σ' H' Γ' yss sF t' ky=>?_) (rd ds xss k3 hS dl)⟩
 ·unfold L2.start nJ;rw[List.length_append,List.length_append,lM0,lM0,List.length_replicate,List.length_replicate,rl.length]
 ·intro m sl hm;unfold nJ at hm;by_cases lt:m < ds.length
  ·rw[List.getElem?_append_left (by rw[lM0];exact lt),List.getElem?_map] at hm;cases q:ds[m]? with
   | none=>rw[q] at hm;cases hm
   | some d=>
    rw[q] at hm;cases hm;obtain⟨v,a,b⟩:=rl.get q;refine⟨d,v,rfl,?_,b⟩;unfold L2.start;rw[List.getElem?_append_left (by rw[lM0,rl.length];exact lt),List.getElem?_map,a];rfl
  ·rw[List.getElem?_append_right (by rw[lM0];lia)] at hm;have:=(List.mem_replicate.mp (List.mem_of_getElem? hm)).2;cases this
 ·unfold nJ;have lt:1 < ds.length:=(gS0 hp).1;rw[List.getElem?_append_left (by rw[lM0];exact lt),List.getElem?_map,hp];rfl
 ·obtain⟨qs',n',st'⟩:=t'.n;exact hQ yss ky H' qs' (n'.less sF) st'
end
section
variable {K:Fg0} {X:Cx} {B:Bs} {F F':Hp} {σ σ':L2.St} {H H':Hp} {Γ Γ':G} {pos:Pos} {i g:Nat} {p:Addr} {qs:La0} {xss:NR}
theorem wH:∀ {qs:La0} {xss:NR},qs.length=xss.length->(∀ (i:Nat) (q:Addr) (xs:Li),qs[i]?=some q->xss[i]?=some xs->H q=some (.lst (xs.map V.int)))->c8 K F H qs (fi xss)
 | [],[],_,_=>rfl
 | [],_::_,h,_=>nomatch h
 | _::_,[],h,_=>nomatch h
 | q::qs,xs::xss,h,hr=>⟨_,_,_,rfl,hr 0 q xs rfl rfl,au.ints xs,wH (Nat.succ.inj h) fun i q' xs' a b=>hr (i + 1) q' xs' a b⟩
end
section
variable {K:Fg0} {X:Cx} {pos:Pos} {i j l:Nat} {y:Str} {px p2:Pos} {o k e:Expr} {to te:TE} {e3:TE3}
theorem Ig {x:Str} {pos':Pos} (hl:i≠l) (hN:X.N.Nodup) (hi:X.N[l]?=some x) (hx:Loc X.env.scope x) (he:P3 K X e te e3) (hs:autoParam (swapsWith e (some (.Name x pos')) pos.line X.env=pure false) wE) (hf:X.fn x=true\/X.env.scope.names.lookup x=some .local:=by first | exact .inl rfl | exact .inr rfl | assumption) :
  N3S K X i (.Assign [.Name x pos'] e pos) (eZ te (cS l)) (tV i l e3):=CJ hl (aD hN hi hx he hs hf).pe he.rf
variable {kk n:Nat} {f:Addr} {fd:FuncData} {ps:Ls} {x:Str} {p:Pos} {es:List Expr} {t:TA} {t3:dY} {S:List D->NR->(NR->Prop)->Prop} {rest:List Stmt} {u:TS} {u3:TS3}
theorem Ai (F:aQ X.prog X.w X.K X.mg X.base CX0 kk f fd ps (spN K n S)) (hr:cc kk X.A) (hg:Gl X x) (hm:X.mg x=some (.ref f)) (hk:PySem.W.keepIn X.K (.ref f)=true) (hb:Binds X.K fd ps []) (ha:sE K X (e::es) t t3)
  (hs:autoParam (swapsWith (.Call (.Name x p) (e::es) [] p2) none pos.line X.env=pure false) wE) (hdb:autoParam ((x == ("__debug__":Str))=false) wP) (he:autoParam (starEach (e::es) X.env=(false,eval e X.env)::starEach es X.env) wE) (hpl:autoParam ((backTo p2 (starEach es X.env)).any (·.1)=false) wE) :
  N3S K X i (.Expr (.Call (.Name x p) (e::es) [] p2) pos) (sM (md (spN K n S) [] E0 t)) (xB i n S t3):=CK (e:=.Call (.Name x p) (e::es) [] p2) (wK (wQ F hr hg hm hk hb .nil nZ ha.pe hdb he hpl) hs) ha.rf
end
end L3
namespace L2
open PySem PySem.Spec PyProof.Rows
section
variable {prog:Program} {w:World} {A:Around} {E:VS} {s:Shared}
end
section
variable {X:Cx}
end
end L2
namespace L3
open PySem L2
section
variable {K:Fg0} {B:Bs} {F:Hp} {σ:L2.St} {H:Hp} {Γ:G} {X:Cx}
end
end L3
namespace L2
open PySem
structure FN (K:Fg0) (x q:Str) (st:Stmt) (f:Addr) (d:FuncData):Prop where
 n:PySem.W.nsIn K mainGlobals x=some (some (.ref f))
 F:Fun K x q st f d
structure FM (K:Fg0) (C:Addr) (x q:Str) (st:Stmt) (f:Addr) (d:FuncData):Prop where
 m:PySem.W.findIn K (.ref C) x=some (some (.ref f))
 i:PySem.W.isFn K (.ref f)=true
 F:Fun K x q st f d
structure FY (K:Fg0) (x q:Str) (st:Stmt) (f:Addr) (d:FuncData) (ps:Ls):Prop where
 F:Fun K x q st f d
 b:Binds K d ps []
structure FX (K:Fg0) (mg:SV) (x q:Str) (st:Stmt) (f:Addr) (d:FuncData) (ps:Ls):Prop where
 F:Fun K x q st f d
 b:Binds K d ps []
 m:mg x=some (.ref f)
section
variable {K:Fg0} {mg:SV} {h:Heap} {C:Addr} {x q:Str} {st:Stmt} {f:Addr} {d:FuncData} {ps:Ls}
theorem fx (X:K.In h) (G:h.Ns mainGlobals mg) (F:FN K x q st f d) (b:∀ (kV doc pm:Value) (an:Option Addr) (cdv ct:Value) (us:Lv),us.length=ps.length->bindArgs (PySem.W.fnOf x q (jl st) (eS st) (ah st) .none kV doc pm an cdv ct) ⟨us,[]⟩=pure (ps.zip us)):FX K mg x q st f d ps:=⟨F.F,F.F.binds b,PySem.W.mg_of X G F.n⟩
theorem fy (F:FM K C x q st f d) (b:∀ (kV doc pm:Value) (an:Option Addr) (cdv ct:Value) (us:Lv),us.length=ps.length->bindArgs (PySem.W.fnOf x q (jl st) (eS st) (ah st) .none kV doc pm an cdv ct) ⟨us,[]⟩=pure (ps.zip us)):FY K x q st f d ps:=⟨F.F,F.F.binds b⟩
theorem cc.dn {j k:Nat} {A:Around} (r:cc k A) (h:autoParam (j<=k) wP):cc j A:=r.mono h
theorem FM.me (F:FM K C x q st f d):Meth K C x f:=⟨F.m,F.i,F.F.kp⟩
end
open PySem PySem.Spec PyProof.Rows
section
variable {X:Cx} {x:Str} {d f:Addr} {l:List (Str×Addr)} {p pos:Pos} {i e:Expr} {ty:TE} {es:List Expr} {t:TA} {k j:Nat} {fd:FuncData} {ps:Ls}
end
end L2
namespace L3
open PySem L2 PySem.Spec PyProof.Rows
section
variable {K:Fg0} {X:Cx} {x:Str} {d f:Addr} {l:List (Str×Addr)} {p pos:Pos} {a b e:Expr} {ta tb:TE} {a3 b3:TB3} {es:List Expr} {t:TA} {t3:dY} {k j n:Nat} {fd:FuncData} {ps:Ls} {S:S3}
end
end L3
namespace L2
open PySem PySem.Spec PyProof.Rows
section
variable {prog:Program} {w:World} {A:Around} {E:VS} {s:Shared} {z TI TO i1 i2 i3 l1 l2 l3:Addr} {k:Nat} {xs ys zs:Array Value}
end
section
variable {X:Cx} {pins:Pn} {σ:St} {H:Hp} {s:Shared}
end
end L2
namespace L3
open PySem L2 PySem.Spec PyProof.Rows
section
variable {K:Fg0} {X:Cx} {F H:Hp} {a b c:Expr} {ta:TA} {t3:dY} {p p2 pos pos2:Pos}
end
def uB (Γ:G):Prop:=∀ s,some s∈Γ->∃ d,s=.fz d
section
variable {K:Fg0} {X:Cx} {F F' F0:Hp} {σ σ':L2.St} {H H' H0:Hp} {Γ Γ':G} {pos:Pos} {i:Nat} {p:Addr} {qs own:La0} {xss:NB} {B:Bs}
theorem uB.at (h:uB Γ) {k:Nat} {s:Sl} (e:Γ[k]?=some (some s)):∃ d,s=.fz d:=h s (List.mem_of_getElem? e)
theorem Jc (e:En K B F σ H Γ) (h:uB Γ):E0n K F σ H Γ:=qt e.sub e.len fun k s hk=>by
 obtain⟨d,rfl⟩:=h.at hk;obtain⟨v,a,b⟩:=e.fz k d hk;exact⟨d,v,rfl,a,b⟩
variable {st:Stmt} {rest ss:List Stmt} {t u:TS} {n3 m3:TNB}
end
section
variable {K:Fg0} {X:Cx} {F F' F0:Hp} {σ σ':L2.St} {H H' H0:Hp} {Γ Γ':G} {pos:Pos} {i:Nat} {p:Addr} {qs own:La0} {xss:NB} {B:Bs}
variable {st:Stmt} {rest ss:List Stmt} {t u:TS} {n3 m3:TNB}
end
section
variable {K:Fg0} {X:Cx} {pos:Pos} {i j l:Nat} {y:Str} {px p2:Pos} {o k e:Expr} {to te:TE} {e3:TE3} {B:Bs} {F:Hp} {σ:L2.St} {H:Hp} {Γ:G}
end
end L3
namespace L2
open PySem PySem.Spec PyProof.Rows
section
variable {prog:Program} {w:World} {A:Around} {E:VS} {s:Shared} {a:Addr}
end
section
variable {prog:Program} {w:World} {A:Around} {E:VS} {s:Shared} {a I:Addr} {es:Array (Int×Value)} {ep:Nat} {t:SetTable}
end
section
variable {prog:Program} {w:World} {A:Around} {E:VS} {s:Shared} {a I:Addr}
end
section
variable {prog:Program} {w:World} {A:Around} {E:VS} {s:Shared}
end
section
variable {X:Cx} {pins:Pn} {σ:St} {H:Hp} {s:Shared}
end
end L2
namespace L3
open PySem L2 PySem.Spec PyProof.Rows
section
variable {K:Fg0} {X:Cx} {e:Expr} {ta:TA} {t3:dY} {p p2 pos pos2:Pos}
end
open PySem L2 PySem.Spec PySem.SeqAt
section
variable {K:Fg0} {X:Cx} {a b e:Expr} {ta tb te:TE} {a3 b3:TB3} {e3:TE3} {pos:Pos}
theorem rA (ha:P3B K X a ta a3) (hb:P3B K X b tb b3):P3 K X (.BinOp a .LShift b pos) (tOp (rI uJ fun i j=>.int (i * 2 ^ j.toNat)) ta tb) (dZ (i2 uJ fun i j=>.int (i * 2 ^ j.toNat)) a3 b3):=⟨mj Fu ha.pe hb.pe,gu (opI fun _ _ _=>rfl) ha.rf hb.rf⟩
end
end L3
namespace L2
open PySem PySem.Spec PyProof.Rows
section
variable {X:Cx} {x:Str} {f:Addr} {p pos:Pos} {e:Expr} {es:List Expr} {t:TA} {k j:Nat} {fd:FuncData} {ps:Ls} {CX:CXT} {sp:Sp} {E:St->XK}
end
end L2
namespace L3
open PySem L2 PySem.Spec PyProof.Rows
section
variable {K:Fg0} {X:Cx} {B:Bs} {F0:Hp} {x:Str} {f:Addr} {p pos:Pos} {e:Expr} {es:List Expr} {t:TA} {t3:dY} {k j n:Nat} {fd:FuncData} {ps:Ls} {CX:CXT} {S:S3X} {E:L2.St->XK} {W:XD->G->Prop}
end
end L3
namespace L2
open PySem PySem.Spec PySem.SeqAt
open AutoSeq1 (wpAny_loadPart')
open MeetsSeq
section
variable {K:Fg0} {A:Around} {s:Shared} {x C dx:Addr}
end
section
variable {A:Around} {s:Shared}
end
end L2
namespace L3
open PySem L2 PySem.Spec PySem.SeqAt
section
variable {K:Fg0} {X:Cx} {Cs:La0}
end
section
variable {K:Fg0} {X:Cx} {B:Bs} {F F':Hp} {σ:L2.St} {H H':Hp} {Γ:G} {c:Expr} {tc:TT} {A3:TT3}
end
end L3
namespace TS
open PySem PyProof.Rows
noncomputable def gal:Bool->Keyed->Array Keyed->Nat->Nat->Nat->StateT SortSt Sem (Option Nat):=sortPriv% PySem.Builtin.gallop
noncomputable def mLo:Array Keyed->Array Keyed->StateT SortSt Sem (Array Keyed):=sortPriv% PySem.Builtin.mergeLo
noncomputable def mHi:Array Keyed->Array Keyed->StateT SortSt Sem (Array Keyed):=sortPriv% PySem.Builtin.mergeHi
structure Ask (prog:Program) (w:World) (A:Around) (s:Shared) (κ:SortKind) (P:Keyed->Prop) (lt:Keyed->Keyed->Bool):Prop where
 ask:∀ {E:VS} {st:SortSt} {x y:Keyed} {Q:Option Bool->SortSt->Prop},kindOf st=κ->P x->P y->Q (some (lt x y)) st->wpS (model prog w) A E s (lt' x y) Q st
 asym:∀ x y,lt x y=true->lt y x=false
 tr:∀ x y z,lt y x=false->lt z y=false->lt z x=false
section
variable {prog:Program} {w:World} {A:Around} {E:VS} {s:Shared} {κ:SortKind} {P:Keyed->Prop} {lt:Keyed->Keyed->Bool} {st:SortSt}
theorem Ask.rf (h:Ask prog w A s κ P lt) (x:Keyed):lt x x=false:=by
 cases e:lt x x with
 | false=>rfl
 | true=>have:=h.asym x x e;rw[e] at this;exact this
noncomputable def X (a:Array Keyed) (i:Nat):Keyed:=a.getD i (.none,.none)
theorem uE {a:Array Keyed} {i:Nat} (h:i < a.size):a[i]?=some (X a i):=by
 unfold X;rw[Array.getElem?_eq_getElem h,Array.getD,dif_pos h]
 rfl
def All (P:Keyed->Prop) (a:Array Keyed):Prop:=∀ i,i < a.size->P (X a i)
theorem aZ {a:Array Keyed} {i:Nat} {Q:Keyed->SortSt->Prop} (h:i < a.size) (q:Q (X a i) st):wpS (model prog w) A E s (elem' a i) Q st:=by
 rw[elem'_eq,uE h];exact wpS_pure q
noncomputable def bey (lt:Keyed->Keyed->Bool) (left:Bool) (key:Keyed) (a:Array Keyed) (base i:Nat):Bool:=if left=true then lt (X a (base + i)) key else !lt key (X a (base + i))
structure Part (b:Nat->Bool) (n k:Nat):Prop where
 le:k<=n
 lo:∀ i,i < k->b i=true
 hi:∀ i,k<=i->i < n->b i=false
theorem l7 (h:Ask prog w A s κ P lt) {left:Bool} {key:Keyed} {a:Array Keyed} {base n hint:Nat} {Q:Option Nat->SortSt->Prop} (hk:kindOf st=κ) (hp:P key) (ha:All P a) (hs:base + n<=a.size) (hh:hint < n)
  (mono:∀ i j,i<=j->j < n->bey lt left key a base j=true->bey lt left key a base i=true) (q:∀ k,Part (bey lt left key a base) n k->Q (some k) st):wpS (model prog w) A E s (gal left key a base n hint) Q st:=by
 have ask:∀ {R:Option Bool->SortSt->Prop} {m:StateT SortSt Sem (Option Bool)} {i:Nat},i < n->R (some (bey lt left key a base i)) st->
   m=(do let x <- elem' a (base + i);if left=true then lt' x key else do let r <- lt' key x;pure (Option.map (fun x=>!x) r))->wpS (model prog w) A E s m R st:=by
  intro R m i hi r e;subst e;refine wpS_bind (aZ (by lia) ?_);have px:=ha (base + i) (by lia);unfold bey at r;cases left with
  | true=>exact h.ask hk px hp r
  | false=>exact wpS_bind (h.ask hk hp px (wpS_pure r))
 have anti:∀ i j,i<=j->j < n->bey lt left key a base i=false->bey lt left key a base j=false:=fun i j h1 h2 h3=>by
  cases e:bey lt left key a base j with
  | false=>rfl
  | true=>rw[mono i j h1 h2 e] at h3;cases h3
 generalize hb:bey lt left key a base=b at ask mono anti q;have tail:∀ (lo hi:Nat) {R:Option (Option Nat)×Nat×Nat->SortSt->Prop} {body:Nat->Option (Option Nat)×Nat×Nat->StateT SortSt Sem (ForInStep (Option (Option Nat)×Nat×Nat))},lo<=hi->hi<=n->(∀ i,i < lo->b i=true)->(∀ i,hi<=i->i < n->b i=false)->
   (∀ x lo hi (R':ForInStep (Option (Option Nat)×Nat×Nat)->SortSt->Prop),hi<=n->(lo≥hi->R' (.done (none,lo,hi)) st)->(lo < hi->R' (.yield (if b (lo + (hi - lo) / 2)=true then (none,lo + (hi - lo) / 2 + 1,hi) else (none,lo,lo + (hi - lo) / 2))) st)->wpS (model prog w) A E s (body x (none,lo,hi)) R' st)->
   (∀ k,Part b n k->R (none,k,k) st)->wpS (model prog w) A E s (forIn [0:n] (none,lo,hi) body) R st:=by
  intro lo hi R body h1 h2 h3 h4 hbody r;refine wpS_forRange (I:=fun t c st'=>st'=st/\∃ lo hi,c=(none,lo,hi)/\lo<=hi/\hi<=n/\hi - lo<=n - t/\(∀ i,i < lo->b i=true)/\∀ i,hi<=i->i < n->b i=false) ?_ ?_ ⟨rfl,lo,hi,rfl,h1,h2,by lia,h3,h4⟩
  ·rintro t c st' _ ht ⟨rfl,lo,hi,rfl,h1,h2,h5,h3,h4⟩;refine hbody t lo hi _ h2 (fun z=>?_) fun z=>?_
   ·have:lo=hi:=by lia
    subst this;exact r lo ⟨h2,h3,h4⟩
   ·refine⟨rfl,?_⟩;split
    ·rename_i e;exact⟨_,_,rfl,by lia,h2,by lia,fun i hi'=>mono i _ (by lia) (by lia) e,h4⟩
    ·rename_i e;exact⟨_,_,rfl,by lia,by lia,by lia,h3,fun i h6 h7=>anti _ i h6 h7 (by simpa using e)⟩
  ·rintro c st' ⟨rfl,lo,hi,rfl,h1,h2,h5,h3,h4⟩;have:lo=hi:=by lia
   subst this;exact r lo ⟨h2,h3,h4⟩
 refine wpS_bind (ask hh ?_ rfl);have fin:∀ (lo hi:Nat) {m:StateT SortSt Sem (Option Nat)} {body:Nat->Option (Option Nat)×Nat×Nat->StateT SortSt Sem (ForInStep (Option (Option Nat)×Nat×Nat))} {f:Option (Option Nat)×Nat×Nat->StateT SortSt Sem (Option Nat)},lo<=hi->hi<=n->(∀ i,i < lo->b i=true)->(∀ i,hi<=i->i < n->b i=false)->m=(forIn [0:n] (none,lo,hi) body >>= f)->
   (∀ k,f (none,k,k)=pure (some k))->
   (∀ x lo hi,∃ (u:StateT SortSt Sem (Option Bool)) (g:Option Bool->StateT SortSt Sem (ForInStep (Option (Option Nat)×Nat×Nat))),body x (none,lo,hi)=(if lo≥hi then pure (.done (none,lo,hi)) else u >>= g)/\u=(do let x <- elem' a (base + (lo + (hi - lo) / 2));if left=true then lt' x key else do let r <- lt' key x;pure (Option.map (fun x=>!x) r))/\
    g (some true)=pure (.yield (none,lo + (hi - lo) / 2 + 1,hi))/\g (some false)=pure (.yield (none,lo,lo + (hi - lo) / 2)))->wpS (model prog w) A E s m Q st:=by
  intro lo hi m body f h1 h2 h3 h4 e hf hb;subst e;refine wpS_bind (tail lo hi h1 h2 h3 h4 (fun x lo hi R' hh r1 r2=>?_) fun k pk=>?_)
  ·obtain⟨u,g,e1,e2,g1,g2⟩:=hb x lo hi;rw[e1];by_cases z:lo≥hi
   ·rw[if_pos z];exact wpS_pure (r1 z)
   ·rw[if_neg z];refine wpS_bind (ask (i:=lo + (hi - lo) / 2) (by lia) ?_ e2);have z2:=r2 (by lia);cases eb:b (lo + (hi - lo) / 2) with
    | true=>rw[if_pos eb] at z2;rw[g1];exact wpS_pure z2
    | false=>rw[eb] at z2;rw[g2];exact wpS_pure z2
  ·rw[hf];exact wpS_pure (q k pk)
 cases eh:b hint with
 | true=>
  dsimp only;rw[if_pos rfl];refine wpS_bind (wpS_forRange (I:=fun t c st'=>st'=st/\∃ l o,c=(none,l,o)/\l < o/\t + 1<=o/\hint + l < n/\b (hint + l)=true)
   (Q:=fun c st'=>wpS (model prog w) A E s _ Q st') ?_ ?_ ⟨rfl,0,1,rfl,by lia,by lia,hh,eh⟩)
  ·rintro t c st' _ ht ⟨rfl,l,o,rfl,h1,h2,h3,h4⟩;dsimp only;by_cases z:o≥n - hint
   ·rw[if_pos z];refine wpS_pure ?_;dsimp only;refine fin (hint + l + 1) (hint + min o (n - hint)) (by lia) (by lia) (fun i hi=>mono i _ (by lia) h3 h4) (fun i h5 h6=>by lia) rfl (fun k=>rfl) (fun x lo hi=>⟨_,_,rfl,rfl,rfl,rfl⟩)
   ·rw[if_neg z];refine wpS_bind (ask (i:=hint + o) (by lia) ?_ rfl);dsimp only;cases eo:b (hint + o) with
    | true=>exact wpS_pure ⟨rfl,o,2 * o + 1,rfl,by lia,by lia,by lia,eo⟩
    | false=>
     refine wpS_pure ?_;dsimp only;refine fin (hint + l + 1) (hint + min o (n - hint)) (by lia) (by lia) (fun i hi=>mono i _ (by lia) h3 h4) (fun i h5 h6=>anti (hint + o) i (by lia) h6 eo) rfl (fun k=>rfl) (fun x lo hi=>⟨_,_,rfl,rfl,rfl,rfl⟩)
  ·rintro c st' ⟨rfl,l,o,rfl,h1,h2,h3,h4⟩;dsimp only;refine fin (hint + l + 1) (hint + min o (n - hint)) (by lia) (by lia) (fun i hi=>mono i _ (by lia) h3 h4) (fun i h5 h6=>by lia) rfl (fun k=>rfl) (fun x lo hi=>⟨_,_,rfl,rfl,rfl,rfl⟩)
 | false=>
  dsimp only;rw[if_neg (by decide)];refine wpS_bind (wpS_forRange (I:=fun t c st'=>st'=st/\∃ l o,c=(none,l,o)/\l < o/\t + 1<=o/\l<=hint/\b (hint - l)=false)
   (Q:=fun c st'=>wpS (model prog w) A E s _ Q st') ?_ ?_ ⟨rfl,0,1,rfl,by lia,by lia,by lia,eh⟩)
  ·rintro t c st' _ ht ⟨rfl,l,o,rfl,h1,h2,h3,h4⟩;dsimp only;by_cases z:o≥hint + 1
   ·rw[if_pos z];refine wpS_pure ?_;dsimp only;refine fin (hint + 1 - min o (hint + 1)) (hint - l) (by lia) (by lia) (fun i hi=>by lia) (fun i h5 h6=>anti (hint - l) i h5 h6 h4) rfl (fun k=>rfl) (fun x lo hi=>⟨_,_,rfl,rfl,rfl,rfl⟩)
   ·rw[if_neg z];refine wpS_bind (ask (i:=hint - o) (by lia) ?_ rfl);dsimp only;cases eo:b (hint - o) with
    | false=>exact wpS_pure ⟨rfl,o,2 * o + 1,rfl,by lia,by lia,by lia,eo⟩
    | true=>
     refine wpS_pure ?_;dsimp only;refine fin (hint + 1 - min o (hint + 1)) (hint - l) (by lia) (by lia) (fun i hi=>mono i (hint - o) (by lia) (by lia) eo) (fun i h5 h6=>anti (hint - l) i h5 h6 h4) rfl (fun k=>rfl) (fun x lo hi=>⟨_,_,rfl,rfl,rfl,rfl⟩)
  ·rintro c st' ⟨rfl,l,o,rfl,h1,h2,h3,h4⟩;dsimp only;refine fin (hint + 1 - min o (hint + 1)) (hint - l) (by lia) (by lia) (fun i hi=>by lia) (fun i h5 h6=>anti (hint - l) i h5 h6 h4) rfl (fun k=>rfl) (fun x lo hi=>⟨_,_,rfl,rfl,rfl,rfl⟩)
end
section
variable {prog:Program} {w:World} {A:Around} {E:VS} {s:Shared} {κ:SortKind} {P:Keyed->Prop} {lt:Keyed->Keyed->Bool} {st st':SortSt} {a b out:Array Keyed} {ia ib:Nat}
def Srt (lt:Keyed->Keyed->Bool) (l:List Keyed):Prop:=l.Pairwise fun x y=>lt y x=false
def Res (lt:Keyed->Keyed->Bool) (a b r:Array Keyed):Prop:=r.toList.Perm (a.toList++b.toList)/\Srt lt r.toList
structure gG (st st':SortSt):Prop where
 k:kindOf st'=kindOf st
 a:arrOf st'=arrOf st
 p:pendingOf st'=pendingOf st
 f:failedOf st'=failedOf st
theorem gG.refl:gG st st:=⟨rfl,rfl,rfl,rfl⟩
theorem gG.gal (h:gG st st') (g:Nat):gG st (SortSt.mk' (kindOf st') (arrOf st') (pendingOf st') g (failedOf st')):=⟨h.k,h.a,h.p,h.f⟩
structure MI (lt:Keyed->Keyed->Bool) (a b out:Array Keyed) (ia ib:Nat):Prop where
 perm:(out.toList++(a.toList.drop ia++b.toList.drop ib)).Perm (a.toList++b.toList)
 srt:Srt lt out.toList
 oa:∀ x∈out.toList,∀ y∈a.toList.drop ia,lt y x=false
 ob:∀ x∈out.toList,∀ y∈b.toList.drop ib,lt y x=false
theorem oQ (h:ia < a.size):a.toList.drop ia=X a ia::a.toList.drop (ia + 1):=by
 have h':ia < a.toList.length:=by simpa using h
 rw[List.drop_eq_getElem_cons h']
 congr 1
 have:=uE h;rw[Array.getElem?_eq_getElem h] at this;rw[<- Option.some.inj this,Array.getElem_toList]
theorem Srt.rest (h:Srt lt a.toList) (hi:ia < a.size):∀ y∈a.toList.drop (ia + 1),lt y (X a ia)=false:=by
 have h2:Srt lt (a.toList.drop ia):=List.Pairwise.sublist (List.drop_sublist _ _) h;rw[oQ hi] at h2;exact(List.pairwise_cons.mp h2).1
theorem nK {l:List Keyed} {x:Keyed} (h:Srt lt l) (hx:∀ y∈l,lt x y=false):Srt lt (l++[x]):=List.pairwise_append.mpr ⟨h,List.pairwise_singleton _ _,fun y hy z hz=>by rw[List.mem_singleton.mp hz];exact hx y hy⟩
theorem MI.p9 (m:MI lt a b out ia ib) (sa:Srt lt a.toList) (hi:ia < a.size) (hb:∀ y∈b.toList.drop ib,lt y (X a ia)=false):MI lt a b (out.push (X a ia)) (ia + 1) ib:=by
 have e:=oQ hi;refine⟨?_,?_,fun x hx y hy=>?_,fun x hx y hy=>?_⟩
 ·have:=m.perm;rw[e] at this;rw[Array.toList_push];simpa using this
 ·rw[Array.toList_push];exact nK m.srt fun y hy=>m.oa y hy _ (by rw[e];exact .head _)
 ·rw[Array.toList_push] at hx;rcases List.mem_append.mp hx with hx | hx
  ·exact m.oa x hx y (by rw[e];exact .tail _ hy)
  ·rw[List.mem_singleton.mp hx];exact sa.rest hi y hy
 ·rw[Array.toList_push] at hx;rcases List.mem_append.mp hx with hx | hx
  ·exact m.ob x hx y hy
  ·rw[List.mem_singleton.mp hx];exact hb y hy
theorem MI.nV (m:MI lt a b out ia ib) (sb:Srt lt b.toList) (hi:ib < b.size) (ha:∀ y∈a.toList.drop ia,lt y (X b ib)=false):MI lt a b (out.push (X b ib)) ia (ib + 1):=by
 have e:=oQ hi;refine⟨?_,?_,fun x hx y hy=>?_,fun x hx y hy=>?_⟩
 ·refine List.Perm.trans ?_ m.perm;rw[e,Array.toList_push,List.append_assoc];refine List.Perm.append_left _ ?_;simp only[List.singleton_append];exact List.perm_middle.symm
 ·rw[Array.toList_push];exact nK m.srt fun y hy=>m.ob y hy _ (by rw[e];exact .head _)
 ·rw[Array.toList_push] at hx;rcases List.mem_append.mp hx with hx | hx
  ·exact m.oa x hx y hy
  ·rw[List.mem_singleton.mp hx];exact ha y hy
 ·rw[Array.toList_push] at hx;rcases List.mem_append.mp hx with hx | hx
  ·exact m.ob x hx y (by rw[e];exact .tail _ hy)
  ·rw[List.mem_singleton.mp hx];exact sb.rest hi y hy
theorem ug {k:Nat} (h:ia + k < a.size):out++a.extract ia (ia + (k + 1))=(out++a.extract ia (ia + k)).push (X a (ia + k)):=by
 apply Array.toList_inj.mp;have h':ia + k < a.toList.length:=by simpa using h
 rw[Array.toList_push,Array.toList_append,Array.toList_append,Array.toList_extract,Array.toList_extract,List.append_assoc]
 congr 1
 rw[List.extract_eq_drop_take,List.extract_eq_drop_take,Nat.add_sub_cancel_left,Nat.add_sub_cancel_left,List.take_succ]
 congr 1
 rw[List.getElem?_drop,Array.getElem?_toList,uE h]
 rfl
theorem MI.chA (m:MI lt a b out ia ib) (sa:Srt lt a.toList):∀ k,ia + k<=a.size->(∀ i,i < k->∀ y∈b.toList.drop ib,lt y (X a (ia + i))=false)->MI lt a b (out++a.extract ia (ia + k)) (ia + k) ib
 | 0,_,_=>by
  have:out++a.extract ia (ia + 0)=out:=by apply Array.toList_inj.mp;simp
  rw[this];exact m
 | k + 1,h,hb=>by
  rw[ug (by lia)];exact(MI.chA m sa k (by lia) fun i hi=>hb i (by lia)).p9 sa (by lia) (hb k (by lia))
theorem MI.chB (m:MI lt a b out ia ib) (sb:Srt lt b.toList):∀ k,ib + k<=b.size->(∀ i,i < k->∀ y∈a.toList.drop ia,lt y (X b (ib + i))=false)->MI lt a b (out++b.extract ib (ib + k)) ia (ib + k)
 | 0,_,_=>by
  have:out++b.extract ib (ib + 0)=out:=by apply Array.toList_inj.mp;simp
  rw[this];exact m
 | k + 1,h,ha=>by
  rw[ug (by lia)];exact(MI.chB m sb k (by lia) fun i hi=>ha i (by lia)).nV sb (by lia) (ha k (by lia))
theorem ny:(a.extract ia a.size).toList=a.toList.drop ia:=by
 rw[Array.toList_extract,List.extract_eq_drop_take,List.take_of_length_le (by simp)]
theorem MI.done (m:MI lt a b out ia ib) (sa:Srt lt a.toList) (sb:Srt lt b.toList) (h:a.size<=ia\/b.size<=ib):Res lt a b (out++a.extract ia a.size++b.extract ib b.size):=by
 have s1:Srt lt (a.toList.drop ia):=List.Pairwise.sublist (List.drop_sublist _ _) sa;have s2:Srt lt (b.toList.drop ib):=List.Pairwise.sublist (List.drop_sublist _ _) sb;unfold Res;rw[Array.toList_append,Array.toList_append,ny,ny,List.append_assoc];refine⟨m.perm,?_⟩;rcases h with h | h
 ·have e:a.toList.drop ia=[]:=List.drop_of_length_le (by simpa using h);rw[e,List.nil_append];exact List.pairwise_append.mpr ⟨m.srt,s2,m.ob⟩
 ·have e:b.toList.drop ib=[]:=List.drop_of_length_le (by simpa using h);rw[e,List.append_nil];exact List.pairwise_append.mpr ⟨m.srt,s1,m.oa⟩
theorem MI.last (m:MI lt a b out ia ib) (sb:Srt lt b.toList) (hi:ia + 1=a.size) (hl:∀ y∈b.toList,lt (X a ia) y=false):Res lt a b (out++b.extract ib b.size++a.extract ia a.size):=by
 have s2:Srt lt (b.toList.drop ib):=List.Pairwise.sublist (List.drop_sublist _ _) sb;unfold Res;rw[Array.toList_append,Array.toList_append,ny,ny,List.append_assoc];refine⟨(List.Perm.append_left _ List.perm_append_comm).trans m.perm,?_⟩;have e:a.toList.drop ia=[X a ia]:=by rw[oQ (by lia),List.drop_of_length_le (by simpa using Nat.le_of_eq hi.symm)]
 have oa:=m.oa;rw[e] at oa ⊢;rw[<- List.append_assoc];refine nK (List.pairwise_append.mpr ⟨m.srt,s2,m.ob⟩) fun y hy=>?_;rcases List.mem_append.mp hy with hy | hy
 ·exact oa y hy _ (.head _)
 ·exact hl y (List.mem_of_mem_drop hy)
theorem ou {y:Keyed} (h:y∈a.toList.drop ia):∃ i,ia<=i/\i < a.size/\y=X a i:=by
 obtain⟨k,hk⟩:=List.getElem?_of_mem h;rw[List.getElem?_drop,Array.getElem?_toList] at hk;have lt:ia + k < a.size:=(Array.getElem?_eq_some_iff.mp hk).1;refine⟨ia + k,by lia,lt,?_⟩;rw[uE lt] at hk;cases hk;rfl
theorem Srt.at (h:Srt lt a.toList) (rf:∀ x,lt x x=false) {i j:Nat} (hij:i<=j) (hj:j < a.size):lt (X a j) (X a i)=false:=by
 by_cases e:i=j
 ·subst e;exact rf _
 ·have:=h.rest (ia:=i) (by lia);refine this _ ?_;have:=uE hj;rw[<- Array.getElem?_toList] at this;refine List.mem_of_getElem? (i:=j - (i + 1)) ?_;rw[List.getElem?_drop,show i + 1 + (j - (i + 1))=j by lia,this]
theorem jf {x:String} {Q:PUnit->SortSt->Prop} (q:Q ⟨⟩ st):wpS (model prog w) A E s (liftM (rule x):StateT SortSt Sem PUnit) Q st:=wpS_lift (wpAny_rule ⟨rfl,q⟩)
theorem Srt.DW (sa:Srt lt a.toList) (h:Ask prog w A s κ P lt) {key:Keyed} {base n:Nat} (hs:base + n<=a.size:=by lia):∀ i j,i<=j->j < n->bey lt false key a base j=true->bey lt false key a base i=true:=fun i j h1 h2 h3=>by
 have h4:lt key (X a (base + j))=false:=by simpa [bey] using h3
 have:=h.tr _ _ _ (sa.at h.rf (show base + i<=base + j by lia) (by lia)) h4;simpa [bey] using this
theorem Srt.DX (sa:Srt lt a.toList) (h:Ask prog w A s κ P lt) {key:Keyed} {base n:Nat} (hs:base + n<=a.size:=by lia):∀ i j,i<=j->j < n->bey lt true key a base j=true->bey lt true key a base i=true:=fun i j h1 h2 h3=>by
 have h4:lt (X a (base + j)) key=true:=by simpa [bey] using h3
 have h5:=sa.at h.rf (show base + i<=base + j by lia) (by lia);show lt (X a (base + i)) key=true;cases e:lt (X a (base + i)) key with
 | true=>rfl
 | false=>rw[h.tr _ _ _ e h5] at h4;cases h4
theorem jpI {γ ε:Type} {c:Prop} [Decidable c] {v:γ->StateT SortSt Sem ε} {x y:γ} {Q:ε->SortSt->Prop} (h:∀ g,wpS (model prog w) A E s (v g) Q st):wpS (model prog w) A E s (if c then v x else v y) Q st:=by
 split
 ·exact h _
 ·exact h _
theorem jpR {γ δ ε:Type} {f:StateT SortSt Sem ε} {Q:ε->SortSt->Prop} (jp:Unit->γ->δ->StateT SortSt Sem ε) (R:γ->δ->Prop) (tail:∀ x y,R x y->wpS (model prog w) A E s (jp ⟨⟩ x y) Q st)
  (main:(∀ x y,R x y->wpS (model prog w) A E s (jp ⟨⟩ x y) Q st)->wpS (model prog w) A E s f Q st):wpS (model prog w) A E s f Q st:=main tail
theorem FT (h:Ask prog w A s κ P lt) {Q:Array Keyed->SortSt->Prop} (hk:kindOf st=κ) (pa:All P a) (pb:All P b) (sa:Srt lt a.toList) (sb:Srt lt b.toList) (na:0 < a.size) (nb:0 < b.size)
  (hf:lt (X b 0) (X a 0)=true) (hl:∀ y∈b.toList,lt (X a (a.size - 1)) y=false) (q:∀ r st',gG st st'->Res lt a b r->Q r st'):wpS (model prog w) A E s (mLo a b) Q st:=by
 have rf:=h.rf;have hl':∀ {i:Nat},i + 1=a.size->∀ y∈b.toList,lt (X a i) y=false:=fun {i} e=>by
  have:i=a.size - 1:=by lia
  rw[this];exact hl
 have m0:MI lt a b #[X b 0] 0 1:=by
  have z:MI lt a b #[] 0 0:=⟨by simp,List.Pairwise.nil,(fun x hx=>by simp at hx),(fun x hx=>by simp at hx)⟩;have:=z.nV sb nb fun y hy=>by
   obtain⟨i,_,hi,rfl⟩:=ou hy;have:=sa.at rf (Nat.zero_le i) hi;exact h.tr _ _ _ (h.asym _ _ hf) this
  exact this
 refine wpS_bind (jf (wpS_bind (aZ nb ?_)))
 extract_lets o0 n0 n00
 by_cases z1:1=b.size
 ·rw[if_pos (by simpa using z1)];exact wpS_pure (q _ _ .refl (m0.done sa sb (.inr (by lia))))
 rw[if_neg (by simpa using z1)];by_cases z2:0 + 1=a.size
 ·rw[if_pos (by simpa using z2)];exact wpS_pure (q _ _ .refl (m0.last sb z2 (hl' z2)))
 rw[if_neg (by simpa using z2)];refine wpS_bind (wpS_get ?_);refine wpS_bind (wpS_mono (wpS_forRange (I:=fun t c st'=>gG st st'/\∃ out ia ib g,c=(none,out,ia,ib,g)/\MI lt a b out ia ib/\ia + 1 < a.size/\ib < b.size/\t + 1<=ia + ib)
  (Q:=fun c st'=>gG st st'/\∃ r,c.1=some r/\Res lt a b r) ?_ ?_ ⟨.refl,_,_,_,_,rfl,m0,by lia,by lia,by lia⟩) ?_)
 ·rintro t c st1 _ ht ⟨k1,out,ia,ib,g,rfl,m,hia,hib,hm⟩
  extract_lets s0 x1 s1 x2 s2 x3 x4
  dsimp -zeta -zetaHave only[s0,x1,s1,x2,s2,x3,x4];refine wpS_bind (wpS_mono (wpS_forRange (I:=fun t' c st'=>gG st st'/\∃ out ia' ib' ac bc,c=(none,out,ia',ib',ac,bc)/\MI lt a b out ia' ib'/\ia' + 1 < a.size/\ib' < b.size/\ia + ib + t'<=ia' + ib')
   (Q:=fun c st'=>gG st st'/\((∃ r,c.1=some r/\Res lt a b r)\/∃ out ia' ib' ac bc,c=(none,out,ia',ib',ac,bc)/\MI lt a b out ia' ib'/\ia' + 1 < a.size/\ib' < b.size/\ia + ib + 1<=ia' + ib')) ?_ ?_ ⟨k1,_,_,_,_,_,rfl,m,hia,hib,by lia⟩) ?_)
  ·rintro t' c st2 _ ht' ⟨k2,out,ia',ib',ac,bc,rfl,m,hia,hib,hm'⟩
   try dsimp only
   refine wpS_bind (aZ hib (wpS_bind (aZ (by lia) (wpS_bind (h.ask (k2.k.trans hk) (pb _ hib) (pa _ (by lia)) ?_)))))
   try dsimp only
   cases e:lt (X b ib') (X a ia') with
   | true=>
    rw[if_pos rfl];refine wpS_bind (aZ hib ?_)
    try dsimp only
    have m1:=m.nV sb hib fun y hy=>by
     obtain⟨i,h1,h2,rfl⟩:=ou hy;exact h.tr _ _ _ (h.asym _ _ e) (sa.at rf h1 h2)
    by_cases z:ib' + 1=b.size
    ·rw[if_pos (by simpa using z)];exact wpS_pure ⟨k2,.inl ⟨_,rfl,m1.done sa sb (.inr (by lia))⟩⟩
    ·rw[if_neg (by simpa using z)];split
     ·exact wpS_pure ⟨k2,.inr ⟨_,_,_,_,_,rfl,m1,hia,by lia,by lia⟩⟩
     ·exact wpS_pure ⟨k2,_,_,_,_,_,rfl,m1,hia,by lia,by lia⟩
   | false=>
    rw[if_neg (by decide)];refine wpS_bind (aZ (by lia) ?_)
    try dsimp only
    have m1:=m.p9 sa (by lia) fun y hy=>by
     obtain⟨i,h1,h2,rfl⟩:=ou hy;exact h.tr _ _ _ e (sb.at rf h1 h2)
    by_cases z:ia' + 1 + 1=a.size
    ·rw[if_pos (by simpa using z)];exact wpS_pure ⟨k2,.inl ⟨_,rfl,m1.last sb z (hl' z)⟩⟩
    ·rw[if_neg (by simpa using z)];split
     ·exact wpS_pure ⟨k2,.inr ⟨_,_,_,_,_,rfl,m1,by lia,by lia,by lia⟩⟩
     ·exact wpS_pure ⟨k2,_,_,_,_,_,rfl,m1,by lia,by lia,by lia⟩
  ·rintro c st2 ⟨k2,out,ia',ib',ac,bc,rfl,m,hia,hib,hm'⟩;exact⟨k2,.inr ⟨_,_,_,_,_,rfl,m,hia,hib,by lia⟩⟩
  ·rintro c st2 ⟨k2,⟨r,e,res⟩ | ⟨out,ia',ib',ac,bc,rfl,m,hia,hib,hm'⟩⟩
   ·obtain⟨c1,c2⟩:=c;cases e;exact wpS_pure ⟨k2,_,rfl,res⟩
   extract_lets u0 u1 u2 u3 u4 u5 u6 u7 u8 u9
   dsimp -zeta -zetaHave only[u0,u1,u2,u3,u4,u5,u6,u7,u8,u9];refine wpS_bind (jf ?_);refine wpS_bind (wpS_mono (wpS_forRange (I:=fun t' c st'=>gG st st'/\∃ out ia'' ib'' g ac bc,c=(none,out,ia'',ib'',g,ac,bc)/\MI lt a b out ia'' ib''/\ia'' + 1 < a.size/\ib'' < b.size/\ia + ib + 1<=ia'' + ib'')
    (Q:=fun c st'=>gG st st'/\((∃ r,c.1=some r/\Res lt a b r)\/∃ out ia'' ib'' g ac bc,c=(none,out,ia'',ib'',g,ac,bc)/\MI lt a b out ia'' ib''/\ia'' + 1 < a.size/\ib'' < b.size/\ia + ib + 1<=ia'' + ib'')) ?_ ?_ ⟨k2,_,_,_,_,_,_,rfl,m,hia,hib,hm'⟩) ?_)
   ·rintro t' c st3 _ ht' ⟨k3,out,ia',ib',g',ac,bc,rfl,m,hia,hib,hm'⟩
    extract_lets v0 v1 v2 v3 v4 v5 v6 v7 v8 v9 v10 v11 jp g4
    refine jpI (v:=jp ⟨⟩) fun g2=>?_;dsimp -zeta -zetaHave only[jp,v0,v1,v2,v3,v4,v5,v6,v8,v9,v10,v11];refine wpS_bind (wpS_modify ?_);refine wpS_bind (aZ hib (wpS_bind (l7 h (k3.k.trans hk) (pb _ hib) pa (by lia) (by lia) (sa.DW h) fun k pk=>?_)));dsimp -zeta -zetaHave only
    extract_lets c1 jp2 o4 n4
    have kl:=pk.le;have p1:∀ i,i < k->lt (X b ib') (X a (ia' + i))=false:=fun i hi=>by have:=pk.lo i hi;simpa [bey] using this
    have p2:∀ j,ia' + k<=j->j < a.size->lt (X b ib') (X a j)=true:=fun j h1 h2=>by
     have:=pk.hi (j - ia') (by lia) (by lia);rw[show j=ia' + (j - ia') by lia];simpa [bey] using this
    have m1:=m.chA sa k (by lia) fun i hi y hy=>by
     obtain⟨j,h1,h2,rfl⟩:=ou hy;exact h.tr _ _ _ (p1 i hi) (sb.at rf h1 h2)
    refine jpR jp2 (fun o n=>n=ia' + k/\n + 1 < a.size/\MI lt a b o n ib') ?_ fun tl=>?_
    ·rintro o1 i1 ⟨e1,hi1,m1⟩;rw[<- e1] at p2;have hm1:ia + ib + 1<=i1 + ib':=by lia
     dsimp -zeta -zetaHave only[jp2];refine wpS_bind (aZ hib ?_)
     try extract_lets o5
     have m2:=m1.nV sb hib fun y hy=>by
      obtain⟨j,h1,h2,rfl⟩:=ou hy;exact h.asym _ _ (p2 j h1 h2)
     by_cases z3:ib' + 1=b.size
     ·rw[if_pos (by simpa using z3)];exact wpS_pure ⟨k3.gal _,.inl ⟨_,rfl,m2.done sa sb (.inr (by lia))⟩⟩
     rw[if_neg (by simpa using z3)];refine wpS_bind (aZ (by lia) (wpS_bind (l7 h (k3.k.trans hk) (pa _ (by lia)) pb (by lia) (by lia) (sb.DX h) fun k1 pk1=>?_)));dsimp -zeta -zetaHave only
     extract_lets c3 jp3 o6 n6
     have kl1:=pk1.le;have q1:∀ i,i < k1->lt (X b (ib' + 1 + i)) (X a i1)=true:=fun i hi=>by have:=pk1.lo i hi;simpa [bey] using this
     have q2:∀ j,ib' + 1 + k1<=j->j < b.size->lt (X b j) (X a i1)=false:=fun j h1 h2=>by
      have:=pk1.hi (j - (ib' + 1)) (by lia) (by lia);rw[show j=ib' + 1 + (j - (ib' + 1)) by lia];simpa [bey] using this
     have m3:=m2.chB sb k1 (by lia) fun i hi y hy=>by
      obtain⟨j,h1,h2,rfl⟩:=ou hy;exact h.tr _ _ _ (h.asym _ _ (q1 i hi)) (sa.at rf h1 h2)
     refine jpR jp3 (fun o n=>n=ib' + 1 + k1/\n < b.size/\MI lt a b o i1 n) ?_ fun tl3=>?_
     ·rintro o2 i2 ⟨e2,hi2,m3⟩;rw[<- e2] at q2;have hm2:ia + ib + 1<=i1 + i2:=by lia
      dsimp -zeta -zetaHave only[jp3];refine wpS_bind (aZ (by lia) ?_)
      try extract_lets o7
      have m4:=m3.p9 sa (by lia) fun y hy=>by
       obtain⟨j,h1,h2,rfl⟩:=ou hy;exact q2 j h1 h2
      by_cases z4:i1 + 1 + 1=a.size
      ·rw[if_pos (by simpa using z4)];exact wpS_pure ⟨k3.gal _,.inl ⟨_,rfl,m4.last sb z4 (hl' z4)⟩⟩
      rw[if_neg (by simpa using z4)];split
      ·exact wpS_pure ⟨k3.gal _,.inr ⟨_,_,_,_,_,_,rfl,m4,by lia,by lia,by lia⟩⟩
      ·exact wpS_pure ⟨k3.gal _,_,_,_,_,_,_,rfl,m4,by lia,by lia,by lia⟩
     ·by_cases kz1:k1 > 0
      ·rw[if_pos kz1];by_cases z:ib' + 1 + k1=b.size
       ·rw[if_pos (by simpa using z)];exact wpS_pure ⟨k3.gal _,.inl ⟨_,rfl,m3.done sa sb (.inr (by lia))⟩⟩
       rw[if_neg (by simpa using z)];exact tl3 _ _ ⟨rfl,by lia,m3⟩
      ·rw[if_neg kz1];have hk0:k1=0:=by lia
       exact tl3 _ _ ⟨by lia,by lia,m2⟩
    ·by_cases kz:k > 0
     ·rw[if_pos kz];by_cases z:ia' + k + 1=a.size
      ·rw[if_pos (by simpa using z)];exact wpS_pure ⟨k3.gal _,.inl ⟨_,rfl,m1.last sb z (hl' z)⟩⟩
      rw[if_neg (by simpa using z)];by_cases z':ia' + k=a.size
      ·rw[if_pos (by simpa using z')];exact wpS_pure ⟨k3.gal _,.inl ⟨_,rfl,m1.done sa sb (.inl (by lia))⟩⟩
      rw[if_neg (by simpa using z')];exact tl _ _ ⟨rfl,by lia,m1⟩
     ·rw[if_neg kz];have hk0:k=0:=by lia
      exact tl _ _ ⟨by lia,hia,m⟩
   ·rintro c st3 hc;exact⟨hc.1,.inr hc.2⟩
   ·rintro c st3 ⟨k3,⟨r,e,res⟩ | ⟨out,ia',ib',g',ac,bc,rfl,m,hia,hib,hm'⟩⟩
    ·obtain⟨c1,c2⟩:=c;cases e;exact wpS_pure ⟨k3,_,rfl,res⟩
    ·exact wpS_bind (wpS_modify (wpS_pure ⟨k3.gal _,_,_,_,_,rfl,m,hia,hib,by (try dsimp only);lia⟩))
 ·rintro c st1 ⟨k1,out,ia,ib,g,rfl,m,hia,hib,hm⟩;lia
 ·rintro c st1 ⟨k1,r,e,res⟩;obtain⟨c1,c2⟩:=c;cases e;exact wpS_pure (q _ _ k1 res)
end
section
variable {prog:Program} {w:World} {A:Around} {E:VS} {s:Shared} {κ:SortKind} {P:Keyed->Prop} {lt:Keyed->Keyed->Bool} {st st':SortSt} {a b out:Array Keyed} {na nb:Nat}
structure MH (lt:Keyed->Keyed->Bool) (a b out:Array Keyed) (na nb:Nat):Prop where
 perm:(a.toList.take na++(b.toList.take nb++out.toList.reverse)).Perm (a.toList++b.toList)
 srt:Srt lt out.toList.reverse
 oa:∀ x∈out.toList,∀ y∈a.toList.take na,lt x y=false
 ob:∀ x∈out.toList,∀ y∈b.toList.take nb,lt x y=false
theorem uN (h:na < a.size):a.toList.take (na + 1)=a.toList.take na++[X a na]:=by
 rw[List.take_succ,Array.getElem?_toList,uE h];rfl
theorem mn {y:Keyed} (h:y∈a.toList.take na):∃ i,i < na/\i < a.size/\y=X a i:=by
 obtain⟨k,hk⟩:=List.getElem?_of_mem h;have lt1:k < na:=by
  have:=(gS0 hk).1;rw[List.length_take] at this;lia
 rw[List.getElem?_take_of_lt lt1,Array.getElem?_toList] at hk;have lt:k < a.size:=(Array.getElem?_eq_some_iff.mp hk).1;rw[uE lt] at hk;cases hk;exact⟨k,lt1,lt,rfl⟩
theorem nL {l:List Keyed} {x:Keyed} (h:Srt lt l) (hx:∀ y∈l,lt y x=false):Srt lt (x::l):=List.pairwise_cons.mpr ⟨hx,h⟩
theorem MH.p9 (m:MH lt a b out (na + 1) nb) (sa:Srt lt a.toList) (rf:∀ x,lt x x=false) (hi:na < a.size) (hb:∀ y∈b.toList.take nb,lt (X a na) y=false):MH lt a b (out.push (X a na)) na nb:=by
 have e:=uN hi;have me:X a na∈a.toList.take (na + 1):=by rw[e];exact List.mem_append_right _ (.head _)
 refine⟨?_,?_,fun x hx y hy=>?_,fun x hx y hy=>?_⟩
 ·refine List.Perm.trans ?_ m.perm;rw[e,Array.toList_push,List.reverse_append,List.append_assoc];refine List.Perm.append_left _ ?_;simp only[List.reverse_singleton,List.singleton_append];exact List.perm_middle
 ·rw[Array.toList_push,List.reverse_append];exact nL m.srt fun y hy=>m.oa y (List.mem_reverse.mp hy) _ me
 ·rw[Array.toList_push] at hx;rcases List.mem_append.mp hx with hx | hx
  ·exact m.oa x hx y (by rw[e];exact List.mem_append_left _ hy)
  ·rw[List.mem_singleton.mp hx];obtain⟨i,h1,h2,rfl⟩:=mn hy;exact sa.at rf (by lia) hi
 ·rw[Array.toList_push] at hx;rcases List.mem_append.mp hx with hx | hx
  ·exact m.ob x hx y hy
  ·rw[List.mem_singleton.mp hx];exact hb y hy
theorem MH.nV (m:MH lt a b out na (nb + 1)) (sb:Srt lt b.toList) (rf:∀ x,lt x x=false) (hi:nb < b.size) (ha:∀ y∈a.toList.take na,lt (X b nb) y=false):MH lt a b (out.push (X b nb)) na nb:=by
 have e:=uN hi;have me:X b nb∈b.toList.take (nb + 1):=by rw[e];exact List.mem_append_right _ (.head _)
 refine⟨?_,?_,fun x hx y hy=>?_,fun x hx y hy=>?_⟩
 ·refine List.Perm.trans ?_ m.perm;rw[e,Array.toList_push,List.reverse_append,List.append_assoc (List.take nb b.toList)];exact List.Perm.refl _
 ·rw[Array.toList_push,List.reverse_append];exact nL m.srt fun y hy=>m.ob y (List.mem_reverse.mp hy) _ me
 ·rw[Array.toList_push] at hx;rcases List.mem_append.mp hx with hx | hx
  ·exact m.oa x hx y hy
  ·rw[List.mem_singleton.mp hx];exact ha y hy
 ·rw[Array.toList_push] at hx;rcases List.mem_append.mp hx with hx | hx
  ·exact m.ob x hx y (by rw[e];exact List.mem_append_left _ hy)
  ·rw[List.mem_singleton.mp hx];obtain⟨i,h1,h2,rfl⟩:=mn hy;exact sb.at rf (by lia) hi
theorem xp {l n:Nat} (h:l < n) (hn:n<=a.size):out++(a.extract l n).reverse=(out++(a.extract (l + 1) n).reverse).push (X a l):=by
 apply Array.toList_inj.mp;have hl:l < a.size:=by lia
 rw[Array.toList_push,Array.toList_append,Array.toList_append,Array.toList_reverse,Array.toList_reverse,Array.toList_extract,Array.toList_extract,List.append_assoc]
 congr 1
 rw[List.extract_eq_drop_take,List.extract_eq_drop_take,oQ hl,show n - l=(n - (l + 1)) + 1 by lia,List.take_succ_cons,List.reverse_cons]
theorem MH.chA (m:MH lt a b out na nb) (sa:Srt lt a.toList) (rf:∀ x,lt x x=false) (hn:na<=a.size):∀ (d l:Nat),na=l + d->(∀ i,l<=i->i < na->∀ y∈b.toList.take nb,lt (X a i) y=false)->MH lt a b (out++(a.extract l na).reverse) l nb
 | 0,l,e,_=>by
  have el:l=na:=by lia
  subst el;have:out++(a.extract l l).reverse=out:=by apply Array.toList_inj.mp;simp
  rw[this];exact m
 | d + 1,l,e,hb=>by
  rw[xp (by lia) hn];exact(MH.chA m sa rf hn d (l + 1) (by lia) fun i h1 h2=>hb i (by lia) h2).p9 sa rf (by lia) (hb l (Nat.le_refl _) (by lia))
theorem MH.chB (m:MH lt a b out na nb) (sb:Srt lt b.toList) (rf:∀ x,lt x x=false) (hn:nb<=b.size):∀ (d l:Nat),nb=l + d->(∀ i,l<=i->i < nb->∀ y∈a.toList.take na,lt (X b i) y=false)->MH lt a b (out++(b.extract l nb).reverse) na l
 | 0,l,e,_=>by
  have el:l=nb:=by lia
  subst el;have:out++(b.extract l l).reverse=out:=by apply Array.toList_inj.mp;simp
  rw[this];exact m
 | d + 1,l,e,ha=>by
  rw[xp (by lia) hn];exact(MH.chB m sb rf hn d (l + 1) (by lia) fun i h1 h2=>ha i (by lia) h2).nV sb rf (by lia) (ha l (Nat.le_refl _) (by lia))
theorem xq:(a.extract 0 na).toList=a.toList.take na:=by
 rw[Array.toList_extract,List.extract_eq_drop_take,List.drop_zero,Nat.sub_zero]
theorem MH.done (m:MH lt a b out na nb) (sa:Srt lt a.toList) (sb:Srt lt b.toList) (h:na=0\/nb=0):Res lt a b (a.extract 0 na++b.extract 0 nb++out.reverse):=by
 have s1:Srt lt (a.toList.take na):=List.Pairwise.sublist (List.take_sublist _ _) sa;have s2:Srt lt (b.toList.take nb):=List.Pairwise.sublist (List.take_sublist _ _) sb;unfold Res;rw[Array.toList_append,Array.toList_append,xq,xq,Array.toList_reverse,List.append_assoc];refine⟨m.perm,?_⟩;rcases h with rfl | rfl
 ·rw[List.take_zero,List.nil_append];exact List.pairwise_append.mpr ⟨s2,m.srt,fun x hx y hy=>m.ob y (List.mem_reverse.mp hy) x hx⟩
 ·rw[List.take_zero,List.nil_append];exact List.pairwise_append.mpr ⟨s1,m.srt,fun x hx y hy=>m.oa y (List.mem_reverse.mp hy) x hx⟩
theorem MH.first (m:MH lt a b out na 1) (sa:Srt lt a.toList) (hb:0 < b.size) (hf:∀ y∈a.toList,lt y (X b 0)=false):Res lt a b (b.extract 0 1++a.extract 0 na++out.reverse):=by
 have s1:Srt lt (a.toList.take na):=List.Pairwise.sublist (List.take_sublist _ _) sa;have e:b.toList.take 1=[X b 0]:=uN (na:=0) hb;have ob:=m.ob;have pm:=m.perm;unfold Res;rw[Array.toList_append,Array.toList_append,xq,xq,Array.toList_reverse];rw[e] at pm ob ⊢;refine⟨?_,?_⟩
 ·refine List.Perm.trans ?_ pm;simp only[List.singleton_append,List.cons_append];exact List.perm_middle.symm
 ·simp only[List.singleton_append,List.cons_append];refine nL (List.pairwise_append.mpr ⟨s1,m.srt,fun x hx y hy=>m.oa y (List.mem_reverse.mp hy) x hx⟩) fun y hy=>?_;rcases List.mem_append.mp hy with hy | hy
  ·exact hf y (List.mem_of_mem_take hy)
  ·exact ob y (List.mem_reverse.mp hy) _ (.head _)
theorem MH.pA (m:MH lt a b out na nb) (sa:Srt lt a.toList) (rf:∀ x,lt x x=false) (h0:0 < na) (hi:na<=a.size) (hb:∀ y∈b.toList.take nb,lt (X a (na - 1)) y=false):MH lt a b (out.push (X a (na - 1))) (na - 1) nb:=by
 obtain⟨n,rfl⟩:∃ n,na=n + 1:=⟨na - 1,by lia⟩;exact m.p9 sa rf (by lia) hb
theorem MH.pB (m:MH lt a b out na nb) (sb:Srt lt b.toList) (rf:∀ x,lt x x=false) (h0:0 < nb) (hi:nb<=b.size) (ha:∀ y∈a.toList.take na,lt (X b (nb - 1)) y=false):MH lt a b (out.push (X b (nb - 1))) na (nb - 1):=by
 obtain⟨n,rfl⟩:∃ n,nb=n + 1:=⟨nb - 1,by lia⟩;exact m.nV sb rf (by lia) ha
theorem FU (h:Ask prog w A s κ P lt) {Q:Array Keyed->SortSt->Prop} (hk:kindOf st=κ) (pa:All P a) (pb:All P b) (sa:Srt lt a.toList) (sb:Srt lt b.toList) (na0:0 < a.size) (nb0:0 < b.size)
  (hf:∀ y∈a.toList,lt y (X b 0)=false) (hl:∀ y∈b.toList,lt (X a (a.size - 1)) y=false) (q:∀ r st',gG st st'->Res lt a b r->Q r st'):wpS (model prog w) A E s (mHi a b) Q st:=by
 have rf:=h.rf;have m0:MH lt a b #[X a (a.size - 1)] (a.size - 1) b.size:=by
  have z:MH lt a b #[] a.size b.size:=⟨by rw[List.take_of_length_le (by simp),List.take_of_length_le (by simp)];simp,List.Pairwise.nil,(fun x hx=>by simp at hx),(fun x hx=>by simp at hx)⟩;exact z.pA sa rf na0 (Nat.le_refl _) fun y hy=>hl y (List.mem_of_mem_take hy)
 have fst:∀ {out:Array Keyed} {na nb:Nat},nb=1->MH lt a b out na nb->Res lt a b (b.extract 0 nb++a.extract 0 na++out.reverse):=fun {out na nb} e m=>by
  subst e;exact m.first sa nb0 hf
 refine wpS_bind (jf (wpS_bind (aZ (by lia) ?_)))
 extract_lets o0 n0
 by_cases z1:a.size - 1=0
 ·rw[if_pos (by simpa using z1)];exact wpS_pure (q _ _ .refl (m0.done sa sb (.inl z1)))
 rw[if_neg (by simpa using z1)];by_cases z2:b.size=1
 ·rw[if_pos (by simpa using z2)];exact wpS_pure (q _ _ .refl (fst z2 m0))
 rw[if_neg (by simpa using z2)];refine wpS_bind (wpS_get ?_);refine wpS_bind (wpS_mono (wpS_forRange (I:=fun t c st'=>gG st st'/\∃ na nb out g,c=(none,na,nb,out,g)/\MH lt a b out na nb/\na<=a.size/\nb<=b.size/\0 < na/\1 < nb/\na + nb + t + 1<=a.size + b.size)
  (Q:=fun c st'=>gG st st'/\∃ r,c.1=some r/\Res lt a b r) ?_ ?_ ⟨.refl,_,_,_,_,rfl,m0,by lia,by lia,by lia,by lia,by lia⟩) ?_)
 ·rintro t c st1 _ ht ⟨k1,na,nb,out,g,rfl,m,ba,bb,hna,hnb,hm⟩
  extract_lets s0 na1 s1 nb1 s2 out1 g1
  dsimp -zeta -zetaHave only[s0,na1,s1,nb1,s2,out1,g1];refine wpS_bind (wpS_mono (wpS_forRange (I:=fun t' c st'=>gG st st'/\∃ na' nb' out ac bc,c=(none,na',nb',out,ac,bc)/\MH lt a b out na' nb'/\na'<=a.size/\nb'<=b.size/\0 < na'/\1 < nb'/\na' + nb' + t'<=na + nb)
   (Q:=fun c st'=>gG st st'/\((∃ r,c.1=some r/\Res lt a b r)\/∃ na' nb' out ac bc,c=(none,na',nb',out,ac,bc)/\MH lt a b out na' nb'/\na'<=a.size/\nb'<=b.size/\0 < na'/\1 < nb'/\na' + nb' + 1<=na + nb)) ?_ ?_ ⟨k1,_,_,_,_,_,rfl,m,ba,bb,hna,hnb,by lia⟩) ?_)
  ·rintro t' c st2 _ ht' ⟨k2,na',nb',out,ac,bc,rfl,m,ba,bb,hna,hnb,hm'⟩
   try dsimp only
   refine wpS_bind (aZ (by lia) (wpS_bind (aZ (by lia) (wpS_bind (h.ask (k2.k.trans hk) (pb _ (by lia)) (pa _ (by lia)) ?_)))))
   try dsimp only
   cases e:lt (X b (nb' - 1)) (X a (na' - 1)) with
   | true=>
    rw[if_pos rfl];refine wpS_bind (aZ (by lia) ?_)
    try dsimp only
    have m1:=m.pA sa rf hna ba fun y hy=>by
     obtain⟨i,h1,h2,rfl⟩:=mn hy;exact h.tr _ _ _ (sb.at rf (show i<=nb' - 1 by lia) (by lia)) (h.asym _ _ e)
    by_cases z:na' - 1=0
    ·rw[if_pos (by simpa using z)];exact wpS_pure ⟨k2,.inl ⟨_,rfl,m1.done sa sb (.inl z)⟩⟩
    ·rw[if_neg (by simpa using z)];split
     ·exact wpS_pure ⟨k2,.inr ⟨_,_,_,_,_,rfl,m1,by lia,bb,by lia,hnb,by lia⟩⟩
     ·exact wpS_pure ⟨k2,_,_,_,_,_,rfl,m1,by lia,bb,by lia,hnb,by lia⟩
   | false=>
    rw[if_neg (by decide)];refine wpS_bind (aZ (by lia) ?_)
    try dsimp only
    have m1:=m.pB sb rf (by lia) bb fun y hy=>by
     obtain⟨i,h1,h2,rfl⟩:=mn hy;exact h.tr _ _ _ (sa.at rf (show i<=na' - 1 by lia) (by lia)) e
    by_cases z:nb' - 1=1
    ·rw[if_pos (by simpa using z)];exact wpS_pure ⟨k2,.inl ⟨_,rfl,fst z m1⟩⟩
    ·rw[if_neg (by simpa using z)];split
     ·exact wpS_pure ⟨k2,.inr ⟨_,_,_,_,_,rfl,m1,ba,by lia,hna,by lia,by lia⟩⟩
     ·exact wpS_pure ⟨k2,_,_,_,_,_,rfl,m1,ba,by lia,hna,by lia,by lia⟩
  ·rintro c st2 ⟨k2,na',nb',out,ac,bc,rfl,m,ba,bb,hna,hnb,hm'⟩;exact⟨k2,.inr ⟨_,_,_,_,_,rfl,m,ba,bb,hna,hnb,by lia⟩⟩
  ·rintro c st2 ⟨k2,⟨r,e,res⟩ | ⟨na',nb',out,ac,bc,rfl,m,ba,bb,hna,hnb,hm'⟩⟩
   ·obtain⟨c1,c2⟩:=c;cases e;exact wpS_pure ⟨k2,_,rfl,res⟩
   extract_lets u0 na2 u1 nb2 u2 out2 u3 ac2 bc2 bk2
   dsimp -zeta -zetaHave only[u0,na2,u1,nb2,u2,out2,u3,ac2,bc2,bk2];refine wpS_bind (jf ?_);refine wpS_bind (wpS_mono (wpS_forRange (I:=fun t' c st'=>gG st st'/\∃ na'' nb'' out g ac bc,c=(none,na'',nb'',out,g,ac,bc)/\MH lt a b out na'' nb''/\na''<=a.size/\nb''<=b.size/\0 < na''/\1 < nb''/\na'' + nb'' + 1<=na + nb)
    (Q:=fun c st'=>gG st st'/\((∃ r,c.1=some r/\Res lt a b r)\/∃ na'' nb'' out g ac bc,c=(none,na'',nb'',out,g,ac,bc)/\MH lt a b out na'' nb''/\na''<=a.size/\nb''<=b.size/\0 < na''/\1 < nb''/\na'' + nb'' + 1<=na + nb)) ?_ ?_ ⟨k2,_,_,_,_,_,_,rfl,m,ba,bb,hna,hnb,hm'⟩) ?_)
   ·rintro t' c st3 _ ht' ⟨k3,na',nb',out,g',ac,bc,rfl,m,ba,bb,hna,hnb,hm'⟩
    extract_lets v0 na3 v1 nb3 v2 out3 v3 g3 v4 ac3 bc3 nb4 jp g4
    refine jpI (v:=jp ⟨⟩) fun g2=>?_;dsimp -zeta -zetaHave only[jp,v0,na3,v1,nb3,v2,out3,v3,ac3,bc3,v4,nb4];refine wpS_bind (wpS_modify ?_);refine wpS_bind (aZ (by lia) (wpS_bind (l7 h (k3.k.trans hk) (pb _ (by lia)) pa (by lia) (by lia) (sa.DW h) fun l pk=>?_)));dsimp -zeta -zetaHave only
    extract_lets c1 c2 jp2 o4 n4
    have kl:=pk.le;have p1:∀ i,i < l->lt (X b (nb' - 1)) (X a i)=false:=fun i hi=>by have:=pk.lo i hi;simpa [bey] using this
    have p2:∀ i,l<=i->i < na'->lt (X b (nb' - 1)) (X a i)=true:=fun i h1 h2=>by have:=pk.hi i h1 h2;simpa [bey] using this
    have m1:=m.chA sa rf ba (na' - l) l (by lia) fun i h1 h2 y hy=>by
     obtain⟨j,h3,h4,rfl⟩:=mn hy;exact h.tr _ _ _ (sb.at rf (show j<=nb' - 1 by lia) (by lia)) (h.asym _ _ (p2 i h1 h2))
    refine jpR jp2 (fun n o=>n=l/\0 < l/\MH lt a b o l nb') ?_ fun tl=>?_
    ·rintro n o1 ⟨rfl,lp,m1⟩;dsimp -zeta -zetaHave only[jp2];refine wpS_bind (aZ (by lia) ?_)
     extract_lets o5
     have m2:=m1.pB sb rf (by lia) bb fun y hy=>by
      obtain⟨j,h1,h2,rfl⟩:=mn hy;exact p1 j h1
     by_cases z3:nb' - 1=1
     ·rw[if_pos (by simpa using z3)];exact wpS_pure ⟨k3.gal _,.inl ⟨_,rfl,fst z3 m2⟩⟩
     rw[if_neg (by simpa using z3)];have bb1:nb' - 1<=b.size:=by lia
     have hn1:1 < nb' - 1:=by lia
     have hm1:n + (nb' - 1) + 1<=na + nb:=by lia
     refine wpS_bind (aZ (by lia) (wpS_bind (l7 h (k3.k.trans hk) (pa _ (by lia)) pb (by lia) (by lia) (sb.DX h) fun l1 pk1=>?_)));dsimp -zeta -zetaHave only
     extract_lets c3 c4 jp3 o6 n6
     have kl1:=pk1.le;have q1:∀ i,i < l1->lt (X b i) (X a (n - 1))=true:=fun i hi=>by have:=pk1.lo i hi;simpa [bey] using this
     have q2:∀ i,l1<=i->i < nb' - 1->lt (X b i) (X a (n - 1))=false:=fun i h1 h2=>by have:=pk1.hi i h1 h2;simpa [bey] using this
     have m3:=m2.chB sb rf bb1 (nb' - 1 - l1) l1 (by lia) fun i h1 h2 y hy=>by
      obtain⟨j,h3,h4,rfl⟩:=mn hy;exact h.tr _ _ _ (sa.at rf (show j<=n - 1 by lia) (by lia)) (q2 i h1 h2)
     refine jpR jp3 (fun k o=>k=l1/\1 < l1/\MH lt a b o n l1) ?_ fun tl3=>?_
     ·rintro k o3 ⟨rfl,hn2,m3⟩;dsimp -zeta -zetaHave only[jp3]
      try extract_lets n7
      refine wpS_bind (aZ (by lia) ?_)
      extract_lets o7
      have m4:=m3.pA sa rf (by lia) (by lia) fun y hy=>by
       obtain⟨j,h1,h2,rfl⟩:=mn hy;exact h.asym _ _ (q1 j h1)
      by_cases z7:n - 1=0
      ·rw[if_pos (by simpa using z7)];exact wpS_pure ⟨k3.gal _,.inl ⟨_,rfl,m4.done sa sb (.inl z7)⟩⟩
      rw[if_neg (by simpa using z7)];split
      ·exact wpS_pure ⟨k3.gal _,.inr ⟨_,_,_,_,_,_,rfl,m4,by lia,by lia,by lia,hn2,by lia⟩⟩
      ·exact wpS_pure ⟨k3.gal _,_,_,_,_,_,_,rfl,m4,by lia,by lia,by lia,hn2,by lia⟩
     ·by_cases kz1:nb' - 1 - l1 > 0
      ·rw[if_pos kz1];by_cases z5:l1=1
       ·rw[if_pos (by simpa using z5)];exact wpS_pure ⟨k3.gal _,.inl ⟨_,rfl,fst z5 m3⟩⟩
       rw[if_neg (by simpa using z5)];by_cases z6:l1=0
       ·rw[if_pos (by simpa using z6)];exact wpS_pure ⟨k3.gal _,.inl ⟨_,rfl,m3.done sa sb (.inr z6)⟩⟩
       rw[if_neg (by simpa using z6)];exact tl3 _ _ ⟨rfl,by lia,m3⟩
      ·rw[if_neg kz1];have hk1:l1=nb' - 1:=by lia
       exact tl3 _ _ ⟨hk1.symm,by lia,by rw[hk1];exact m2⟩
    ·by_cases kz:na' - l > 0
     ·rw[if_pos kz];by_cases z:l=0
      ·rw[if_pos (by simpa using z)];exact wpS_pure ⟨k3.gal _,.inl ⟨_,rfl,m1.done sa sb (.inl z)⟩⟩
      rw[if_neg (by simpa using z)];exact tl _ _ ⟨rfl,by lia,m1⟩
     ·rw[if_neg kz];have hk0:l=na':=by lia
      exact tl _ _ ⟨hk0.symm,by lia,by rw[hk0];exact m⟩
   ·rintro c st3 hc;exact⟨hc.1,.inr hc.2⟩
   ·rintro c st3 ⟨k3,⟨r,e,res⟩ | ⟨na',nb',out,g',ac,bc,rfl,m,ba,bb,hna,hnb,hm'⟩⟩
    ·obtain⟨c1,c2⟩:=c;cases e;exact wpS_pure ⟨k3,_,rfl,res⟩
    ·exact wpS_bind (wpS_modify (wpS_pure ⟨k3.gal _,_,_,_,_,rfl,m,ba,bb,hna,hnb,by (try dsimp only);lia⟩))
 ·rintro c st1 ⟨k1,na,nb,out,g,rfl,m,ba,bb,hna,hnb,hm⟩;lia
 ·rintro c st1 ⟨k1,r,e,res⟩;obtain⟨c1,c2⟩:=c;cases e;exact wpS_pure (q _ _ k1 res)
end
section
variable {prog:Program} {w:World} {A:Around} {E:VS} {s:Shared} {κ:SortKind} {P:Keyed->Prop} {lt:Keyed->Keyed->Bool} {st st':SortSt} {a b:Array Keyed} {l L R L2:List Keyed} {i j k n:Nat}
noncomputable abbrev Y (l:List Keyed) (i:Nat):Keyed:=l.getD i (.none,.none)
theorem X_Y:X a i=Y a.toList i:=by
 unfold X Y;rw[Array.getD_eq_getD_getElem?,List.getD_eq_getElem?_getD,Array.getElem?_toList]
theorem o8 (h:i < l.length):l[i]?=some (Y l i):=by
 unfold Y;rw[List.getD_eq_getElem?_getD,gE0 h];rfl
theorem xI (e:a.toList=L++(R++L2)) (h:i < R.length):X a (L.length + i)=Y R i:=by
 rw[X_Y,e];unfold Y;rw[List.getD_eq_getElem?_getD,List.getD_eq_getElem?_getD,List.getElem?_append_right (by lia),Nat.add_sub_cancel_left,List.getElem?_append_left h]
theorem sC:Y (l.drop k) i=Y l (k + i):=by
 unfold Y;rw[List.getD_eq_getElem?_getD,List.getD_eq_getElem?_getD,List.getElem?_drop]
theorem vZ (h:i < k):Y (l.take k) i=Y l i:=by
 unfold Y;rw[List.getD_eq_getElem?_getD,List.getD_eq_getElem?_getD,List.getElem?_take_of_lt h]
theorem tP {x:Keyed} (h:x∈l):∃ i,i < l.length/\x=Y l i:=by
 obtain⟨i,hi⟩:=List.getElem?_of_mem h;have lt:=(gS0 hi).1;rw[o8 lt] at hi;cases hi;exact⟨i,lt,rfl⟩
theorem Ak {x:Keyed} (h:x∈l.take k):∃ i,i < k/\i < l.length/\x=Y l i:=by
 obtain⟨i,h1,rfl⟩:=tP h;rw[List.length_take] at h1;exact⟨i,by lia,by lia,vZ (by lia)⟩
theorem Al {x:Keyed} (h:x∈l.drop k):∃ i,k<=i/\i < l.length/\x=Y l i:=by
 obtain⟨i,h1,rfl⟩:=tP h;rw[List.length_drop] at h1;exact⟨k + i,by lia,by lia,sC⟩
theorem Srt.Yat (h:Srt lt l) (rf:∀ x,lt x x=false) (hij:i<=j) (hj:j < l.length):lt (Y l j) (Y l i)=false:=by
 by_cases e:i=j
 ·subst e;exact rf _
 ·have h1:=o8 hj;have h2:=o8 (l:=l) (i:=i) (by lia);have:=List.pairwise_iff_getElem.mp h i j (by lia) hj (by lia);rw[gE0 hj] at h1;rw[gE0 (by lia)] at h2;rw[<- Option.some.inj h1,<- Option.some.inj h2];exact this
theorem we {sa:Nat}:∀ (l:List Keyed) (j:Nat) (xs:Array Keyed),sa + j + l.length<=xs.size->((l.zipIdx j).foldl (fun a (x:Keyed×Nat)=>a.setIfInBounds (sa + x.2) x.1) xs).toList=xs.toList.take (sa + j)++(l++xs.toList.drop (sa + j + l.length))
 | [],j,xs,h=>by simp
 | x::l,j,xs,h=>by
  rw[List.length_cons] at h;rw[List.zipIdx_cons,List.foldl_cons,we l (j + 1) _ (by rw[Array.size_setIfInBounds];lia),Array.toList_setIfInBounds,List.length_cons];have hl:sa + j < xs.toList.length:=by simp;lia
  rw[show sa + (j + 1)=sa + j + 1 by lia,List.take_succ,List.getElem?_set_self hl,List.take_set_of_le (Nat.le_refl _),List.drop_set_of_lt (by lia),show sa + j + 1 + l.length=sa + j + (l.length + 1) by lia];simp
theorem rT (h:R≠[]):0 < R.length:=List.length_pos_iff.mpr h
theorem HB (h:Ask prog w A s κ P lt) {base:Nat} {key:Keyed} (sg:∀ i j,i<=j->j < n->lt (X a (base + j)) (X a (base + i))=false):∀ i j,i<=j->j < n->bey lt false key a base j=true->bey lt false key a base i=true:=fun i j h1 h2 h3=>by
 have h4:lt key (X a (base + j))=false:=by simpa [bey] using h3
 have:=h.tr _ _ _ (sg i j h1 h2) h4;simpa [bey] using this
theorem HC (h:Ask prog w A s κ P lt) {base:Nat} {key:Keyed} (sg:∀ i j,i<=j->j < n->lt (X a (base + j)) (X a (base + i))=false):∀ i j,i<=j->j < n->bey lt true key a base j=true->bey lt true key a base i=true:=fun i j h1 h2 h3=>by
 have h4:lt (X a (base + j)) key=true:=by simpa [bey] using h3
 show lt (X a (base + i)) key=true;cases e:lt (X a (base + i)) key with
 | true=>rfl
 | false=>rw[h.tr _ _ _ e (sg i j h1 h2)] at h4;cases h4
theorem FV (h:Ask prog w A s κ P lt) {i:Nat} {R1 R2:List Keyed} {p1 p2:Nat} {Q:Bool->SortSt->Prop} (hk:kindOf st=κ) (pa:All P (arrOf st)) (he:(arrOf st).toList=L++(R1++(R2++L2))) (s1:Srt lt R1) (s2:Srt lt R2) (n1:R1≠[]) (n2:R2≠[])
  (hp:(pendingOf st)[i]?=some (L.length,R1.length,p1)) (hp2:(pendingOf st)[i + 1]?=some (L.length + R1.length,R2.length,p2)) (hf:failedOf st=none)
  (q:∀ M st',M.Perm (R1++R2)->Srt lt M->kindOf st'=kindOf st->failedOf st'=none->(arrOf st').toList=L++(M++L2)->pendingOf st'=((pendingOf st).setIfInBounds i (L.length,R1.length + R2.length,p1)).eraseIdxIfInBounds (i + 1)->Q true st'):wpS (model prog w) A E s (mergeAt' i) Q st:=by
 have rf:=h.rf;have c1:=rT n1;have c2:=rT n2;have he2:(arrOf st).toList=(L++R1)++(R2++L2):=by rw[he,List.append_assoc]
 have sz:(arrOf st).size=L.length + R1.length + R2.length + L2.length:=by
  rw[<- Array.length_toList,he];simp;lia
 have X1:∀ j,j < R1.length->X (arrOf st) (L.length + j)=Y R1 j:=fun j hj=>xI he hj;have X2:∀ j,j < R2.length->X (arrOf st) (L.length + R1.length + j)=Y R2 j:=fun j hj=>by
  have:=xI (i:=j) he2 hj;rw[List.length_append] at this;exact this
 have plain:(∀ x∈R1,∀ y∈R2,lt y x=false)->Q true (SortSt.mk' (kindOf st) (arrOf st) (((pendingOf st).setIfInBounds i (L.length,R1.length + R2.length,p1)).eraseIdxIfInBounds (i + 1)) (gallopOf st) (failedOf st)):=fun hb=>
  q (R1++R2) _ (List.Perm.refl _) (List.pairwise_append.mpr ⟨s1,s2,hb⟩) rfl hf (by show (arrOf st).toList=_;rw[he,List.append_assoc]) rfl
 refine wpS_bind (wpS_get ?_);rw[hp,hp2];dsimp only;refine wpS_bind (show wpS (model prog w) A E s (set _) _ st from wpS_modify (f:=fun _=>_) ?_);have e2:X (arrOf st) (L.length + R1.length)=Y R2 0:=X2 0 c2;refine wpS_bind (aZ (a:=arrOf st) (by lia) (wpS_bind (l7 (a:=arrOf st) h hk (pa _ (by lia)) pa (by lia) c1 (HB h fun i j h1 h2=>by rw[X1 j h2,X1 i (by lia)];exact s1.Yat rf h1 h2) fun k pk=>?_)));dsimp only;have kl:=pk.le;have g1:∀ j,j < k->lt (Y R2 0) (Y R1 j)=false:=fun j hj=>by
  have:=pk.lo j hj;rw[bey,if_neg (by decide),X1 j (by lia),e2] at this;simpa using this
 have g2:∀ j,k<=j->j < R1.length->lt (Y R2 0) (Y R1 j)=true:=fun j h1 h2=>by
  have:=pk.hi j h1 h2;rw[bey,if_neg (by decide),X1 j h2,e2] at this;simpa using this
 have f1:∀ x∈R1.take k,∀ y∈R2,lt y x=false:=fun x hx y hy=>by
  obtain⟨i,h1,h2,rfl⟩:=Ak hx;obtain⟨j,h3,rfl⟩:=tP hy;exact h.tr _ _ _ (g1 i h1) (s2.Yat rf (Nat.zero_le _) h3)
 by_cases z1:R1.length - k=0
 ·rw[if_pos (by simpa using z1)];refine wpS_pure (plain ?_);rw[List.take_of_length_le (by lia)] at f1;exact f1
 rw[if_neg (by simpa using z1)];have e3:X (arrOf st) (L.length + k + (R1.length - k) - 1)=Y R1 (R1.length - 1):=by
  rw[show L.length + k + (R1.length - k) - 1=L.length + (R1.length - 1) by lia];exact X1 _ (by lia)
 refine wpS_bind (aZ (a:=arrOf st) (by lia) (wpS_bind (l7 (a:=arrOf st) h hk (pa _ (by lia)) pa (by lia) (by lia) (HC h fun i j h1 h2=>by rw[X2 j h2,X2 i (by lia)];exact s2.Yat rf h1 h2) fun n pn=>?_)));dsimp only;have nl:=pn.le;have g3:∀ j,j < n->lt (Y R2 j) (Y R1 (R1.length - 1))=true:=fun j hj=>by
  have:=pn.lo j hj;rw[bey,if_pos rfl,X2 j (by lia),e3] at this;exact this
 have g4:∀ j,n<=j->j < R2.length->lt (Y R2 j) (Y R1 (R1.length - 1))=false:=fun j h1 h2=>by
  have:=pn.hi j h1 h2;rw[bey,if_pos rfl,X2 j h2,e3] at this;exact this
 have f3:∀ x∈R1,∀ y∈R2.drop n,lt y x=false:=fun x hx y hy=>by
  obtain⟨i,h1,rfl⟩:=tP hx;obtain⟨j,h2,h3,rfl⟩:=Al hy;exact h.tr _ _ _ (s1.Yat rf (show i<=R1.length - 1 by lia) (by lia)) (g4 j h2 h3)
 by_cases z2:n=0
 ·rw[if_pos (by simpa using z2)];refine wpS_pure (plain ?_);rw[z2,List.drop_zero] at f3;exact f3
 rw[if_neg (by simpa using z2)];have ex:((arrOf st).extract (L.length + k) (L.length + R1.length)).toList=R1.drop k:=by
  rw[Array.toList_extract,List.extract_eq_drop_take,he,List.drop_append,List.drop_of_length_le (by lia),List.nil_append,List.drop_append_of_le_length (by lia)];rw[show L.length + k - L.length=k by lia,show L.length + R1.length - (L.length + k)=(R1.drop k).length by rw[List.length_drop];lia,List.take_left']
  rfl
 have ey:((arrOf st).extract (L.length + R1.length) (L.length + R1.length + n)).toList=R2.take n:=by
  rw[Array.toList_extract,List.extract_eq_drop_take,he2,<- List.length_append,List.drop_left',Nat.add_sub_cancel_left,List.take_append_of_le_length nl]
  rfl
 generalize hx:(arrOf st).extract (L.length + k) (L.length + R1.length)=x at ex;generalize hy:(arrOf st).extract (L.length + R1.length) (L.length + R1.length + n)=y at ey;have px:All P x:=fun j hj=>by
  rw[X_Y,ex,sC];have:j < (R1.drop k).length:=by rw[<- ex];simpa using hj
  rw[List.length_drop] at this;rw[<- X1 _ (by lia)];exact pa _ (by lia)
 have py:All P y:=fun j hj=>by
  have:j < (R2.take n).length:=by rw[<- ey];simpa using hj
  rw[List.length_take] at this;rw[X_Y,ey,vZ (by lia),<- X2 _ (by lia)];exact pa _ (by lia)
 have sx:Srt lt x.toList:=by rw[ex];exact List.Pairwise.sublist (List.drop_sublist _ _) s1
 have sy:Srt lt y.toList:=by rw[ey];exact List.Pairwise.sublist (List.take_sublist _ _) s2
 have zx:x.size=R1.length - k:=by rw[<- Array.length_toList,ex,List.length_drop]
 have zy:y.size=n:=by rw[<- Array.length_toList,ey,List.length_take];lia
 have hl:∀ u∈y.toList,lt (X x (x.size - 1)) u=false:=fun u hu=>by
  rw[ey] at hu;obtain⟨j,h1,h2,rfl⟩:=Ak hu;rw[X_Y,ex,sC,zx,show k + (R1.length - k - 1)=R1.length - 1 by lia];exact h.asym _ _ (g3 j h1)
 have hy0:X y 0=Y R2 0:=by rw[X_Y,ey,vZ (by lia)]
 have hx0:∀ u∈x.toList,lt u (X y 0)=false:=fun u hu=>by
  rw[ex] at hu;obtain⟨j,h1,h2,rfl⟩:=Al hu;rw[hy0];exact h.asym _ _ (g2 j h1 h2)
 have fin:∀ (r:Array Keyed) (st':SortSt),gG (SortSt.mk' (kindOf st) (arrOf st) (((pendingOf st).setIfInBounds i (L.length,R1.length + R2.length,p1)).eraseIdxIfInBounds (i + 1)) (gallopOf st) (failedOf st)) st'->Res lt x y r->
   Q true (SortSt.mk' (kindOf st') (r.toList.zipIdx.foldl (fun a (x:Keyed×Nat)=>a.setIfInBounds (L.length + k + x.2) x.1) (arrOf st')) (pendingOf st') (gallopOf st') (failedOf st')):=fun r st' kp res=>by
  obtain⟨rp,rs⟩:=res;rw[ex,ey] at rp;have rl:r.toList.length=R1.length - k + n:=by rw[rp.length_eq,List.length_append,List.length_drop,List.length_take];lia
  have ka:arrOf st'=arrOf st:=kp.a;refine q (R1.take k++(r.toList++R2.drop n)) _ ?_ ?_ kp.k (kp.f.trans hf) ?_ kp.p
  ·have:(R1.take k++((R1.drop k++R2.take n)++R2.drop n)).Perm (R1++R2):=by
    rw[List.append_assoc (R1.drop k),List.take_append_drop,<- List.append_assoc,List.take_append_drop]
   exact(List.Perm.append_left _ (List.Perm.append_right _ rp)).trans this
  ·refine List.pairwise_append.mpr ⟨List.Pairwise.sublist (List.take_sublist _ _) s1,List.pairwise_append.mpr ⟨rs,List.Pairwise.sublist (List.drop_sublist _ _) s2,fun u hu v hv=>?_⟩,fun u hu v hv=>?_⟩
   ·rcases List.mem_append.mp (rp.mem_iff.mp hu) with hu | hu
    ·exact f3 u (List.mem_of_mem_drop hu) v hv
    ·have:=s2;rw[<- List.take_append_drop n R2] at this;exact(List.pairwise_append.mp this).2.2 u hu v hv
   ·rcases List.mem_append.mp hv with hv | hv
    ·rcases List.mem_append.mp (rp.mem_iff.mp hv) with hv | hv
     ·have:=s1;rw[<- List.take_append_drop k R1] at this;exact(List.pairwise_append.mp this).2.2 u hu v hv
     ·exact f1 u hu v (List.mem_of_mem_take hv)
    ·exact f1 u hu v (List.mem_of_mem_drop hv)
  ·show (List.foldl _ (arrOf st') r.toList.zipIdx).toList=_;rw[we r.toList 0 (arrOf st') (by rw[ka,rl,sz];lia),ka,rl,Nat.add_zero];have t1:(arrOf st).toList.take (L.length + k)=L++R1.take k:=by
    rw[he,List.take_append,List.take_of_length_le (by lia),show L.length + k - L.length=k by lia,List.take_append_of_le_length kl]
   have t2:(arrOf st).toList.drop (L.length + k + (R1.length - k + n))=R2.drop n++L2:=by
    rw[he2,show L.length + k + (R1.length - k + n)=(L++R1).length + n by rw[List.length_append];lia,List.drop_append,List.drop_of_length_le (by lia),List.nil_append,Nat.add_sub_cancel_left,List.drop_append_of_le_length nl]
   rw[t1,t2];simp only[List.append_assoc]
 by_cases z3:R1.length - k<=n
 ·rw[if_pos z3];refine wpS_bind (FT h hk px py sx sy (by lia) (by lia) ?_ hl fun r st' kp res=>?_)
  ·rw[hy0,X_Y,ex,sC];exact g2 _ (by lia) (by lia)
  ·refine wpS_bind (wpS_modify (wpS_bind (wpS_get (wpS_pure ?_))));have hb:(failedOf st').isNone=true:=by rw[show failedOf st'=none from kp.f.trans hf];rfl
   show Q (failedOf st').isNone _;rw[hb];exact fin r st' kp res
 ·rw[if_neg z3];refine wpS_bind (FU h hk px py sx sy (by lia) (by lia) hx0 hl fun r st' kp res=>?_);refine wpS_bind (wpS_modify (wpS_bind (wpS_get (wpS_pure ?_))));have hb:(failedOf st').isNone=true:=by rw[show failedOf st'=none from kp.f.trans hf];rfl
  show Q (failedOf st').isNone _;rw[hb];exact fin r st' kp res
end
noncomputable abbrev lr (rk:Keyed->Int):Keyed->Keyed->Bool:=fun x y=>decide (rk x < rk y)
section
variable {prog:Program} {w:World} {A:Around} {E:VS} {s:Shared} {κ:SortKind} {P:Keyed->Prop} {rk:Keyed->Int} {st st' st2:SortSt} {a b:Array Keyed} {lo n i j k:Nat}
noncomputable def Kr (rk:Keyed->Int) (a:Array Keyed) (i:Nat):Int:=rk (X a i)
def Up (rk:Keyed->Int) (a:Array Keyed) (lo n:Nat):Prop:=∀ i j,i<=j->j < n->Kr rk a (lo + i)<=Kr rk a (lo + j)
def Dn (rk:Keyed->Int) (a:Array Keyed) (lo n:Nat):Prop:=∀ i j,i<=j->j < n->Kr rk a (lo + j)<=Kr rk a (lo + i)
structure Chg (lo:Nat) (st st':SortSt):Prop where
 k:kindOf st'=kindOf st
 p:pendingOf st'=pendingOf st
 f:failedOf st'=failedOf st
 a:(arrOf st').toList.Perm (arrOf st).toList
 x:∀ k,k < lo->X (arrOf st') k=X (arrOf st) k
theorem Chg.refl:Chg lo st st:=⟨rfl,rfl,rfl,List.Perm.refl _,fun _ _=>rfl⟩
theorem Chg.size (h:Chg lo st st'):(arrOf st').size=(arrOf st).size:=by
 rw[<- Array.length_toList,<- Array.length_toList];exact h.a.length_eq
theorem lF:All P a↔∀ x∈a.toList,P x:=by
 constructor
 ·intro h x hx;obtain⟨i,hi,rfl⟩:=tP hx;rw[<- X_Y];exact h i (by simpa using hi)
 ·intro h i hi;refine h _ ?_;have:=uE hi;rw[<- Array.getElem?_toList] at this;exact List.mem_of_getElem? this
theorem Chg.all (h:Chg lo st st') (p:All P (arrOf st)):All P (arrOf st'):=lF.mpr fun x hx=>lF.mp p x (h.a.mem_iff.mp hx)
theorem uD:X a i=(a[i]?).getD (.none,.none):=by
 unfold X;rw[Array.getD_eq_getD_getElem?]
theorem xJ (hj:j<=a.size):X (mirror a i j ((j - i) / 2)) k=if i<=k/\k < j then X a (i + j - 1 - k) else X a k:=by
 rw[uD,getElem?_mirror_all hj];split <;> rw[uD]
theorem Chg.rev (h:Chg lo st st') (hi:lo<=i) (hj:j<=(arrOf st').size):Chg lo st (setArr st' (mirror (arrOf st') i j ((j - i) / 2))):=
 ⟨h.k,h.p,h.f,((mirror_perm _ _ _ _).toList).trans h.a,fun k hk=>by
  show X (mirror (arrOf st') i j ((j - i) / 2)) k=_;rw[xJ hj,if_neg (by lia)];exact h.x k hk⟩
theorem kC (h:Ask prog w A s κ P (lr rk)) {Q:Option Bool->SortSt->Prop} (hk:kindOf st=κ) (pa:All P (arrOf st)) (hi:i < (arrOf st).size) (hj:j < (arrOf st).size) (q:Q (some (decide (Kr rk (arrOf st) i < Kr rk (arrOf st) j))) st):wpS (model prog w) A E s (ltAt' i j) Q st:=by
 rw[ltAt'_eq];exact wpS_bind (wpS_get (wpS_bind (aZ hi (wpS_bind (aZ hj (h.ask hk (pa i hi) (pa j hj) q))))))
theorem Up.snoc (h:Up rk a lo n) (hn:1<=n) (e:Kr rk a (lo + n - 1)<=Kr rk a (lo + n)):Up rk a lo (n + 1):=fun i j hij hj=>by
 by_cases z:j < n
 ·exact h i j hij z
 ·have hj':j=n:=by lia
  subst hj';by_cases z2:i=j
  ·subst z2;exact Int.le_refl _
  ·have:=h i (j - 1) (by lia) (by lia);rw[show lo + (j - 1)=lo + j - 1 by lia] at this;lia
theorem Dn.snoc (h:Dn rk a lo n) (hn:1<=n) (e:Kr rk a (lo + n)<=Kr rk a (lo + n - 1)):Dn rk a lo (n + 1):=fun i j hij hj=>by
 by_cases z:j < n
 ·exact h i j hij z
 ·have hj':j=n:=by lia
  subst hj';by_cases z2:i=j
  ·subst z2;exact Int.le_refl _
  ·have:=h i (j - 1) (by lia) (by lia);rw[show lo + (j - 1)=lo + j - 1 by lia] at this;lia
theorem BB (h:Ask prog w A s κ P (lr rk)) {nrem m:Nat} {R:Option (Option Nat)×Nat->SortSt->Prop} {body:Nat->Option (Option Nat)×Nat->StateT SortSt Sem (ForInStep (Option (Option Nat)×Nat))} (hk:kindOf st=κ) (pa:All P (arrOf st)) (hs:lo + nrem<=(arrOf st).size) (h1:1<=m) (hm:m<=nrem) (up:Up rk (arrOf st) lo m)
  (hb:∀ x n,∃ g:Option Bool->StateT SortSt Sem (ForInStep (Option (Option Nat)×Nat)),body x (none,n)=(ltAt' (lo + n) (lo + n - 1) >>= g)/\g (some true)=pure (.done (none,n))/\g (some false)=pure (.yield (none,n + 1)))
  (r:∀ n,m<=n->n<=nrem->Up rk (arrOf st) lo n->(n=nrem\/Kr rk (arrOf st) (lo + n) < Kr rk (arrOf st) (lo + n - 1))->R (none,n) st):wpS (model prog w) A E s (forIn [m:nrem] (none,m) body) R st:=by
 refine wpS_forRange (I:=fun x c st'=>st'=st/\c=(none,x)/\m<=x/\Up rk (arrOf st) lo x) ?_ ?_ ⟨rfl,rfl,Nat.le_refl _,up⟩
 ·rintro x c st' hx hx2 ⟨rfl,rfl,hmx,up⟩;obtain⟨g,e,g1,g2⟩:=hb x x;rw[e];refine wpS_bind (kC h hk pa (by lia) (by lia) ?_);by_cases z:Kr rk (arrOf st') (lo + x) < Kr rk (arrOf st') (lo + x - 1)
  ·rw[decide_eq_true z,g1];exact wpS_pure (r x hmx (by lia) up (.inr z))
  ·rw[decide_eq_false z,g2];exact wpS_pure ⟨rfl,rfl,by lia,up.snoc (by lia) (by lia)⟩
 ·rintro c st' ⟨rfl,rfl,hmx,up⟩;rw[show max m nrem=nrem by lia] at hmx up ⊢;exact r nrem hm (Nat.le_refl _) up (.inl rfl)
theorem wa (hj:j<=a.size) (he:∀ k,i<=k->k < j->Kr rk a k=Kr rk a (j - 1)) (k:Nat):Kr rk (mirror a i j ((j - i) / 2)) k=Kr rk a k:=by
 unfold Kr at he ⊢;rw[xJ hj];split
 ·rw[he _ (by lia) (by lia),he k (by lia) (by lia)]
 ·rfl
theorem Dn.same (h:Dn rk a lo n) (e:∀ k,Kr rk b k=Kr rk a k):Dn rk b lo n:=fun i j h1 h2=>by rw[e,e];exact h i j h1 h2
theorem GV (h:Ask prog w A s κ P (lr rk)) {nrem:Nat} {Q:Option Nat->SortSt->Prop} (hk:kindOf st=κ) (pa:All P (arrOf st)) (h1:1<=nrem) (hs:lo + nrem<=(arrOf st).size)
  (q:∀ n st',Chg lo st st'->1<=n->n<=nrem->Up rk (arrOf st') lo n->Q (some n) st'):wpS (model prog w) A E s (countRun' lo nrem) Q st:=by
 have tail:∀ (n:Nat) (st':SortSt) {m:StateT SortSt Sem (Option Nat)} {body:Nat->Option (Option Nat)×Nat->StateT SortSt Sem (ForInStep (Option (Option Nat)×Nat))} {f:Option (Option Nat)×Nat->StateT SortSt Sem (Option Nat)},Chg lo st st'->1<=n->n<=nrem->Dn rk (arrOf st') lo n->
   m=(reverseSlice' lo (lo + n) >>= fun _=>forIn [n:nrem] (none,n) body >>= f)->(∀ k,f (none,k)=pure (some k))->
   (∀ x n,∃ g:Option Bool->StateT SortSt Sem (ForInStep (Option (Option Nat)×Nat)),body x (none,n)=(ltAt' (lo + n) (lo + n - 1) >>= g)/\g (some true)=pure (.done (none,n))/\g (some false)=pure (.yield (none,n + 1)))->wpS (model prog w) A E s m Q st':=by
  intro n st' m body f c hn hn2 dn e hf hb;subst e;have sz:=c.size;have c2:=c.rev (i:=lo) (j:=lo + n) (Nat.le_refl _) (by lia);rw[reverseSlice'_eq];refine wpS_bind (wpS_modify (wpS_bind (BB h (c2.k.trans hk) (c2.all pa) (by rw[c2.size];lia) hn hn2 ?_ hb fun k h3 h4 up _=>?_)))
  ·intro i j hij hj;show Kr rk (mirror (arrOf st') lo (lo + n) ((lo + n - lo) / 2)) _<=Kr rk (mirror (arrOf st') lo (lo + n) ((lo + n - lo) / 2)) _;unfold Kr;rw[xJ (by lia),xJ (by lia),if_pos (by lia),if_pos (by lia)];have:=dn (n - 1 - j) (n - 1 - i) (by lia) (by lia);rw[show lo + (lo + n) - 1 - (lo + i)=lo + (n - 1 - i) by lia,show lo + (lo + n) - 1 - (lo + j)=lo + (n - 1 - j) by lia];exact this
  ·rw[hf];exact wpS_pure (q k _ c2 (by lia) h4 up)
 refine wpS_bind (BB h hk pa hs (Nat.le_refl 1) h1 (fun i j hij hj=>by cases (show i=j by lia);exact Int.le_refl _) (fun x n=>⟨_,rfl,rfl,rfl⟩) fun n hn1 hn2 up hor=>?_);dsimp only;by_cases z:n=nrem
 ·rw[if_pos (by simpa using z)];exact wpS_pure (q n st .refl hn1 hn2 up)
 rw[if_neg (by simpa using z)];have hlt:=hor.resolve_left z;by_cases hn:n > 1
 case' pos=>
  rw[if_pos hn];refine wpS_bind (kC h hk pa (by lia) (by lia) ?_);by_cases ro:Kr rk (arrOf st) lo < Kr rk (arrOf st) (lo + n - 1)
  ·rw[decide_eq_true ro];exact wpS_pure (q n st .refl hn1 hn2 up)
  rw[decide_eq_false ro];have he:∀ k,lo<=k->k < lo + n->Kr rk (arrOf st) k=Kr rk (arrOf st) (lo + n - 1):=fun k h2 h3=>by
   have a1:=up 0 (k - lo) (by lia) (by lia);have a2:=up (k - lo) (n - 1) (by lia) (by lia);rw[Nat.add_zero] at a1;rw[show lo + (k - lo)=k by lia] at a1 a2;rw[show lo + (n - 1)=lo + n - 1 by lia] at a2;lia
  have c1:Chg lo st (setArr st (mirror (arrOf st) lo (lo + n) ((lo + n - lo) / 2))):=Chg.rev .refl (Nat.le_refl _) (by lia);have dn:Dn rk (arrOf (setArr st (mirror (arrOf st) lo (lo + n) ((lo + n - lo) / 2)))) lo (n + 1):=by
   have ks:=wa (rk:=rk) (a:=arrOf st) (i:=lo) (j:=lo + n) (by lia) he;refine Dn.same (a:=arrOf st) ?_ ks;refine Dn.snoc (fun i j hij hj=>?_) (by lia) (by lia);rw[he _ (by lia) (by lia),he (lo + i) (by lia) (by lia)];exact Int.le_refl _
  refine wpS_bind (wpS_modify ?_);show wpS _ _ _ _ _ _ (setArr st (mirror (arrOf st) lo (lo + n) ((lo + n - lo) / 2)));generalize setArr st (mirror (arrOf st) lo (lo + n) ((lo + n - lo) / 2))=st1 at c1 dn ⊢
 case' neg=>
  rw[if_neg hn];have e1:n=1:=by lia
  have c0:Chg lo st st:=.refl;have d0:Dn rk (arrOf st) lo (n + 1):=Dn.snoc (fun i j hij hj=>by cases (show i=j by lia);exact Int.le_refl _) (by lia) (by lia);obtain⟨st1,e2,c1,dn⟩:∃ x,x=st/\Chg lo st x/\Dn rk (arrOf x) lo (n + 1):=⟨st,rfl,c0,d0⟩;rw[<- e2]
 all_goals
  refine wpS_bind (jf ?_)
  try dsimp only
  refine wpS_bind (wpS_mono (wpS_forRange (I:=fun x c st'=>∃ neq,c=(none,x,neq)/\Chg lo st st'/\Dn rk (arrOf st') lo x/\neq + 1<=x/\∀ k,lo + x - (neq + 1)<=k->k < lo + x->Kr rk (arrOf st') k=Kr rk (arrOf st') (lo + x - 1))
   (Q:=fun c st'=>∃ m neq,c=(none,m,neq)/\1<=m/\m<=nrem/\Chg lo st st'/\Dn rk (arrOf st') lo m/\neq + 1<=m/\∀ k,lo + m - (neq + 1)<=k->k < lo + m->Kr rk (arrOf st') k=Kr rk (arrOf st') (lo + m - 1)) ?_ ?_ ⟨0,rfl,c1,dn,by lia,fun k h2 h3=>by congr 1;lia⟩) ?_)
  ·rintro x c st' hx hx2 ⟨neq,rfl,c2,dn,hq,he⟩;have sz:=c2.size;dsimp only;refine wpS_bind (kC h (c2.k.trans hk) (c2.all pa) (by lia) (by lia) ?_);by_cases zs:Kr rk (arrOf st') (lo + x) < Kr rk (arrOf st') (lo + x - 1)
   ·rw[decide_eq_true zs];dsimp only;rw[if_pos rfl];by_cases zq:neq > 0
    ·rw[if_pos zq];refine wpS_bind (wpS_modify (wpS_pure ?_));have ks:=wa (rk:=rk) (a:=arrOf st') (i:=lo + x - (neq + 1)) (j:=lo + x) (by lia) he;exact⟨0,rfl,c2.rev (by lia) (by lia),Dn.same (dn.snoc (by lia) (by lia)) ks,by lia,fun k h2 h3=>by congr 1;lia⟩
    ·rw[if_neg zq];exact wpS_pure ⟨0,rfl,c2,dn.snoc (by lia) (by lia),by lia,fun k h2 h3=>by congr 1;lia⟩
   ·rw[decide_eq_false zs];dsimp only;rw[if_neg (by decide)];refine wpS_bind (kC h (c2.k.trans hk) (c2.all pa) (by lia) (by lia) ?_);by_cases zl:Kr rk (arrOf st') (lo + x - 1) < Kr rk (arrOf st') (lo + x)
    ·rw[decide_eq_true zl];exact wpS_pure ⟨x,neq,rfl,by lia,by lia,c2,dn,hq,he⟩
    ·rw[decide_eq_false zl];refine wpS_pure ⟨neq + 1,rfl,c2,dn.snoc (by lia) (by lia),by lia,fun k h2 h3=>?_⟩;rw[show lo + (x + 1) - 1=lo + x by lia];by_cases zk:k=lo + x
     ·rw[zk]
     ·rw[he k (by lia) (by lia)];lia
  ·rintro c st' ⟨neq,rfl,c2,dn,hq,he⟩;rw[show max (n + 1) nrem=nrem by lia] at dn hq he ⊢;exact⟨nrem,neq,rfl,by lia,Nat.le_refl _,c2,dn,hq,he⟩
  ·rintro c st' ⟨m,neq,rfl,hm1,hm2,c2,dn,hq,he⟩;have sz:=c2.size;dsimp only;by_cases zq:neq > 0
   ·rw[if_pos zq];have ks:=wa (rk:=rk) (a:=arrOf st') (i:=lo + m - (neq + 1)) (j:=lo + m) (by lia) he;refine wpS_bind (wpS_modify ?_);exact tail m _ (c2.rev (i:=lo + m - (neq + 1)) (j:=lo + m) (by lia) (by lia)) hm1 hm2 (Dn.same dn ks) rfl (fun k=>rfl) (fun x n=>⟨_,rfl,rfl,rfl⟩)
   ·rw[if_neg zq];exact tail m _ c2 hm1 hm2 dn rfl (fun k=>rfl) (fun x n=>⟨_,rfl,rfl,rfl⟩)
theorem JB {src d:Nat} (hs:src < a.size) (hd:d<=src):X (bubble a src d) k=if k=src - d then X a src else if src - d < k/\k<=src then X a (k - 1) else X a k:=by
 rw[uD,getElem?_bubble hs d hd];split
 ·rw[uD]
 ·split <;> rw[uD]
theorem GX (h:Ask prog w A s κ P (lr rk)) {ok:Nat} {Q:Bool->SortSt->Prop} (hk:kindOf st=κ) (pa:All P (arrOf st)) (hs:lo + n<=(arrOf st).size) (h1:1<=ok) (ho:ok<=n) (up:Up rk (arrOf st) lo ok)
  (q:∀ st',Chg lo st st'->Up rk (arrOf st') lo n->Q true st'):wpS (model prog w) A E s (binarySort' lo n ok) Q st:=by
 have mx:max ok 1=ok:=by lia
 refine wpS_bind (wpS_mono (wpS_forRange (I:=fun k c st'=>c=(none,())/\Chg lo st st'/\Up rk (arrOf st') lo k) (Q:=fun c st'=>c=(none,())/\Chg lo st st'/\Up rk (arrOf st') lo n) ?_ ?_ ⟨rfl,.refl,by rw[mx];exact up⟩) ?_)
 ·rintro k c st1 hk1 hk2 ⟨rfl,c1,up⟩;have sz:=c1.size;dsimp only;refine wpS_bind (wpS_mono (wpS_forRange (I:=fun t c st'=>st'=st1/\∃ l r,c=(none,l,r)/\l<=r/\r<=k/\r - l<=k - t/\(∀ i,i < l->Kr rk (arrOf st1) (lo + i)<=Kr rk (arrOf st1) (lo + k))/\∀ i,r<=i->i < k->Kr rk (arrOf st1) (lo + k)<=Kr rk (arrOf st1) (lo + i))
   (Q:=fun c st'=>st'=st1/\∃ l,c=(none,l,l)/\l<=k/\(∀ i,i < l->Kr rk (arrOf st1) (lo + i)<=Kr rk (arrOf st1) (lo + k))/\∀ i,l<=i->i < k->Kr rk (arrOf st1) (lo + k)<=Kr rk (arrOf st1) (lo + i)) ?_ ?_ ⟨rfl,0,k,rfl,by lia,by lia,by lia,(fun i hi=>by lia),(fun i h2 h3=>by lia)⟩) ?_)
  ·rintro t c st2 _ ht ⟨rfl,l,r,rfl,h2,h3,h4,h5,h6⟩;dsimp only;by_cases z:l≥r
   ·rw[if_pos z];have:l=r:=by lia
    subst this;exact wpS_pure ⟨rfl,l,rfl,h3,h5,h6⟩
   rw[if_neg z];refine wpS_bind (kC h (c1.k.trans hk) (c1.all pa) (by lia) (by lia) ?_);by_cases zl:Kr rk (arrOf st2) (lo + k) < Kr rk (arrOf st2) (lo + (l + r) / 2)
   ·rw[decide_eq_true zl];refine wpS_pure ⟨rfl,l,(l + r) / 2,rfl,by lia,by lia,by lia,h5,fun i h7 h8=>?_⟩;have:=up ((l + r) / 2) i h7 h8;lia
   ·rw[decide_eq_false zl];refine wpS_pure ⟨rfl,(l + r) / 2 + 1,r,rfl,by lia,by lia,by lia,fun i h7=>?_,h6⟩;have:=up i ((l + r) / 2) (by lia) (by lia);lia
  ·rintro c st2 ⟨rfl,l,r,rfl,h2,h3,h4,h5,h6⟩;have:l=r:=by lia
   subst this;exact⟨rfl,l,rfl,h3,h5,h6⟩
  ·rintro c st2 ⟨rfl,l,rfl,h2,h5,h6⟩;dsimp only;refine wpS_bind (wpS_modify (wpS_pure ?_));have ex:∀ j,X (bubble (arrOf st2) (lo + k) (lo + k - (lo + l))) j=if j=lo + l then X (arrOf st2) (lo + k) else if lo + l < j/\j<=lo + k then X (arrOf st2) (j - 1) else X (arrOf st2) j:=fun j=>by
    have:=JB (a:=arrOf st2) (src:=lo + k) (d:=lo + k - (lo + l)) (k:=j) (by lia) (by lia);rw[show lo + k - (lo + k - (lo + l))=lo + l by lia] at this;exact this
   refine⟨rfl,⟨c1.k,c1.p,c1.f,((bubble_perm _ _ _).toList).trans c1.a,fun j hj=>?_⟩,fun i j hij hj=>?_⟩
   ·show X (bubble (arrOf st2) (lo + k) (lo + k - (lo + l))) j=_;rw[ex,if_neg (by lia),if_neg (by lia)];exact c1.x j hj
   ·show Kr rk (bubble (arrOf st2) (lo + k) (lo + k - (lo + l))) (lo + i)<=Kr rk (bubble (arrOf st2) (lo + k) (lo + k - (lo + l))) (lo + j);have eK:∀ j,Kr rk (bubble (arrOf st2) (lo + k) (lo + k - (lo + l))) (lo + j)=if j=l then Kr rk (arrOf st2) (lo + k) else if l < j/\j<=k then Kr rk (arrOf st2) (lo + (j - 1)) else Kr rk (arrOf st2) (lo + j):=fun j=>by
     unfold Kr;rw[ex];by_cases z1:j=l
     ·rw[if_pos (by lia),if_pos z1]
     ·rw[if_neg (by lia),if_neg z1];by_cases z2:l < j/\j<=k
      ·rw[if_pos (by lia),if_pos z2,show lo + j - 1=lo + (j - 1) by lia]
      ·rw[if_neg (by lia),if_neg z2]
    rw[eK,eK];by_cases i1:i=l
    ·rw[if_pos i1];by_cases j1:j=l
     ·rw[if_pos j1];exact Int.le_refl _
     ·rw[if_neg j1,if_pos (by lia)];exact h6 (j - 1) (by lia) (by lia)
    ·rw[if_neg i1];by_cases i2:l < i
     ·rw[if_pos (by lia),if_neg (by lia),if_pos (by lia)];exact up (i - 1) (j - 1) (by lia) (by lia)
     ·rw[if_neg (by lia)];by_cases j1:j=l
      ·rw[if_pos j1];exact h5 i (by lia)
      ·rw[if_neg j1];by_cases j2:l < j
       ·rw[if_pos (by lia)];exact up i (j - 1) (by lia) (by lia)
       ·rw[if_neg (by lia)];exact up i j hij (by lia)
 ·rintro c st1 ⟨rfl,c1,up⟩;rw[mx,show max ok n=n by lia] at up;exact⟨rfl,c1,up⟩
 ·rintro c st1 ⟨rfl,c1,up⟩;exact wpS_pure (q st1 c1 up)
end
noncomputable abbrev p2 (t:Nat×Nat×Nat):Nat×Nat:=(t.1,t.2.1)
noncomputable def starts:Nat->List (List Keyed)->List (Nat×Nat)
 | _,[]=>[]
 | k,R::rs=>(k,R.length)::starts (k + R.length) rs
theorem jS:∀ (rs:List (List Keyed)) (k:Nat),(starts k rs).length=rs.length
 | [],_=>rfl
 | R::rs,k=>by rw[starts,List.length_cons,jS rs,List.length_cons]
theorem starts_app:∀ (pre rs:List (List Keyed)) (k:Nat),starts k (pre++rs)=starts k pre++starts (k + pre.flatten.length) rs
 | [],rs,k=>by simp [starts]
 | R::pre,rs,k=>by
  rw[List.cons_append,starts,starts_app pre rs,starts,List.cons_append,List.flatten_cons,List.length_append,Nat.add_assoc]
theorem An {α β:Type} (f:α->β):∀ (l:List α) (i:Nat),(l.eraseIdx i).map f=(l.map f).eraseIdx i
 | [],_=>rfl
 | x::l,0=>rfl
 | x::l,i + 1=>by rw[List.eraseIdx_cons_succ,List.map_cons,List.map_cons,List.eraseIdx_cons_succ,An f l i]
theorem ue:∀ {rs:List (List Keyed)},(∀ R∈rs,R≠[])->rs.length<=rs.flatten.length
 | [],_=>Nat.le_refl _
 | R::rs,h=>by
  have h1:=rT (h R (.head _));have h2:=ue (rs:=rs) fun R hR=>h R (.tail _ hR);rw[List.length_cons,List.flatten_cons,List.length_append];lia
section
variable {prog:Program} {w:World} {A:Around} {E:VS} {s:Shared} {κ:SortKind} {P:Keyed->Prop} {rk:Keyed->Int} {st st0 st' st2:SortSt} {a b:Array Keyed} {lo n i j k:Nat} {rest:List Keyed}
structure Cv (rk:Keyed->Int) (st0 st:SortSt) (rs:List (List Keyed)) (rest:List Keyed):Prop where
 a:(arrOf st).toList=rs.flatten++rest
 ne:∀ R∈rs,R≠[]
 so:∀ R∈rs,Srt (lr rk) R
 p:(pendingOf st).toList.map p2=starts 0 rs
 k:kindOf st=kindOf st0
 f:failedOf st=none
 pm:(arrOf st).toList.Perm (arrOf st0).toList
theorem Cv.psz {rs:List (List Keyed)} (c:Cv rk st0 st rs rest):(pendingOf st).size=rs.length:=by
 have:=congrArg List.length c.p;rw[lM0,jS,Array.length_toList] at this;exact this
theorem Cv.all {rs:List (List Keyed)} (c:Cv rk st0 st rs rest) (pa:All P (arrOf st0)):All P (arrOf st):=lF.mpr fun x hx=>lF.mp pa x (c.pm.mem_iff.mp hx)
theorem Am (h:Ask prog w A s κ P (lr rk)) {rs:List (List Keyed)} {Q:Bool->SortSt->Prop} (hk:kindOf st0=κ) (pa:All P (arrOf st0)) (c:Cv rk st0 st rs rest) (hi:i + 1 < rs.length)
  (q:∀ st' rs',Cv rk st0 st' rs' rest->rs'.flatten.length=rs.flatten.length->rs'.length + 1=rs.length->Q true st'):wpS (model prog w) A E s (mergeAt' i) Q st:=by
 obtain⟨pre,R1,R2,post,rfl,hl⟩:∃ pre R1 R2 post,rs=pre++R1::R2::post/\pre.length=i:=by
  refine⟨rs.take i,rs[i],rs[i + 1],rs.drop (i + 2),?_,by rw[List.length_take];lia⟩;rw[<- List.drop_eq_getElem_cons,<- List.drop_eq_getElem_cons,List.take_append_drop]
 have hp:=c.p;rw[starts_app,starts,starts,Nat.zero_add] at hp;have sl:(starts 0 pre).length=i:=by rw[jS,hl]
 have g1:((pendingOf st).toList.map p2)[i]?=some (pre.flatten.length,R1.length):=by
  rw[hp,List.getElem?_append_right (by lia),sl,Nat.sub_self];rfl
 have g2:((pendingOf st).toList.map p2)[i + 1]?=some (pre.flatten.length + R1.length,R2.length):=by
  rw[hp,List.getElem?_append_right (by lia),sl,Nat.add_sub_cancel_left];rfl
 rw[List.getElem?_map] at g1 g2;obtain⟨⟨u1,u2,p1⟩,e1,e2⟩:=Option.map_eq_some_iff.mp g1;obtain⟨⟨v1,v2,q1⟩,e3,e4⟩:=Option.map_eq_some_iff.mp g2;cases e2;cases e4;rw[Array.getElem?_toList] at e1 e3;refine FV h (L:=pre.flatten) (L2:=post.flatten++rest) (c.k.trans hk) (c.all pa) ?_ (c.so R1 (by simp)) (c.so R2 (by simp)) (c.ne R1 (by simp)) (c.ne R2 (by simp)) e1 e3 c.f fun M st' pm sm k' f' a' p'=>?_
 ·rw[c.a];simp
 ·have ml:M.length=R1.length + R2.length:=by rw[pm.length_eq,List.length_append]
  refine q st' (pre++M::post) ⟨?_,fun R hR=>?_,fun R hR=>?_,?_,k'.trans c.k,f',?_⟩ ?_ ?_
  ·rw[a'];simp
  ·rcases List.mem_append.mp hR with hR | hR
   ·exact c.ne R (by simp [hR])
   ·rcases List.mem_cons.mp hR with rfl | hR
    ·intro z;rw[z] at ml;have:=rT (c.ne R1 (by simp));simp at ml;lia
    ·exact c.ne R (by simp [hR])
  ·rcases List.mem_append.mp hR with hR | hR
   ·exact c.so R (by simp [hR])
   ·rcases List.mem_cons.mp hR with rfl | hR
    ·exact sm
    ·exact c.so R (by simp [hR])
  ·rw[p',Array.toList_eraseIdxIfInBounds,Array.toList_setIfInBounds,An,List.map_set,hp,starts_app,starts,Nat.zero_add,ml];rw[List.set_append_right _ _ (by lia),List.eraseIdx_append_of_length_le (by lia),sl,Nat.sub_self,Nat.add_sub_cancel_left,List.set_cons_zero,List.eraseIdx_cons_succ,List.eraseIdx_cons_zero,Nat.add_assoc]
  ·refine List.Perm.trans ?_ c.pm;rw[a',c.a];simp only[List.flatten_append,List.flatten_cons,List.append_assoc];refine List.Perm.append_left _ ?_;rw[<- List.append_assoc R1];exact List.Perm.append_right _ pm
  ·simp only[List.flatten_append,List.flatten_cons,List.length_append,ml];lia
  ·simp only[List.length_append,List.length_cons];lia
end
section
variable {prog:Program} {w:World} {A:Around} {E:VS} {s:Shared} {κ:SortKind} {P:Keyed->Prop} {rk:Keyed->Int} {st st0 st' st2:SortSt} {a b:Array Keyed} {lo n i j k:Nat} {rest:List Keyed} {rs:List (List Keyed)}
theorem Cv.chg (c:Cv rk st0 st rs rest) (g:Chg rs.flatten.length st st'):∃ rest',Cv rk st0 st' rs rest'/\rest'.length=rest.length:=by
 have hl:(arrOf st').toList.length=(arrOf st).toList.length:=g.a.length_eq;have hl2:=congrArg List.length c.a;rw[List.length_append] at hl2;have e:(arrOf st').toList.take rs.flatten.length=rs.flatten:=by
  refine List.ext_getElem? fun k=>?_;by_cases z:k < rs.flatten.length
  ·rw[List.getElem?_take_of_lt z,o8 (by lia),o8 z,<- X_Y,g.x k z,X_Y,c.a]
   congr 1
   unfold Y;rw[List.getD_eq_getElem?_getD,List.getD_eq_getElem?_getD,List.getElem?_append_left z]
  ·rw[List.getElem?_eq_none (by rw[List.length_take];lia),List.getElem?_eq_none (by lia)]
 refine⟨(arrOf st').toList.drop rs.flatten.length,⟨?_,c.ne,c.so,by rw[g.p];exact c.p,g.k.trans c.k,g.f.trans c.f,g.a.trans c.pm⟩,by rw[List.length_drop];lia⟩
 conv=>lhs;rw[<- List.take_append_drop rs.flatten.length (arrOf st').toList,e]
theorem yR (e:a.toList=rs.flatten++rest) (u:Up rk a rs.flatten.length n) (hn:n<=rest.length):Srt (lr rk) (rest.take n):=by
 refine List.pairwise_iff_getElem.mpr fun i j hi hj hij=>?_;rw[List.length_take] at hi hj;have e':a.toList=rs.flatten++(rest++[]):=by rw[e,List.append_nil]
 have h1:=xI (i:=i) e' (by lia);have h2:=xI (i:=j) e' (by lia);have:=u i j (by lia) (by lia);unfold Kr at this;rw[h1,h2] at this;rw[List.getElem_take,List.getElem_take];have g1:=o8 (l:=rest) (i:=i) (by lia);have g2:=o8 (l:=rest) (i:=j) (by lia);rw[gE0 (by lia)] at g1 g2;rw[Option.some.inj g1,Option.some.inj g2];exact decide_eq_false (by lia)
theorem Cv.push (c:Cv rk st0 st rs rest) (so:Srt (lr rk) (rest.take n)) (h1:1<=n) (hn:n<=rest.length) (g:Nat):Cv rk st0 (SortSt.mk' (kindOf st) (arrOf st) ((pendingOf st).push (rs.flatten.length,n,g)) (gallopOf st) (failedOf st)) (rs++[rest.take n]) (rest.drop n):=by
 have tl:(rest.take n).length=n:=by rw[List.length_take];lia
 refine⟨?_,fun R hR=>?_,fun R hR=>?_,?_,c.k,c.f,c.pm⟩
 ·show (arrOf st).toList=_;rw[c.a];simp
 ·rcases List.mem_append.mp hR with hR | hR
  ·exact c.ne R hR
  ·rw[List.mem_singleton.mp hR];intro z;rw[z] at tl;simp at tl;lia
 ·rcases List.mem_append.mp hR with hR | hR
  ·exact c.so R hR
  ·rw[List.mem_singleton.mp hR];exact so
 ·show ((pendingOf st).push _).toList.map p2=_;rw[Array.toList_push,List.map_append,c.p,starts_app,starts,tl,Nat.zero_add]
  rfl
theorem wY {f:Nat×Nat×Nat->Nat×Nat×Nat} (hf:∀ t,p2 (f t)=p2 t):∀ (l:List (Nat×Nat×Nat)) (i:Nat),(l.modify i f).map p2=l.map p2
 | [],_=>by simp
 | x::l,0=>by simp [hf]
 | x::l,i + 1=>by rw[List.modify_succ_cons,List.map_cons,List.map_cons,wY hf l i]
theorem Cv.mod (c:Cv rk st0 st rs rest) {f:Nat×Nat×Nat->Nat×Nat×Nat} (hf:∀ t,p2 (f t)=p2 t) (i:Nat):Cv rk st0 (SortSt.mk' (kindOf st) (arrOf st) ((pendingOf st).modify i f) (gallopOf st) (failedOf st)) rs rest:=
 ⟨c.a,c.ne,c.so,by show ((pendingOf st).modify i f).toList.map p2=_;rw[Array.toList_modify,wY hf];exact c.p,c.k,c.f,c.pm⟩
theorem Gq {c:Prop} [Decidable c] {x y n:Nat} (h1:x + 1 < n) (h2:y + 1 < n):(if c then x else y) + 1 < n:=by split <;> assumption
theorem B4 (h:Ask prog w A s κ P (lr rk)) {Q:Unit->SortSt->Prop} (hk:kindOf st=κ) (pa:All P (arrOf st)) (hp:pendingOf st=#[]) (hf:failedOf st=none)
  (q:∀ st',(arrOf st').toList.Perm (arrOf st).toList->Srt (lr rk) (arrOf st').toList->failedOf st'=none->Q () st'):wpS (model prog w) A E s sortRuns' Q st:=by
 have c0:Cv rk st st [] (arrOf st).toList:=⟨rfl,(fun R hR=>by cases hR),(fun R hR=>by cases hR),by rw[hp];rfl,rfl,hf,List.Perm.refl _⟩;have fl:∀ {st' rs rest},Cv rk st st' rs rest->rs.flatten.length + rest.length=(arrOf st).size:=fun {st' rs rest} c=>by
  have h1:=c.pm.length_eq;rw[c.a,List.length_append,Array.length_toList] at h1;exact h1
 refine wpS_bind (wpS_get ?_);dsimp only;show wpS (model prog w) A E s _ Q st;generalize hz:(arrOf st).size=size at fl;refine wpS_bind (wpS_mono (wpS_forRange (I:=fun t c st'=>∃ rs rest,c=(none,rs.flatten.length)/\Cv rk st st' rs rest/\t<=rs.flatten.length)
  (Q:=fun c st'=>∃ rs,c=(none,rs.flatten.length)/\Cv rk st st' rs []) ?_ ?_ ⟨[],_,rfl,c0,Nat.le_refl _⟩) ?_)
 ·rintro t c st1 _ ht ⟨rs,rest,rfl,c1,hm⟩;have hl:=fl c1;dsimp only;by_cases z:rs.flatten.length≥size
  ·rw[if_pos z];refine wpS_pure ⟨rs,rfl,?_⟩;have e:rest=[]:=List.eq_nil_of_length_eq_zero (by lia);rw[<- e];exact c1
  rw[if_neg z];have sz1:(arrOf st1).size=size:=by
   have:=c1.pm.length_eq;rw[Array.length_toList,Array.length_toList,hz] at this;exact this
  refine wpS_bind (GV h (c1.k.trans hk) (c1.all pa) (by lia) (by lia) fun n1 st2 g2 h1 h2 up=>?_);obtain⟨rest2,c2,l2⟩:=c1.chg g2;dsimp only;split
  case' isTrue zn=>
   refine wpS_bind (jf (wpS_bind (GX h (c2.k.trans hk) (c2.all pa) (by rw[g2.size];lia) h1 (by lia) up fun st3 g3 up3=>?_)));obtain⟨fX,c3,l3⟩:=c2.chg g3;rw[if_neg (by decide)];have so:Srt (lr rk) (fX.take (min (size - rs.flatten.length) (minRun' size size 0))):=yR c3.a up3 (by lia);have n1':1<=min (size - rs.flatten.length) (minRun' size size 0):=by
    have zn':n1 < minRun' size size 0:=zn;lia
   obtain⟨n2,hn2⟩:∃ n2,n2=min (size - rs.flatten.length) (minRun' size size 0):=⟨_,rfl⟩;rw[<- hn2] at so n1';have hn3:n2<=fX.length:=by lia
   clear zn
   unfold minRun' at hn2;rw[<- hn2]
   clear hn2
  case' isFalse zn=>
   have c3:=c2;have so:Srt (lr rk) (rest2.take n1):=yR c2.a up (by lia);have n1':=h1;have hn3:n1<=rest2.length:=by lia
   clear zn
   obtain⟨n2,rfl⟩:∃ n2,n2=n1:=⟨_,rfl⟩;obtain⟨fX,rfl⟩:∃ r,r=rest2:=⟨_,rfl⟩
  all_goals
   refine wpS_bind (wpS_get ?_)
   try dsimp only
   split
   ·rename_i s1 m1 pw hb;refine wpS_bind (wpS_mono (wpS_forRange (I:=fun t c st'=>∃ rs',c=(none,())/\Cv rk st st' rs' fX/\rs'.flatten.length=rs.flatten.length)
     (Q:=fun c st'=>∃ rs',c=(none,())/\Cv rk st st' rs' fX/\rs'.flatten.length=rs.flatten.length) ?_ ?_ ⟨rs,rfl,c3,rfl⟩) ?_)
    ·rintro t c st4 _ ht4 ⟨rs',rfl,c4,e4⟩;refine wpS_bind (wpS_get ?_)
     try dsimp only
     have ps:=c4.psz;split
     ·rename_i u1 u2 older ho;have z2:(pendingOf st4).size > 1:=by
       by_cases z2:(pendingOf st4).size > 1
       ·exact z2
       ·rw[if_neg z2] at ho;cases ho
      split
      ·exact wpS_pure ⟨rs',rfl,c4,e4⟩
      ·refine wpS_bind (Am h hk pa c4 (show (pendingOf st4).size - 2 + 1 < _ by lia) fun st5 rs5 c5 e5 _=>?_);rw[if_neg (by decide)];exact wpS_pure ⟨rs5,rfl,c5,e5.trans e4⟩
     ·exact wpS_pure ⟨rs',rfl,c4,e4⟩
    ·rintro c st4 hc;exact hc
    ·rintro c st4 ⟨rs',rfl,c4,e4⟩;dsimp only;refine wpS_bind (wpS_modify (wpS_bind (wpS_modify (wpS_pure ⟨rs'++[fX.take n2],fX.drop n2,?_,?_,?_⟩))))
     ·simp only[List.flatten_append,List.flatten_cons,List.flatten_nil,List.append_nil,List.length_append,List.length_take];rw[e4,Nat.min_eq_left hn3]
     ·rw[<- e4];exact(c4.mod (f:=fun x=>(x.1,x.2.1,power' size (2 * s1 + m1) (2 * s1 + m1 + m1 + n2) size)) (fun _=>rfl) ((pendingOf st4).size - 1)).push so n1' hn3 0
     ·simp only[List.flatten_append,List.flatten_cons,List.flatten_nil,List.append_nil,List.length_append,List.length_take];lia
   ·have c5:=c3.push so n1' hn3 0;refine wpS_bind (wpS_modify (wpS_pure ⟨_,_,?_,c5,?_⟩))
    ·simp only[List.flatten_append,List.flatten_cons,List.flatten_nil,List.append_nil,List.length_append,List.length_take];rw[Nat.min_eq_left hn3]
    ·simp only[List.flatten_append,List.flatten_cons,List.flatten_nil,List.append_nil,List.length_append,List.length_take];lia
 ·rintro c st1 ⟨rs,rest,rfl,c1,hm⟩;have hl:=fl c1;refine⟨rs,rfl,?_⟩;have e:rest=[]:=List.eq_nil_of_length_eq_zero (by lia);rw[<- e];exact c1
 ·rintro c st1 ⟨rs,rfl,c1⟩;have hl:=fl c1;dsimp only;have few:=ue c1.ne;refine wpS_bind (wpS_mono (wpS_forRange (I:=fun t c st'=>∃ rs,c=(none,())/\Cv rk st st' rs []/\rs.length<=max 1 (size - t))
   (Q:=fun c st'=>∃ rs,c=(none,())/\Cv rk st st' rs []/\rs.length<=1) ?_ ?_ ⟨rs,rfl,c1,by rw[List.length_nil] at hl;lia⟩) ?_)
  ·rintro t c st2 _ ht ⟨rs,rfl,c2,hr⟩;refine wpS_bind (wpS_get ?_)
   try dsimp only
   have ps:=c2.psz;by_cases z:(pendingOf st2).size<=1
   ·rw[if_pos z];exact wpS_pure ⟨rs,rfl,c2,by lia⟩
   rw[if_neg z];refine wpS_bind (Am h hk pa c2 ?_ fun st5 rs5 c5 e5 e6=>?_)
   ·exact Gq (show (pendingOf st2).size - 2 - 1 + 1 < _ by lia) (show (pendingOf st2).size - 2 + 1 < _ by lia)
   ·rw[if_neg (by decide)];exact wpS_pure ⟨rs5,rfl,c5,by lia⟩
  ·rintro c st2 ⟨rs,rfl,c2,hr⟩;exact⟨rs,rfl,c2,by lia⟩
  ·rintro c st2 ⟨rs,rfl,c2,hr⟩;refine wpS_pure (q st2 c2.pm ?_ c2.f);rw[c2.a,List.append_nil]
   match rs,hr,c2 with
   | [],_,_=>exact List.Pairwise.nil
   | [R],_,c2=>
    simp only[List.flatten_cons,List.flatten_nil,List.append_nil];exact c2.so R (.head _)
end
section
variable {prog:Program} {w:World} {A:Around} {E:VS} {s:Shared} {P:Keyed->Prop} {rk:Keyed->Int}
theorem DA {vs:Lv} {l:List Keyed} (h:l.Perm (vs.zip vs)):∃ out:Lv,l=out.map (fun v=>(v,v))/\out.Perm vs:=by
 have e:vs.zip vs=vs.map fun v=>(v,v):=by
  induction vs with
  | nil=>rfl
  | cons v vs ih=>exact List.zip_cons_cons.trans (by rw[List.map_cons,List.zip_eq_zipWith] ;congr 1;rw[<- List.zip_eq_zipWith];exact(by
    have:∀ l:Lv,l.zip l=l.map fun v=>(v,v):=fun l=>by
     induction l with
     | nil=>rfl
     | cons x l ih=>rw[List.zip_cons_cons,ih,List.map_cons]
    exact this vs))
 rw[e] at h;refine⟨l.map (·.2),?_,?_⟩
 ·rw[List.map_map];have:∀ x∈l,x=((fun v:Value=>(v,v)) ∘ (·.2)) x:=fun x hx=>by
   obtain⟨v,_,rfl⟩:=List.mem_map.mp (h.mem_iff.mp hx)
   rfl
  conv=>lhs;rw[<- List.map_id l]
  exact List.map_congr_left this
 ·have:=h.map (·.2);rw[List.map_map] at this;exact this.trans (by rw[show ((fun x:Keyed=>x.2) ∘ fun v:Value=>(v,v))=id from rfl,List.map_id])
def JM (prog:Program) (w:World) (A:Around) (s:Shared) (rk:Keyed->Int) (vs:Lv):Prop:=
 ∀ h':Heap,(∀ b o,s.heap.get? b=some o->h'.get? b=some o)->∃ (κ:SortKind) (P:Keyed->Prop),(∀ (E:VS) (Q:SortKind->Shared->Prop),Q κ { s with heap:=h' }->wpAny (model prog w) A (keyKind' vs.toArray) Q E { s with heap:=h' })/\Ask prog w A { s with heap:=h' } κ P (lr rk)/\∀ v∈vs,P (v,v)
theorem xT {lt:Keyed->Keyed->Bool} {l:List Keyed} (h:l.length < 2):Srt lt l:=by
 rcases l with _ | ⟨x,l⟩
 ·exact List.Pairwise.nil
 ·rcases l with _ | ⟨y,l⟩
  ·exact List.pairwise_singleton _ _
  ·simp at h;lia
theorem yp {a:Addr} {vs:Lv} {n:Nat} {Q:Fin->Shared->Prop} {s0:Shared} (ho:s.heap.get? a=some (seqObj "list" vs.toArray n)) (hs0:∀ b o,s0.heap.get? b=some o->b≠a/\s.heap.get? b=some o) (hs1:{ s0 with heap:=s.heap }=s) (hz:vs.length<=100000) (ask:2<=vs.length->JM prog w A s0 rk vs)
  (q:∀ out:Lv,out.Perm vs->out.Pairwise (fun x y=>rk (x,x)<=rk (y,y))->Q (.done (.ret .none)) { s with heap:=sortedHeap s.heap a vs out.toArray }) :
  wpAny (model prog w) A (Builtin.«list.sort» ⟨[.ref a],[]⟩) Q E s:=by
 rw[list_sort_plain];have ha:a < s.heap.objs.size:=Heap.lt_size ho;have zl:vs.length<=sizeLine:=by rw[sizeLine_eq];lia
 refine wpAny_bind (listItems_at ho rfl (wpAny_bind (listUpdate_at ho rfl ?_ (by rw[List.size_toArray];exact zl) (Nat.zero_le _))));obtain⟨e1,ho1⟩:∃ e1,(s.heap.update a (Obj.mapSeq fun _=>(#[]:Array Value))).get? a=some (seqObj "list" #[] e1):=⟨_,get?_update_seq ho fun _=>#[]⟩;refine wpAny_bind (seqEpoch_at ho1 rfl (wpAny_bind (wpAny_newTuple ?_ (by simpa using zl))));refine wpAny_bind (wpAny_newList ?_ (Nat.zero_le _));refine wpAny_holding ?_;show wpAny (model prog w) A _ Q E { s with heap:=((s.heap.update a (Obj.mapSeq fun _=>(#[]:Array Value))).push (seqObj "tuple" vs.toArray 0)).push (seqObj "list" #[] 0) };generalize hh:((s.heap.update a (Obj.mapSeq fun _=>(#[]:Array Value))).push (seqObj "tuple" vs.toArray 0)).push (seqObj "list" #[] 0)=h6;have old:∀ b o,b≠a->s.heap.get? b=some o->h6.get? b=some o:=fun b o nb e=>by
  rw[<- hh];exact Heap.get?_push_of_some _ (Heap.get?_push_of_some _ (by rw[Heap.get?_update_ne _ _ _ _ nb];exact e))
 have ho6:h6.get? a=some (seqObj "list" #[] e1):=by rw[<- hh];exact Heap.get?_push_of_some _ (Heap.get?_push_of_some _ ho1)
 have fin:∀ st':SortSt,(arrOf st').toList.Perm (vs.zip vs)->Srt (lr rk) (arrOf st').toList->failedOf st'=none->∃ out:Lv,(arrOf st').map (·.2)=out.toArray/\out.Perm vs/\out.Pairwise (fun x y=>rk (x,x)<=rk (y,y)):=fun st' p so _=>by
  obtain⟨out,e,po⟩:=DA p;refine⟨out,?_,po,?_⟩
  ·apply Array.toList_inj.mp;rw[Array.toList_map,e,List.map_map];exact List.map_id' _
  ·rw[e] at so;exact(List.pairwise_map.mp so).imp fun h=>by have:=of_decide_eq_false h;lia
 dsimp only;have sz:vs.toArray.size=vs.length:=List.size_toArray;by_cases h2:vs.toArray.size < 2
 ·rw[if_pos h2,if_pos h2];refine wpAny_bind (wpAny_pure ?_);rw[StateT.run_pure];refine wpAny_bind (wpAny_pure ?_);dsimp only;obtain⟨out,e,po,so⟩:=fin (SortSt.mk' general' (vs.toArray.zip vs.toArray) #[] 7 none) (by show (vs.toArray.zip vs.toArray).toList.Perm _;simp) (by
   have l1:(vs.toArray.zip vs.toArray).toList.length < 2:=by simp;lia
   show Srt (lr rk) (vs.toArray.zip vs.toArray).toList;exact xT l1) rfl
  refine wpAny_bind (seqEpoch_at ho6 rfl (wpAny_bind (listUpdate_at ho6 rfl ?_ (Nat.zero_le _) ?_)))
  ·simp only[bne_self_eq_false,Bool.false_eq_true,if_false];refine wpAny_pure ?_;have:=q out po so;unfold sortedHeap at this;rw[hh,<- e] at this;exact this
  ·show ((vs.toArray.zip vs.toArray).map (·.2)).size<=sizeLine + 1;simp;lia
 ·rw[if_neg h2,if_neg h2];obtain⟨κ,P,hkk,hask,hP⟩:=ask (by lia) h6 fun b o e=>old b o (hs0 b o e).1 (hs0 b o e).2;have es:({ s0 with heap:=h6 }:Shared)={ s with heap:=h6 }:=by rw[<- hs1]
  rw[es] at hkk hask;refine wpAny_bind (hkk _ _ ?_);refine wpAny_bind (wpAny_mono (B4 (st:=SortSt.mk' κ (vs.toArray.zip vs.toArray) #[] 7 none) (E:=E) (Q:=fun _ st'=>(arrOf st').toList.Perm (vs.zip vs)/\Srt (lr rk) (arrOf st').toList/\failedOf st'=none) hask rfl ?_ rfl rfl fun st' a1 a2 a3=>⟨by
   have e:(vs.toArray.zip vs.toArray).toList=vs.zip vs:=by simp
   exact a1.trans (by show (vs.toArray.zip vs.toArray).toList.Perm _;rw[e]),a2,a3⟩) ?_ fun _ _ e=>e)
  ·refine lF.mpr fun x hx=>?_;have e:(vs.toArray.zip vs.toArray).toList=vs.zip vs:=by simp
   obtain⟨out,e2,po⟩:=DA (vs:=vs) (l:=vs.zip vs) (List.Perm.refl _);have hx':x∈vs.zip vs:=by rw[<- e];exact hx
   rw[e2] at hx';obtain⟨v,hv,rfl⟩:=List.mem_map.mp hx';exact hP v (po.mem_iff.mp hv)
  ·rintro⟨⟨⟩,st'⟩ s' ⟨rfl,p,so,hf⟩;dsimp only;obtain⟨out,e,po,so⟩:=fin st' p so hf;refine wpAny_bind (seqEpoch_at ho6 rfl (wpAny_bind (listUpdate_at ho6 rfl ?_ (Nat.zero_le _) ?_)))
   ·rw[show (match st' with | st'=>failedOf st')=none from hf];simp only[bne_self_eq_false,Bool.false_eq_true,if_false];refine wpAny_pure ?_;have:=q out po so;unfold sortedHeap at this;rw[hh,<- e] at this;exact this
   ·show ((arrOf st').map (·.2)).size<=sizeLine + 1;rw[e,List.size_toArray,po.length_eq];lia
end
open PySem PyProof.Rows PySem.W PySem.SeqAt
noncomputable def r3 (y z m:Int):Int:=(y * 1048576 + z) * 16777216 + m
structure Bd (y z m:Int):Prop where
 y0:0<=y
 y1:y < 1048576
 z0:0<=z
 z1:z < 1048576
 m0:0<=m
 m1:m < 16777216
def Tri (rk:Keyed->Int) (h:Heap) (v:Value):Prop:=∃ a b y z m t t1 t2,v=.ref a/\h.IsTuple a #[.ref b,.int m t]/\h.IsTuple b #[.int y t1,.int z t2]/\Bd y z m/\rk (v,v)=r3 y z m
section
variable {prog:Program} {w:World} {A:Around} {E:VS} {s:Shared} {rk:Keyed->Int} {vs:Lv}
theorem sJ {h h':Heap} (k:∀ b o,h.get? b=some o->h'.get? b=some o) {l:Addr} {xs:Array Value} (t:h.IsTuple l xs):h'.IsTuple l xs:=let ⟨o,e,r⟩:=t;⟨o,k _ _ e,r⟩
theorem Tri.keep {h h':Heap} (k:∀ b o,h.get? b=some o->h'.get? b=some o) {v:Value} (t:Tri rk h v):Tri rk h' v:=
 let ⟨a,b,y,z,m,t0,t1,t2,e,h1,h2,r⟩:=t;⟨a,b,y,z,m,t0,t1,t2,e,sJ k h1,sJ k h2,r⟩
theorem FW (hu:A.units + 10 < cLine) {x y:Value} (hx:Tri rk s.heap x) (hy:Tri rk s.heap y) {Q:Bool->Shared->Prop} (q:Q (decide (rk (x,x) < rk (y,y))) s):wpAny (model prog w) A (keyLt' (tuples' false) x y) Q E s:=by
 obtain⟨a,b,y1,z1,m1,t,t1,t2,rfl,h1,h2,bd,e1⟩:=hx;obtain⟨a',b',y2,z2,m2,u,u1,u2,rfl,h3,h4,bd',e2⟩:=hy;obtain⟨o,g1,c1,n1,d1⟩:=id h1;obtain⟨o',g2,c2,n2,d2⟩:=id h3;rw[e1,e2] at q;refine kat_lt g1 d1 g2 d2 (kat_cons ?_);have key:EqAt A s (.ref b) (.ref b') ((y1 == y2) && (z1 == z2)):=by
  by_cases z:b=b'
  ·subst z;have:#[Value.int y1 t1,.int z1 t2]=#[Value.int y2 u1,.int z2 u2]:=by
    obtain⟨o1,q1,_,_,q2⟩:=h2;obtain⟨o2,q3,_,_,q4⟩:=h4;rw[q1] at q3;cases q3;rw[q2] at q4;cases q4
    rfl
   cases this;rw[beq_self_eq_true,beq_self_eq_true];exact EqAt.same _
  ·have:=RcAt.tuples (A:=A) (e:=fun j=>if j=0 then y1 == y2 else z1 == z2) h2 h4 (by lia) fun j hj1 hj2=>by
    match j,hj1,hj2 with
    | 0,_,_=>exact EqAt.int_int _ _ _ _
    | 1,_,_=>exact EqAt.int_int _ _ _ _
   refine EqAt.of_refs z ?_;have e:((List.range (min (#[Value.int y1 t1,.int z1 t2]:Array Value).size (#[Value.int y2 u1,.int z2 u2]:Array Value).size)).all (fun j=>if j=0 then y1 == y2 else z1 == z2) && (#[Value.int y1 t1,.int z1 t2]:Array Value).size == (#[Value.int y2 u1,.int z2 u2]:Array Value).size)=((y1 == y2) && (z1 == z2)):=by
    simp [List.range,List.range.loop]
   rw[e] at this;exact this
 refine key prog w _ _ ?_;unfold r3 at q;obtain⟨a1,a2,a3,a4,a5,a6⟩:=bd;obtain⟨b1,b2,b3,b4,b5,b6⟩:=bd';by_cases ey:y1=y2
 ·by_cases ez:z1=z2
  ·subst ey;subst ez;rw[beq_self_eq_true,beq_self_eq_true];refine kat_yes (kat_cons (EqAt.int_int _ _ _ _ prog w _ _ ?_));by_cases em:m1=m2
   ·subst em;rw[beq_self_eq_true];refine kat_yes (kat_nil ?_);have e:decide ((y1 * 1048576 + z1) * 16777216 + m1 < (y1 * 1048576 + z1) * 16777216 + m1)=decide ((#[Value.ref b,.int m1 t]:Array Value).size < (#[Value.ref b',.int m1 u]:Array Value).size):=by simp
    rw[e] at q;exact q
   ·rw[beq_eq_false_iff_ne.mpr em];refine kat_no (kat_one _ _ (PyProof.Rows.lt_int ?_));have e:decide ((y1 * 1048576 + z1) * 16777216 + m1 < (y1 * 1048576 + z1) * 16777216 + m2)=decide (m1 < m2):=by
     rw[decide_eq_decide];lia
    rw[e] at q;exact q
  ·subst ey;rw[beq_eq_false_iff_ne.mpr ez,Bool.and_false];refine kat_no (kat_one _ _ (HT.oy (ns:=[y1,z1]) (ms:=[y1,z2]) h2 h4 (.cons _ _ (.cons _ _ .nil)) (.cons _ _ (.cons _ _ .nil)) (by lia) ?_));have e:decide ((y1 * 1048576 + z1) * 16777216 + m1 < (y1 * 1048576 + z2) * 16777216 + m2)=HT.lexLt [y1,z1] [y1,z2]:=by
    rw[HT.gQ,if_pos rfl,HT.gQ,if_neg ez,decide_eq_decide];lia
   rw[e] at q;exact q
 ·rw[beq_eq_false_iff_ne.mpr ey,Bool.false_and];refine kat_no (kat_one _ _ (HT.oy (ns:=[y1,z1]) (ms:=[y2,z2]) h2 h4 (.cons _ _ (.cons _ _ .nil)) (.cons _ _ (.cons _ _ .nil)) (by lia) ?_));have e:decide ((y1 * 1048576 + z1) * 16777216 + m1 < (y2 * 1048576 + z2) * 16777216 + m2)=HT.lexLt [y1,z1] [y2,z2]:=by
   rw[HT.gQ,if_neg ey,decide_eq_decide];lia
  rw[e] at q;exact q
theorem wm:∀ {vs:Lv},(∀ v∈vs,Tri rk s.heap v)->∃ fs,KatTups s.heap vs fs/\fs.length=vs.length/\∀ v∈fs,∃ a xs,v=.ref a/\s.heap.IsTuple a xs
 | [],_=>⟨[],.nil,rfl,fun v hv=>by cases hv⟩
 | v::vs,h=>by
  obtain⟨fs,h1,h2,h3⟩:=wm (vs:=vs) fun v hv=>h v (.tail _ hv);obtain⟨a,b,y,z,m,t,t1,t2,rfl,g1,g2,_⟩:=h _ (.head _);obtain⟨o,e,c,n,d⟩:=g1;refine⟨.ref b::fs,.cons e c d rfl h1,by rw[List.length_cons,List.length_cons,h2],fun v hv=>?_⟩;rcases List.mem_cons.mp hv with rfl | hv
  ·exact⟨b,_,rfl,g2⟩
  ·exact h3 v hv
theorem BA (hu:A.units + 10 < cLine) (hv:∀ v∈vs,Tri rk s.heap v) (hn:2<=vs.length):JM prog w A s rk vs:=fun h' k=>by
 have hv':∀ v∈vs,Tri rk ({ s with heap:=h' }:Shared).heap v:=fun v m=>(hv v m).keep k;refine⟨tuples' false,fun k=>∃ v,k=(v,v)/\Tri rk ({ s with heap:=h' }:Shared).heap v,fun E Q q=>?_,⟨?_,?_,?_⟩,fun v m=>⟨v,rfl,hv' v m⟩⟩
 ·obtain⟨fs,h1,h2,h3⟩:=wm (s:={ s with heap:=h' }) hv';refine kat_kind (T:=.type "tuple") h1 (by lia) (fun v m=>?_) (by decide) ?_
  ·obtain⟨a,xs,rfl,o,e,c,_⟩:=h3 v m;have:Looks (model prog w) ({ s with heap:=h' }:Shared).heap (typeOf (.ref a)) o.cls:=(Looks.ld e).andThen .now;rw[c] at this;exact this
  ·have e:(Value.type "tuple" != Value.type "tuple")=false:=by decide
   rw[e];exact q
 ·rintro E st _ _ Q hk ⟨v,rfl,tv⟩ ⟨u,rfl,tu⟩ q;rw[lt'_eq];refine wpS_bind (wpS_get ?_);rw[hk];exact wpS_bind (wpS_lift (wpAny_attempt (FW hu tv tu ⟨rfl,wpS_pure q⟩)))
 ·intro x y h;have:=of_decide_eq_true h;exact decide_eq_false (by lia)
 ·intro x y z h1 h2;have:=of_decide_eq_false h1;have:=of_decide_eq_false h2;exact decide_eq_false (by lia)
theorem uQ {l:Addr} {Q:VS} (hu:A.units + 20 < cLine) (hl:s.heap.IsList l vs.toArray) (hz:vs.length<=100000) (hv:∀ v∈vs,Tri rk s.heap v)
  (q:∀ (h':Heap) (L:Addr) (c:Nat) (out:Lv),s.heap.objs.size<=L->(∀ b o,s.heap.get? b=some o->h'.get? b=some o)->h'.get? L=some (seqObj "list" out.toArray c)->out.Perm vs->out.Pairwise (fun x y=>rk (x,x)<=rk (y,y))->Q (.ref L) { s with heap:=h' }) :
  wpAny (model prog w) A (call (.builtin "sorted") [.ref l]) Q E s:=by
 have zl:vs.length<=sizeLine:=by rw[sizeLine_eq];lia
 refine Calls.call_function_entry kind_sorted plain_sorted entry_sorted (args_sorted1 _) ?_;unfold Builtin.«sorted»;refine wpAny_bind (m:=checkCount "sorted" 1 1 _) (wpAny_pure (wpAny_bind (collect_list hl ?_ zl)));refine wpAny_bind (wpAny_newList ?_ zl);generalize hh:(s.heap.push (seqObj "list" #[] 0)).update s.heap.objs.size (Obj.mapSeq (·++vs.toArray))=h1;have hsz:h1.objs.size=s.heap.objs.size + 1:=by rw[<- hh,Heap.size_update,size_push']
 show wpAny _ _ _ _ _ { s with heap:=h1.push (seqObj "list" vs.toArray 0) };have hoL:(h1.push (seqObj "list" vs.toArray 0)).get? h1.objs.size=some (seqObj "list" vs.toArray 0):=Heap.get?_push_size _ rfl;have k0:∀ b o,s.heap.get? b=some o->b≠h1.objs.size/\(h1.push (seqObj "list" vs.toArray 0)).get? b=some o:=fun b o e=>by
  have lt:b < s.heap.objs.size:=Heap.lt_size e;refine⟨Nat.ne_of_lt (by rw[hsz];exact Nat.lt_succ_of_lt lt),Heap.get?_push_of_some _ ?_⟩;rw[<- hh,Heap.get?_update_ne _ _ _ _ (Nat.ne_of_lt lt)];exact Heap.get?_push_of_some _ e
 refine wpAny_bind (wpAny_holding (wpAny_call_entry slot_list_sort ⟨_,hoL,rfl⟩ entry_list_sort (yp (s0:=s) (rk:=rk) hoL k0 rfl hz (fun hn=>BA (by show A.units + 1 + 1 + 10 < cLine;lia) hv hn) fun out po so=>⟨_,rfl,?_⟩) (args_list_sort _)));refine wpAny_pure ⟨_,rfl,?_⟩;obtain⟨e,he⟩:=sortedAll_at s.heap vs out.toArray;have q':=q (sortedAll s.heap vs out.toArray) (s.heap.objs.size + 1) e out (Nat.le_succ _) (fun b o e=>sortedAll_old e) he po so;unfold sortedAll at q';rw[hh,<- hsz] at q';exact q'
end
end TS
namespace L2
open PySem PySem.Spec PyProof.Rows
noncomputable def rkV (H:Hp):V->Int
 | .ref a=>match H a with
  | some (.tup [.ref b,.int m])=>match H b with
   | some (.tup [.int y,.int z])=>TS.r3 y z m
   | _=>0
  | _=>0
 | _=>0
def T3 (H:Hp) (x:V):Prop:=∃ a b y z m,x=.ref a/\H a=some (.tup [.ref b,.int m])/\H b=some (.tup [.int y,.int z])/\TS.Bd y z m
noncomputable def rkK (H:Hp) (k:Keyed):Int:=match k.1 with
 | .ref a=>rkV H (.ref a)
 | _=>0
theorem T3.rk {H:Hp} {a b:Addr} {y z m:Int} (h1:H a=some (.tup [.ref b,.int m])) (h2:H b=some (.tup [.int y,.int z])):rkV H (.ref a)=TS.r3 y z m:=by
 unfold rkV;simp only[h1,h2]
theorem Vals.perm {us out:Lv} (p:us.Perm out):∀ {ys:List V},Vals ys us->∃ ys',Vals ys' out/\ys.Perm ys':=by
 induction p with
 | nil=>intro ys h;exact⟨ys,h,List.Perm.refl _⟩
 | cons x _ ih=>
  intro ys h;cases h with
  | cons r h=>
   obtain⟨ys',h1,h2⟩:=ih h;exact⟨_,.cons r h1,h2.cons _⟩
 | swap x y l=>
  intro ys h;cases h with
  | cons r h=>
   cases h with
   | cons r2 h=>exact⟨_,.cons r2 (.cons r h),List.Perm.swap _ _ _⟩
 | trans _ _ ih1 ih2=>
  intro ys h;obtain⟨y1,h1,p1⟩:=ih1 h;obtain⟨y2,h2,p2⟩:=ih2 h1;exact⟨y2,h2,p1.trans p2⟩
theorem wg {H:Hp}:∀ {ys:List V} {us:Lv},Vals ys us->(∀ x∈ys,T3 H x)->us.Pairwise (fun x y=>rkK H (x,x)<=rkK H (y,y))->ys.Pairwise (fun x y=>rkV H x<=rkV H y)
 | _,_,.nil,_,_=>List.Pairwise.nil
 | x::ys,u::us,.cons r h,ht,hp=>by
  obtain⟨h1,h2⟩:=List.pairwise_cons.mp hp;refine List.pairwise_cons.mpr ⟨fun y hy=>?_,wg h (fun x hx=>ht x (.tail _ hx)) h2⟩;obtain⟨i,hi⟩:=List.getElem?_of_mem hy;obtain⟨v,hv,rv⟩:=Vals.get h hi;have:=h1 v (List.mem_of_getElem? hv);obtain⟨a,_,_,_,_,rfl,_⟩:=ht x (.head _);obtain⟨b,_,_,_,_,rfl,_⟩:=ht y (.tail _ hy);cases r;cases rv;exact this
def HI (xs:List V) (H:Hp) (Q:VK):Prop:=∃ p ys,xs=[.ref p]/\H p=some (.lst ys)/\ys.length<=100000/\(∀ x∈ys,T3 H x)/\∀ l ys',H l=none->ys.Perm ys'->ys'.Pairwise (fun x y=>rkV H x<=rkV H y)->Q (.ref l) (upd H l (.lst ys'))
section
variable {X:Cx}
theorem Ba {k:Nat} (hr:cc k X.A):cK X (.builtin "sorted") HI:=by
 intro pins s σ H xs us Q I r h;obtain⟨p,ys,rfl,hp,hz,ht,q⟩:=h;cases r with
 | cons r0 r1=>
 cases r1;cases r0;obtain⟨its,ra,hl⟩:=L3.l6 I hp;have il:its.length=ys.length:=ra.length.symm;refine TS.uQ (rk:=rkK H) (by have:=hr.un;lia) hl (by lia) (fun v hv=>?_) fun h' L c out hL k' gL po so=>?_
 ·obtain⟨i,hi⟩:=List.getElem?_of_mem hv;obtain⟨x,hx,rx⟩:∃ x,ys[i]?=some x/\RelV x v:=by
   have lt:i < ys.length:=by rw[<- il];exact(gS0 hi).1
   obtain⟨u,hu,ru⟩:=ra.get (gE0 lt);rw[hi] at hu;cases hu;exact⟨_,gE0 lt,ru⟩
  obtain⟨a,b,y,z,m,rfl,h1,h2,bd⟩:=ht x (List.mem_of_getElem? hx);cases rx;obtain⟨i1,r1,t1⟩:=L3.l5 I h1;obtain⟨i2,r2,t2⟩:=L3.l5 I h2;cases r1 with
  | cons e1 r1=>
  cases r1 with
  | cons e2 r1=>
  cases r1;cases r2 with
  | cons e3 r2=>
  cases r2 with
  | cons e4 r2=>
  cases r2;cases e1;obtain⟨tk,rfl⟩:=e2;obtain⟨tk1,rfl⟩:=e3;obtain⟨tk2,rfl⟩:=e4;exact⟨a,b,y,z,m,tk,tk1,tk2,rfl,t1,t2,bd,T3.rk h1 h2⟩
 ·obtain⟨ys',v',py⟩:=Vals.perm po.symm ra;have fL:H L=none:=I.hok.fresh hL;have I2:Inv X pins σ H { s with heap:=h',toks:=s.toks }:=I.kept (t':=s.toks) k';have ln:ys'.length<=sizeLine:=by rw[<- py.length_eq,sizeLine_eq];lia
  exact⟨.ref L,_,I2.adopt (c:=c) (us:=out) ((I.pP hL fL).heap fL) gL v' ln,rfl,q L ys' fL py (wg v' (fun x hx=>ht x (py.mem_iff.mpr hx)) so)⟩
end
end L2
namespace L3
open PySem L2 PySem.Spec PyProof.Rows
abbrev PM:=Int×Int×Int
noncomputable abbrev pmD (p:PM):D:=.tup [.tup [.int p.1,.int p.2.1],.int p.2.2]
def pmL (p q:PM):Prop:=p.1 < q.1\/p.1=q.1/\(p.2.1 < q.2.1\/p.2.1=q.2.1/\p.2.2<=q.2.2)
def pmB (p:PM):Prop:=TS.Bd p.1 p.2.1 p.2.2
def JT (ds:List D) (Γ:G) (Q:RV->G->Prop):Prop:=∃ ps:List PM,ds=[.lst (ps.map pmD)]/\ps.length<=100000/\(∀ p∈ps,pmB p)/\∀ ps',ps.Perm ps'->ps'.Pairwise pmL->Q (.fr (.lst (ps'.map pmD))) Γ
section
variable {K:Fg0} {X:Cx} {F:Hp}
theorem uX {p:PM} {v:V} (h:Rep K F (pmD p) v):∃ a b,v=.ref a/\F a=some (.tup [.ref b,.int p.2.2])/\F b=some (.tup [.int p.1,.int p.2.1]):=by
 obtain⟨a,vs,rfl,h1,v1,ws1,rfl,h2,v2,ws2,rfl,h3,h4⟩:=h;cases h4;cases h3;obtain⟨b,us,rfl,h5,u1,us1,rfl,h6,u2,us2,rfl,h7,h8⟩:=h2;cases h8;cases h6;cases h7;exact⟨a,b,rfl,h1,h5⟩
theorem au.back:∀ {ps:List PM} {vs ws:List V},au K F (ps.map pmD) vs->vs.Perm ws->∃ ps',ps.Perm ps'/\au K F (ps'.map pmD) ws:=by
 intro ps vs ws h p
 induction p generalizing ps with
 | nil=>exact⟨ps,List.Perm.refl _,h⟩
 | cons x _ ih=>
  match ps,h with
  | p::ps,⟨v,ws,e,h1,h2⟩=>
   cases e;obtain⟨ps',p1,h3⟩:=ih h2;exact⟨p::ps',p1.cons _,⟨_,_,rfl,h1,h3⟩⟩
 | swap x y l=>
  match ps,h with
  | p::p2::ps,⟨v,ws,e,h1,v2,ws2,e2,h2,h3⟩=>
   cases e;cases e2;exact⟨p2::p::ps,List.Perm.swap _ _ _,⟨_,_,rfl,h2,_,_,rfl,h1,h3⟩⟩
  | [p],⟨v,ws,e,h1,h2⟩=>cases h2;cases e
  | [],h=>cases h
 | trans _ _ ih1 ih2=>
  obtain⟨p1,a1,b1⟩:=ih1 h;obtain⟨p2,a2,b2⟩:=ih2 b1;exact⟨p2,a1.trans a2,b2⟩
theorem wN {H:Hp} (sm:aw F H):∀ {ps:List PM} {vs:List V},(∀ p∈ps,pmB p)->au K F (ps.map pmD) vs->vs.Pairwise (fun x y=>rkV H x<=rkV H y)->ps.Pairwise pmL
 | [],_,_,_,_=>List.Pairwise.nil
 | p::ps,vs,hb,⟨v,ws,e,h1,h2⟩,hp=>by
  subst e;obtain⟨q1,q2⟩:=List.pairwise_cons.mp hp;refine List.pairwise_cons.mpr ⟨fun q hq=>?_,wN sm (fun p hp=>hb p (.tail _ hp)) h2 q2⟩;obtain⟨i,hi⟩:=List.getElem?_of_mem hq;obtain⟨u,hu,ru⟩:=h2.get (i:=i) (d:=pmD q) (by rw[List.getElem?_map,hi];rfl);have:=q1 u (List.mem_of_getElem? hu);obtain⟨a,b,rfl,g1,g2⟩:=uX h1;obtain⟨a',b',rfl,g3,g4⟩:=uX ru;rw[T3.rk (sm _ _ g1) (sm _ _ g2),T3.rk (sm _ _ g3) (sm _ _ g4)] at this;have bp:=hb p (.head _);have bq:=hb q (.tail _ hq);obtain⟨a1,a2,a3,a4,a5,a6⟩:=bp;obtain⟨b1,b2,b3,b4,b5,b6⟩:=bq;unfold TS.r3 at this;unfold pmL;lia
theorem Jh {k:Nat} (hr:cc k X.A):B3 K X (.builtin "sorted") HI JT:=⟨Ba hr,by
 intro B F σ H Γ vs ds Q QQ e r q k;obtain⟨ps,rfl,hz,hb,q⟩:=q;obtain⟨v,rfl,p,ys,rfl,h1,h2⟩:=r.one;have hl:ys.length=ps.length:=by rw[h2.length,lM0]
 refine⟨p,ys,rfl,h1,by lia,fun x hx=>?_,fun l ys' hf py so=>?_⟩
 ·obtain⟨i,hi⟩:=List.getElem?_of_mem hx;obtain⟨d,hd,rd⟩:=h2.AG hi;rw[List.getElem?_map] at hd;obtain⟨pm,hm,rfl⟩:=Option.map_eq_some_iff.mp hd;obtain⟨a,b,rfl,g1,g2⟩:=uX rd;exact⟨a,b,_,_,_,rfl,e.sub _ _ g1,e.sub _ _ g2,hb pm (List.mem_of_getElem? hm)⟩
 ·obtain⟨ps',pp,rp⟩:=au.back h2 py;exact k _ _ (fY e hf rp (q ps' pp (wN e.sub (fun p hp=>hb p (pp.mem_iff.mpr hp)) rp so)))⟩
end
end L3
namespace L2
open PySem PySem.Spec PyProof.Rows
noncomputable def JK (K:Fg0) (a:Addr) (n:Nat):It:=
 ⟨fun i H=>i < n/\∃ xs x,SqL K H a xs/\xs[n - 1 - i]?=some x,fun i H x H'=>H'=H/\∀ xs,SqL K H a xs->xs[n - 1 - i]?=some x,fun i _=>n<=i⟩
theorem yW {P:Program} {w:World} {K:Fg0} {tg:Expr} (a it:Addr) (n:Nat):Turn P w K tg (JK K a n) [it] it (fun i h=>i<=n/\h.IsRevIter it a ((n:Int) - 1 - (i:Int))) where
 mem:=by simp
 obj:=fun i h st b hb=>by
  have e:b=it:=by simpa using hb
  subst e;obtain⟨_,o,e,c,d⟩:=st;exact⟨o,e,fun v z=>by rw[d] at z;cases z⟩
 keep:=fun i h h' st k=>⟨st.1,st.2.at fun o e=>k it (by simp) o e⟩
 item:=by
  intro X hP hw hK hc i pins s σ H E I hf st hg;subst hP hw hK;obtain⟨hi,xs,x,hq,hx⟩:=hg;obtain⟨its,rv,p,hz⟩:=I.list hq;obtain⟨u,hu,ru⟩:=rv.get hx;obtain⟨f0,f1,f2,f3,f4,f5⟩:=hf it (by simp);have e1:(n:Int) - 1 - (i:Int)=((n - 1 - i:Nat):Int):=by lia
  have st2:=st.2;rw[e1] at st2;refine wpAny_pyNext_rev_item st2 p.isList (x:=u) (by simpa using hu) fun h' st' sb=>?_;have I1:Inv X pins σ H { s with heap:=h' }:=I.turned (t':=s.toks) (fun b o hb e=>(sb.2 b hb).trans e) f0 f1 f3 f4 f5;obtain⟨o,e,c,d⟩:=id st';have e2:((n - 1 - i:Nat):Int) - 1=(n:Int) - 1 - ((i + 1:Nat):Int):=by lia
  rw[e2] at st';exact⟨u,rfl,uc (s:={ s with heap:=h' }) e c d (by decide) ⟨x,H,I1,ru,⟨rfl,fun ys hy=>by rw[I.tU hy hq];exact hx⟩,⟨hi,st'⟩,fun b hb=>(hf b hb).1⟩⟩
 done:=by
  intro X hP hw hK hc i pins s σ H E I hf st hg;subst hP hw hK;obtain⟨f0,f1,f2,f3,f4,f5⟩:=hf it (by simp);obtain⟨hi,st2⟩:=st;have hg:n<=i:=hg;rw[show (n:Int) - 1 - (i:Int)=-1 by lia] at st2;exact wpAny_pyNext_rev_end (I.ok.hd hc) st2 fun h' eb=>⟨rfl,I.turned (t':=s.toks) (fun b o hb e=>eb b o hb e) f0 f1 f3 f4 f5⟩
 self:=fun _ _ _ _ _ st h=>wpAny_pyIter_revIter st.2 h
section
variable {X:Cx} {tg:Expr}
def D6 (K:Fg0) (ta:TA):TI:=fun σ H R=>ta σ H fun vs H1=>∃ a xs,vs=[.ref a]/\SqL K H1 a xs/\R (JK K a xs.length) H1
theorem Cn {a:Expr} {ta:TA} {p' pos':Pos} (hg':Gl X "reversed") (hm':X.mg "reversed"=none) (ha:PA X [a] ta) (hs':autoParam (starEach [a] X.env=[(false,eval a X.env)]) wE) :
  PI X tg (.Call (.Name "reversed" p') [a] [] pos') (D6 X.K ta):=by
 intro pins s σ H R I h;refine Call_ (jZ I hg' hm' (by decide +kernel:bootBuiltins "reversed"=some (.type "reversed")) (PyProof.Rows.callWith_type1 (thn (ha pos' pins s σ H _ I h) fun us s1 Z=>?_) hs' rfl));obtain⟨vs,H1,I1,r1,q1⟩:=Z;obtain⟨l,xs,e,hq,q⟩:=q1;subst e;obtain⟨u,rfl,ru⟩:=vals1 r1;cases ru;obtain⟨its,rv,p,hz⟩:=I1.list hq;have hl:its.toArray.size=xs.length:=by rw[List.size_toArray];exact rv.length.symm
 refine call_reversed_list p.isList ?_;rw[hl];have st:({ s1 with heap:=s1.heap.push (revObj l ((xs.length:Int) - 1)) }:Shared).heap.IsRevIter s1.heap.objs.size l ((xs.length:Int) - 1):=⟨_,Heap.get?_push_size _ rfl,rfl,rfl⟩;refine wpAny_pyIter_revIter st ?_;refine⟨s1.heap.objs.size,[s1.heap.objs.size],_,_,H1,rfl,I1.kept (t':=s1.toks) fun b o e=>Heap.get?_push_of_some _ e,yW l _ xs.length,⟨Nat.zero_le _,?_⟩,fun b hb=>?_,q⟩
 ·rw[show (xs.length:Int) - 1 - ((0:Nat):Int)=(xs.length:Int) - 1 by lia];exact st
 ·have e:b=s1.heap.objs.size:=by simpa using hb
  subst e;exact I1.pP (Nat.le_refl _) (I1.hok.fresh (Nat.le_refl _))
end
end L2
namespace L3
open PySem L2 PySem.Spec
section
variable {K:Fg0} {X:Cx}
def IP (t3:TA3) (Γ:G) (Q:List D->G->Prop):Prop:=t3 Γ fun ds Γ1=>∃ xs,ds=[.lst xs]/\Q xs.reverse Γ1
theorem C5 {tg a:Expr} {ta:TA} {a3:TA3} {p' pos':Pos} (hK:X.K=K) (hg':Gl X "reversed") (hm':X.mg "reversed"=none) (ha:P3A K X [a] ta a3) (hs':autoParam (starEach [a] X.env=[(false,eval a X.env)]) wE) :
  P3I K X tg (.Call (.Name "reversed" p') [a] [] pos') (D6 K ta) (IP a3):=⟨by subst hK;exact Cn hg' hm' ha.pe hs',fun B F σ H Γ Q R e q k=>
 ha.rf B F σ H Γ _ _ e q fun vs H' Z=>by
  obtain⟨F',Γ',ds,s,e',rv,xs,h1,q'⟩:=Z;subst h1;obtain⟨v,ws,rfl,r1,r2⟩:=rv;cases r2;obtain⟨p,us,rfl,g1,g2⟩:=r1;have ul:us.length=xs.length:=g2.length;refine⟨p,us,rfl,SqL.of (e'.sub _ _ g1),?_⟩;rw[ul];refine k _ H' F' Γ' xs.reverse s e' ⟨fun i H'' sm lt=>?_,fun i H'' sm ei=>?_,fun i H'' x H3 d sm hd y=>?_⟩ q'
  ·rw[List.length_reverse] at lt;have lt2:xs.length - 1 - i < us.length:=by lia
   exact⟨lt,us,us[xs.length - 1 - i],SqL.of (sm _ _ g1),gE0 lt2⟩
  ·rw[List.length_reverse] at ei;exact Nat.le_of_eq ei.symm
  ·obtain⟨e1,y⟩:=y;obtain⟨d',hd',r⟩:=g2.AG (y us (SqL.of (sm _ _ g1)));have lt:i < xs.length:=by have:=(gS0 hd).1;rwa [List.length_reverse] at this
   rw[List.getElem?_reverse lt,hd'] at hd;cases hd;exact .inl ⟨e1,r⟩⟩
end
end L3
namespace L2
open PySem PySem.Spec PyProof.Rows
theorem wo:∀ {ns:Li} {us:Lv},Vals (ns.map V.int) us->∃ ps:List (Int×Tok),us=ps.map (fun p=>Value.int p.1 p.2)/\ps.map (·.1)=ns
 | [],_,.nil=>⟨[],rfl,rfl⟩
 | n::ns,u::us,.cons r h=>by
  obtain⟨ps,h1,h2⟩:=wo h;obtain⟨t,rfl⟩:=r;exact⟨(n,t)::ps,by rw[h1];rfl,by rw[<- h2];rfl⟩
def sN (ns:Li):Prop:=ns.length<=100000/\∀ n∈ns,-(10 ^ 13)<=n/\n<=10 ^ 13
theorem y8:∀ {ns:Li},(∀ n∈ns,-(10 ^ 13)<=n/\n<=10 ^ 13)->-(10 ^ 13 * (ns.length:Int))<=ns.sum/\ns.sum<=10 ^ 13 * (ns.length:Int)
 | [],_=>by simp
 | n::ns,h=>by
  have h1:=h n (.head _);have h2:=y8 (ns:=ns) fun m hm=>h m (.tail _ hm);rw[List.sum_cons,List.length_cons];lia
theorem sN.fits {ns:Li} (h:sN ns):PySem.SumFits ns:=fun j hj=>by
 have h1:=h.2 (ns.getD j 0) (by rw[List.getD_eq_getElem?_getD,gE0 hj];exact List.getElem_mem hj);have h2:=y8 (ns:=ns.take (j + 1)) fun m hm=>h.2 m (List.mem_of_mem_take hm);have h3:(ns.take (j + 1)).length<=100000:=by rw[List.length_take];have:=h.1;lia
 constructor
 ·unfold InLong;lia
 ·unfold InLong;lia
section
variable {X:Cx}
theorem A9 (hc:X.calm=true):cK X (.builtin "sum") (fun xs H Q=>∃ p ns,xs=[.ref p]/\H p=some (.lst (ns.map V.int))/\sN ns/\Q (.int ns.sum) H):=by
 intro pins s σ H xs us Q I r h;obtain⟨p,ns,rfl,hp,ok,q⟩:=h;cases r with
 | cons r0 r1=>
 cases r1;cases r0;obtain⟨its,ra,hl⟩:=L3.l6 I hp;obtain⟨ps,e1,e2⟩:=wo ra;have e3:its.toArray=intItems ps.toArray:=by rw[e1];unfold intItems;simp
 rw[e3] at hl;have fit:=ok.fits;refine sum_intList (I.ok.hd hc) hl (fun j hj=>?_) fun h' tk t' k=>?_
 ·rw[numAt_eq,preSum_eq];simp only[e2];exact fit j (by rw[<- e2];simpa using hj)
 ·refine⟨.int ns.sum,H,I.kept (t':=tk) k,⟨t',?_⟩,q⟩;rw[preSum_eq];simp only[e2];rw[List.take_of_length_le (by rw[<- e2];simp)]
end
end L2
namespace L3
open PySem L2 PySem.Spec
section
variable {K:Fg0} {X:Cx}
def JS (ds:List D) (Γ:G) (Q:RV->G->Prop):Prop:=∃ ns:Li,ds=[.lst (ns.map D.int)]/\sN ns/\Q (.fz (.int ns.sum)) Γ
theorem Ej (hc:X.calm=true):B3 K X (.builtin "sum") (fun xs H Q=>∃ p ns,xs=[.ref p]/\H p=some (.lst (ns.map V.int))/\sN ns/\Q (.int ns.sum) H) JS:=⟨A9 hc,by
 intro B F σ H Γ vs ds Q QQ e r q k;obtain⟨ns,rfl,hz,q⟩:=q;obtain⟨v,rfl,p,ys,rfl,h1,h2⟩:=r.one;have ev:=au.kF h2;subst ev;exact⟨p,ns,rfl,h1,hz,k _ _ (fm e q)⟩⟩
end
section
variable {K:Fg0} {X:Cx} {pos:Pos}
theorem zz {ta:TE} {a3:TE3} (h:Ref K ta a3):Ref K ta (fz3 a3):=B_ h
theorem qU {i:Nat} {x:Str} {px spos:Pos} {elt i0 t0 i1 t1:Expr} {sc:Scope} {Nc:Ls} {fr:On} {wi:TI} {i3:TI3} {g:TG} {g3:TG3} {wi1:TI} {j3:TI3} {g1:TG} {h3:TG3} {te:TE} {e3:TE3} (hN:X.N.Nodup) (hi':X.N[i]?=some x) (hx:X.env.scope.names.lookup x=some .local)
  (hc:X.calm=true) (hi:P3I K X t0 i0 wi i3) (Bk:Blk X.N X.env.scope sc Nc fr)
  (hg:∀ s₀ H₀ C ex pn,P3G K (aF X sc Nc s₀ H₀ C ex pn) t0 g g3) (hj:∀ s₀ H₀ C ex pn,P3I K (aF X sc Nc s₀ H₀ C ex pn) t1 i1 wi1 j3) (hh:∀ s₀ H₀ C ex pn,P3G K (aF X sc Nc s₀ H₀ C ex pn) t1 g1 h3)
  (he:∀ s₀ H₀ C ex pn,P3 K (aF X sc Nc s₀ H₀ C ex pn) elt te e3) (hs1:∀ s₀ H₀ C ex pn x,foldedSetIterable i1 (aF X sc Nc s₀ H₀ C ex pn).env x=pure x:=by intros;rfl) (nd:autoParam ((fr.filterMap id).Nodup) wP)
  (hsw:autoParam (swapsWith (.ListComp elt [⟨t0,i0,[],0⟩,⟨t1,i1,[],0⟩] sc pos) (some (.Name x px)) spos.line X.env=pure true) wE) (hs:autoParam (∀ x,foldedSetIterable i0 X.env x=pure x) wT) :
  P3S K X (.Assign [.Name x px] (.ListComp elt [⟨t0,i0,[],0⟩,⟨t1,i1,[],0⟩] sc pos) spos) (eZ (gJ fr wi g (ux wi1 g1 (lD te))) (cS i)) (sQ i (fz3 (gS fr i3 g3 (fX j3 h3 (k7 e3))))):=
 ⟨(sV hN hi' hx hc hi Bk hg hj hh he hs1 nd hsw hs).pe,jg (zz (eX nd hi.rf (hg X.s₀ X.H₀ 0 [] []).rf (nT (hj X.s₀ X.H₀ 0 [] []).rf (hh X.s₀ X.H₀ 0 [] []).rf (fj (he X.s₀ X.H₀ 0 [] []).rf))))⟩
theorem kj {i:Nat} {x:Str} {px spos:Pos} {elt iter tg c:Expr} {sc:Scope} {Nc:Ls} {fr:On} {wi:TI} {i3:TI3} {g:TG} {g3:TG3} {te:TE} {e3:TE3} {tc:TT} {c3:TT3} (hN:X.N.Nodup) (hi':X.N[i]?=some x) (hx:X.env.scope.names.lookup x=some .local)
  (hc:X.calm=true) (hi:P3I K X tg iter wi i3) (Bk:Blk X.N X.env.scope sc Nc fr)
  (hg:∀ s₀ H₀ C ex pn,P3G K (aF X sc Nc s₀ H₀ C ex pn) tg g g3) (ht:∀ s₀ H₀ C ex pn,P3T K (aF X sc Nc s₀ H₀ C ex pn) c tc c3) (he:∀ s₀ H₀ C ex pn,P3 K (aF X sc Nc s₀ H₀ C ex pn) elt te e3) (nd:autoParam ((fr.filterMap id).Nodup) wP)
  (hsw:autoParam (swapsWith (.ListComp elt [⟨tg,iter,[c],0⟩] sc pos) (some (.Name x px)) spos.line X.env=pure true) wE) (hs:autoParam (∀ x,foldedSetIterable iter X.env x=pure x) wT) :
  P3S K X (.Assign [.Name x px] (.ListComp elt [⟨tg,iter,[c],0⟩] sc pos) spos) (eZ (gJ fr wi g (bIf tc (lD te))) (cS i)) (sQ i (fz3 (gS fr i3 g3 (yJ c3 (k7 e3))))):=
 ⟨(sU hN hi' hx hc hi Bk hg ht he nd hsw hs).pe,jg (zz (eX nd hi.rf (hg X.s₀ X.H₀ 0 [] []).rf (nk (ht X.s₀ X.H₀ 0 [] []).rf (fj (he X.s₀ X.H₀ 0 [] []).rf))))⟩
end
end L3
namespace L2
open PySem PySem.Spec PyProof.Rows
section
variable {prog:Program} {w:World} {A:Around} {E:VS} {s:Shared}
theorem yw {b:Addr} {new:Array Value} {m:Nat} {msg:String} {Q:Array Value->Shared->Prop} (e:s.heap.get? b=some { cls:=.type "list",data:=.seq new m }) (h:Q new s) :
  wpAny (model prog w) A (Builtin.List.listAllItems (.ref b) msg) Q E s:=by
 unfold Builtin.List.listAllItems;refine wpAny_bind (wpAny_typeOf (T:="list") ⟨_,e,rfl⟩ ?_);rw[if_pos (by decide)];unfold Builtin.List.listItems;exact wpAny_bind (wpAny_seqItems e rfl (wpAny_pure h))
theorem t6 {c n:Nat} (h:c<=n):sliceBounds none (some (c:Int)) none n=(0,(c:Int),1):=by
 have h1:¬ ((c:Int) < 0):=by lia
 have h2:max 0 (min (c:Int) n)=c:=by lia
 simp [sliceBounds,h1,h2]
theorem vE {sl:Addr} {vu:Value} {c:Nat} {Q:Value×Value×Value->Shared->Prop} (hs:s.heap.IsSliceOf sl .none vu .none) (pu:IsPart vu (some (c:Int)))
  (h:Q (rawPart none,rawPart (some (c:Int)),rawPart none) s):wpAny (model prog w) A (Builtin.List.listSliceParts (.ref sl)) Q E s:=by
 obtain⟨o,ho,_,hd⟩:=hs;rw[listSliceParts_eq];refine wpAny_bind (wpAny_field ho hd (x:=.none) rfl (wpAny_bind (wpAny_listPart .none ?_)));rw[if_neg (show ¬ ((rawPart none == rawInt 0)=true) from Bool.false_ne_true)];exact wpAny_bind (wpAny_field ho hd (x:=.none) rfl (wpAny_bind (wpAny_listPart .none (wpAny_bind (wpAny_field ho hd (x:=vu) rfl (wpAny_bind (wpAny_listPart pu (wpAny_pure h))))))))
theorem AD {l b sl:Addr} {items new:Array Value} {n m:Nat} {vu:Value} {c:Nat} {Q:Unit->Shared->Prop} (e:s.heap.get? l=some { cls:=.type "list",data:=.seq items n }) (e2:s.heap.get? b=some { cls:=.type "list",data:=.seq new m })
  (hne:l≠b) (hs:s.heap.IsSliceOf sl .none vu .none) (pu:IsPart vu (some (c:Int))) (hc:c<=items.size) (hz:items.size + new.size<=sizeLine)
  (h:Q () { s with heap:=s.heap.update l (Obj.mapSeq fun xs=>xs.extract 0 0++new++xs.extract c xs.size) }):wpAny (model prog w) A (setItem (.ref l) (.ref sl) (.ref b)) Q E s:=by
 have tl:s.TypeIs (.ref l) "list":=⟨_,e,rfl⟩;have ts:s.TypeIs (.ref sl) "slice":=by obtain⟨o,ho,hcl,_⟩:=hs;exact⟨o,ho,hcl⟩
 unfold setItem
 try with_reducible refine wpAny_holding ?_
 first | refine wpAny_bind (wpAny_pure ?_) | skip
 refine wpAny_bind (wpAny_sequenceKey tl (by decide) ?_);refine wpAny_bind (wpAny_callSpecial?_slot (name:=Str.ofString "__setitem__") tl slot_list_setitem (wpAny_call_entry slot_list_setitem tl entry_list_setitem ?_ (args_list_setitem _ _ _)));show wpAny _ _ (Builtin.List.listSubscript? (.ref sl) >>= _) _ _ s;refine wpAny_bind (wpAny_bind (wpAny_specialOf ts slice_no_index (wpAny_pure ?_)));show wpAny _ _ (typeOf (.ref sl) >>= _) _ _ s;refine wpAny_bind (wpAny_typeOf ts ?_);rw[if_neg (by decide)];refine wpAny_bind (vE hs pu ?_);have hb:Builtin.List.listSameRef (.ref l) (.ref b)=false:=beq_eq_false_iff_ne.mpr hne;dsimp only;rw[if_neg (by rw[hb];exact Bool.false_ne_true)];refine wpAny_bind (yw e2 ?_);refine wpAny_bind (wpAny_bind (wpAny_seqItems e rfl (wpAny_pure ?_)));have q:sliceIndices (rawPart none) (rawPart (some (c:Int))) (rawPart none) items.size=pure (0,(c:Int),1):=by
  rw[sliceIndices_raw none (some (c:Int)) none items.size (by simp),t6 hc]
 refine wpAny_bind (wpAny_of_eq q ?_);dsimp only;rw[if_pos (by decide)];refine wpAny_bind (wpAny_rule ?_);rw[if_neg (by rw[tL hz];exact Bool.false_ne_true)];have hm:(max 0 (c:Int)).toNat=c:=by lia
 rw[hm];refine wpAny_bind (wpAny_updateSeq (hz:=Nat.le_trans (Nat.le_add_right _ _) hz) (_hz':=?_) e rfl ?_)
 ·refine wpAny_bind (wpAny_letGo ?_)
  first
   | exact wpAny_bind (wpAny_pure (wpAny_pure ⟨.none,rfl,wpAny_pure h⟩))
   | exact wpAny_pure ⟨.none,rfl,wpAny_pure h⟩
 ·simp only[Array.size_append,Array.size_extract];lia
end
section
variable {X:Cx}
theorem Df {pins:Pn} {s:Shared} {σ:St} {H:Hp} {l b sl:Addr} {xs ys:List V} {c:Nat} {vu:Value} {Q:Unit->Shared->Prop} (I:Inv X pins σ H s) (hH:H l=some (.lst xs)) (hB:H b=some (.lst ys)) (hne:l≠b)
  (hs:s.heap.IsSliceOf sl .none vu .none) (pu:IsPart vu (some (c:Int))) (hc:c<=xs.length) (hz:xs.length + ys.length<=sizeLine) (h:∀ s',Inv X pins σ (upd H l (.lst (ys++xs.drop c))) s'->Q () s') :
  wpAny (model X.prog X.w) X.A (setItem (.ref l) (.ref sl) (.ref b)) Q X.xe s:=by
 obtain⟨its,n,r,e,_⟩:=I.lst hH;obtain⟨its2,n2,r2,e2,_⟩:=I.lst hB;have l1:=r.length;have l2:=r2.length;refine AD e e2 hne hs pu (by rw[List.size_toArray];lia) (by rw[List.size_toArray,List.size_toArray];lia) (h _ ?_);refine I.Ar (its':=its2++its.drop c) (n':=if ((its2++its.drop c).toArray.size == its.toArray.size)=true then n else n + 1) hH e ?_ (r2.append (r.drop c)) (by rw[List.length_append,List.length_drop];lia) s.toks;have q:its.toArray.extract 0 0++its2.toArray++its.toArray.extract c its.toArray.size=(its2++its.drop c).toArray:=by
  apply Array.toList_inj.mp;simp;exact List.take_of_length_le (by simp)
 unfold Obj.mapSeq;dsimp only;rw[q]
def IW (to:TE) (ti:TE):TG:=fun v σ H Q=>to σ H fun o H1=>ti σ H1 fun i H2=>∃ p b xs ys,∃ c:Nat,o=.ref p/\i=.int (c:Int)/\v=.ref b/\H2 p=some (.lst xs)/\H2 b=some (.lst ys)/\p≠b/\c<=xs.length/\xs.length + ys.length<=sizeLine/\Q σ (upd H2 p (.lst (ys++xs.drop c)))
theorem Fe {o i:Expr} {to ti:TE} {p2 pos:Pos} (ho:PE X o to) (hi:PE X i ti)
  (ha:∀ v,assign (.Subscript o (.Slice none (some i) none p2) pos) X.env v=(do
   let ov <- holding [v] (eval o X.env)
   let iv <- holding [v,ov] (eval (.Slice none (some i) none p2) X.env)
   standAt pos
   holding [v,ov,iv] (setItem ov iv v)
   release [iv,v,ov] []):=by intro _;rfl):PG X (.Subscript o (.Slice none (some i) none p2) pos) (IW to ti):=by
 intro pins s σ H v u Q I r h;rw[ha];refine wpAny_bind (wpAny_holding (thn (ho pins s σ H _ I h) fun ov s1 Z=>?_));obtain⟨x,H1,I1,r1,q1⟩:=Z;refine wpAny_bind (wpAny_holding (wpAny_Slice ?_));rw[evalPart_none];refine wpAny_pure ?_;rw[evalPart_some];refine thn (hi pins s1 σ H1 _ I1 q1) fun vu s3 Z=>?_;obtain⟨y,H3,I3,r3,p,b,xs,ys,c,e1,e2,e3,hp,hb,ne,hc,hz,q⟩:=Z;refine wpAny_pure ?_;subst e1 e2 e3;cases r1;cases r;obtain⟨t,rfl⟩:=r3;have I4:Inv X pins σ H3 { s3 with heap:=s3.heap.push { cls:=.type "slice",data:=.fields #[.none,.int (c:Int) t,.none] } }:=I3.kept (t':=s3.toks) fun b ob q=>Heap.get?_push_of_some _ q;exact wpAny_bind (wpAny_standAt (wpAny_bind (wpAny_holding (Df I4 hp hb ne (Heap.IsSliceOf.new ..) (.int _ _) hc hz fun s' I'=>wpAny_release ⟨σ,_,I',q⟩))))
end
end L2
namespace L3
open PySem L2 PySem.Spec PyProof.Rows
section
variable {K:Fg0} {X:Cx} {F F':Hp} {σ σ':L2.St} {H H' H0:Hp} {Γ Γ':G} {pos p2 p3:Pos} {i:Nat} {p:Addr} {qs own:La0} {xss:NR} {st:Stmt} {o k e:Expr} {to te:TE} {e3:TE3}
theorem NSt.put (s:NSt K H0 own i p F σ H Γ xss) (n1:jD F H p qs xss) (sp1:Step H0 own H qs) {y:Nat} {q:Addr} (hq:qs[y]?=some q) (zs:Li):NSt K H0 own i p F σ (upd H q (.lst (zs.map V.int))) Γ (xss.set y zs):=by
 have ly':y < qs.length:=(gS0 hq).1;have ly:y < xss.length:=by rw[<- n1.len];exact ly'
 have hqm:q∈qs:=List.mem_of_getElem? hq;have fq:F q=none:=n1.no _ (.tail _ hqm);have qp:q≠p:=fun z=>(List.nodup_cons.mp n1.nd).1 (z ▸ hqm);have sub':aw F (upd H q (.lst (zs.map V.int))):=fun b o hb=>by rw[aj (aU hb fq)];exact n1.sub b o hb
 refine⟨s.e.move (aw.refl F) sub',s.at_,⟨qs,⟨sub',?_,n1.nd,?_,?_,n1.no⟩,⟨?_,?_,sp1.new⟩⟩,s.po⟩
 ·rw[aj (Ne.symm qp)];exact n1.top
 ·rw[List.length_set];exact n1.len
 ·intro m q' us h1 h2;by_cases e:m=y
  ·subst e;rw[hq] at h1;rw[aB ly] at h2;cases h1;cases h2;rw[aA]
  ·rw[aY (Ne.symm e)] at h2;have ne:q'≠q:=fun z=>by
    subst z;exact e (DU (List.nodup_cons.mp n1.nd).2 h1 hq)
   rw[aj ne];exact n1.row m q' us h1 h2
 ·intro b o hb hn;have:b≠q:=fun e=>by
   rcases sp1.new _ hqm with w | w
   ·exact hn (e ▸ w)
   ·rw[e,w] at hb;cases hb
  rw[aj this];exact sp1.keep b o hb hn
 ·intro b hb;by_cases e:b=q
  ·subst e;rw[aA] at hb;cases hb
  ·rw[aj e] at hb;exact sp1.dom b hb
theorem NSt.row {jy:Nat} {to:TE} {QQ:VK} (s:NSt K H0 own i p F σ H Γ xss) (ns:jD F H p qs xss) (hi:i≠jy) (ho:Ref K to (dZ ix3 (bor i) (bor jy))) {y:Nat} {q:Addr} (hy:Γ[jy]?=some (some (.fz (.int y)))) (hq:qs[y]?=some q)
  (k:∀ H',aw H H'->QQ (.ref q) H'):to σ H QQ:=by
 obtain⟨Fv,ev⟩:=s.Hd ns;have il:i < Γ.length:=(gS0 s.at_).1;have ly':y < qs.length:=(gS0 hq).1;refine ho _ Fv σ H _ (fun r _=>r=.fz (.adr q)) _ ev ?_ fun v H' ⟨F',Γ',r,sF,e',rv,hr'⟩=>?_
 ·have g1:Gat (Γ.set i (some (.fz (.lst (qs.map D.adr))))) i=some (.lst (qs.map D.adr)):=by unfold Gat;rw[aB il]
  have g2:Gat (Γ.set i (some (.fz (.lst (qs.map D.adr))))) jy=some (.int y):=by unfold Gat;rw[aY hi,hy]
  refine⟨⟨_,g1⟩,⟨_,g2⟩,.lst (qs.map D.adr),.int y,g1,g2,.adr q,?_,rfl⟩;unfold L2.atI;rw[lM0,w9 ly'];show (qs.map D.adr)[y]?=_;rw[List.getElem?_map,hq];rfl
 ·subst hr';have ev':v=.ref q:=rv;subst ev';exact k H' fun b o h=>e'.rest b o h fun _ q=>nomatch q
noncomputable def J2 (R:Int->Prop) (_:Tag R):RV->G->Prop:=fun r _=>∃ n:Int,r=.fz (.int n)/\R n
def wB (jy jx:Nat) (e3:TE3):TN:=fun k Γ xss=>e3 Γ (J2 (fun n=>∃ (y x:Nat) (xs:Li),Γ[jy]?=some (some (.fz (.int y)))/\Γ[jx]?=some (some (.fz (.int x)))/\xss[y]?=some xs/\x < xs.length/\k Γ (xss.set y (xs.set x n))) ⟨⟩)
theorem CH {jy jx:Nat} (hi:i≠jy) (ho:P3 K X o to (dZ ix3 (bor i) (bor jy))) (hk:P3B K X k (cX jx) (bor jx)) (he:P3 K X e te e3)
  (ha:∀ v,assign (.Subscript o k p2) X.env v=(do
   let ov <- holding [v] (eval o X.env)
   let iv <- holding [v,ov] (eval k X.env)
   standAt p2
   holding [v,ov,iv] (setItem ov iv v)
   release [v,ov,iv] []):=by intro _;rfl)
  (hs:autoParam (swapsWithSole [.Subscript o k p2] e pos.line X.env=pure false) wE) (hw:autoParam (swappedStores [.Subscript o k p2] e X.env=pure none) wE)
  (h1:autoParam ((assignEach [.Subscript o k p2] X.env).map (·.2)=[assign (.Subscript o k p2) X.env]) wE) :
  N3S K X i (.Assign [.Subscript o k p2] e pos) (eZ te (yC to (cX jx) p8)) (wB jy jx e3):=⟨(B1 (bA ho) hk he ha hs hw h1).pe,fun H0 own p F σ H Γ xss DD k s kk q=>by
 refine he.rf _ F σ H Γ _ _ s.e q fun v H1 Z=>?_;obtain⟨F1,Γ1,r,sF,e1,rv,n,hr,y,x,xs,hy,hx,hrow,lx,q⟩:=Z;subst hr;have ev:v=.int n:=rv;subst ev;have s1:=s.up (H':=H1) fun b o h=>e1.rest b o h fun _ q=>nomatch q
 obtain⟨vx,ax,bx⟩:=s.e.fz jx _ hx;obtain⟨qs,ns,sp⟩:=s1.n;have ly:y < xss.length:=(gS0 hrow).1;obtain⟨qy,hq⟩:∃ qy,qs[y]?=some qy:=⟨_,gE0 (by rw[ns.len];exact ly)⟩;refine s1.row ns hi ho.rf hy hq fun H2 sH=>?_;have s2:=s1.up sH;have n2:=ns.grow sH (ns.sub.trans sH) fun _ _ h=>.inl h;refine⟨vx,ax,qy,_,(x:Int),x,rfl,bx,n2.row y _ _ hq hrow,by rw[lM0];exact w9 lx,?_⟩;have t:=s2.put n2 (sp.grow sH) hq (xs.set x n);rw[List.map_set] at t;exact kk F σ _ Γ _ (aw.refl F) t q⟩
def wC (i jy jc:Nat) (e3:TE3):TN:=fun k Γ xss=>e3 (zd i Γ xss) (FK (fun ns=>∃ (y c:Nat) (xs:Li),Γ[jy]?=some (some (.fz (.int y)))/\Γ[jc]?=some (some (.fz (.int c)))/\xss[y]?=some xs/\c<=xs.length/\xs.length + ns.length<=sizeLine/\k Γ (xss.set y (ns++xs.drop c))) ⟨⟩)
theorem CI {jy jc:Nat} (hi:i≠jy) (ho:P3 K X o to (dZ ix3 (bor i) (bor jy))) (hk:P3B K X k (cX jc) (bor jc)) (he:P3 K X e te e3)
  (ha:∀ v,assign (.Subscript o (.Slice none (some k) none p3) p2) X.env v=(do
   let ov <- holding [v] (eval o X.env)
   let iv <- holding [v,ov] (eval (.Slice none (some k) none p3) X.env)
   standAt p2
   holding [v,ov,iv] (setItem ov iv v)
   release [iv,v,ov] []):=by intro _;rfl)
  (hs:autoParam (swapsWithSole [.Subscript o (.Slice none (some k) none p3) p2] e pos.line X.env=pure false) wE) (hw:autoParam (swappedStores [.Subscript o (.Slice none (some k) none p3) p2] e X.env=pure none) wE)
  (h1:autoParam ((assignEach [.Subscript o (.Slice none (some k) none p3) p2] X.env).map (·.2)=[assign (.Subscript o (.Slice none (some k) none p3) p2) X.env]) wE) :
  N3S K X i (.Assign [.Subscript o (.Slice none (some k) none p3) p2] e pos) (eZ te (IW to (cX jc))) (wC i jy jc e3):=⟨q8 he.pe (Fe ho.pe hk.pe ha) hs hw h1,fun H0 own p F σ H Γ xss DD k s kk q=>by
 refine s.eval he.rf q fun z H1 ns ⟨y,c,xs,hy,hc,hrow,lc,lz,q⟩ hz sH1 hv=>?_;have s1:=s.up sH1;obtain⟨vc,ac,bc⟩:=s.e.fz jc _ hc;obtain⟨qs,n0,sp0⟩:=s.n;have n1:=n0.grow sH1 (n0.sub.trans sH1) fun _ _ h=>.inl h;have ly:y < xss.length:=(gS0 hrow).1;obtain⟨qy,hq⟩:∃ qy,qs[y]?=some qy:=⟨_,gE0 (by rw[n0.len];exact ly)⟩;refine s1.row n1 hi ho.rf hy hq fun H2 sH=>?_;have s2:=s1.up sH;have n2:=n1.grow sH (n1.sub.trans sH) fun _ _ h=>.inl h;have ne:qy≠z:=fun e=>by
  have:=n0.row y _ _ hq hrow;rw[e,hz] at this;cases this
 refine⟨vc,ac,qy,z,xs.map V.int,ns.map V.int,c,rfl,bc,rfl,n2.row y _ _ hq hrow,sH _ _ hv,ne,by rw[lM0];exact lc,by rw[lM0,lM0];exact lz,?_⟩;have t:=s2.put n2 ((sp0.grow sH1).grow sH) hq (ns++xs.drop c);rw[List.map_append,List.map_drop] at t;exact kk F σ _ Γ _ (aw.refl F) t q⟩
noncomputable def uA:G->Prop
 | []=>True
 | none::Γ=>uA Γ
 | some (.fz _)::Γ=>uA Γ
 | _::_=>False
theorem uA.at:∀ {Γ:G} {k:Nat} {s:Sl},uA Γ->Γ[k]?=some (some s)->∃ d,s=.fz d
 | none::Γ,0,s,_,h=>by simp at h
 | some (.fz d)::Γ,0,s,_,h=>by simp at h;exact⟨d,h.symm⟩
 | none::Γ,k + 1,s,a,h=>uA.at (Γ:=Γ) (k:=k) a (by simpa using h)
 | some (.fz d)::Γ,k + 1,s,a,h=>uA.at (Γ:=Γ) (k:=k) a (by simpa using h)
 | some (.ow d)::Γ,_,_,a,_=>a.elim
 | some (.ln d)::Γ,_,_,a,_=>a.elim
 | [],_,_,_,h=>by simp at h
def rh (i:Nat) (s3:TS3):TN:=fun k Γ xss=>s3 { nx:=fun Γ'=>Γ'[i]?=Γ[i]?/\uA Γ'/\k Γ' xss,rt:=fun _ _=>False } Γ
theorem Af {t:TS} {s3:TS3} (h:P3S K X st t s3):N3S K X i st t (rh i s3):=⟨h.pe,fun H0 own p F σ H Γ xss DD k s kk q=>by
 refine h.rf _ F σ H Γ DD { nx:=fun Γ'=>Γ'[i]?=Γ[i]?/\uA Γ'/\k Γ' xss,rt:=fun _ _=>False } s.e ⟨fun F' σ' H' Γ' sF e' Z=>?_,fun _ _ _ _ _ _ _ _ _ q=>q.elim,fun _ _ _ _ _ _ q=>q.elim,fun _ _ _ _ _ _ q=>q.elim⟩ q;obtain⟨a,b,q⟩:=Z;have t:=s.grow (F':=F') (H':=H') (fun b o h=>e'.rest b o h fun _ q=>nomatch q) sF e'.sub fun b o h=>e'.new b o h;refine kk F' σ' H' Γ' xss sF ⟨qt e'.sub e'.len fun m s' hm=>?_,a.trans s.at_,t.n,s.po⟩ q;obtain⟨d,rfl⟩:=b.at hm;obtain⟨v,h1,h2⟩:=e'.fz m d hm;exact⟨d,v,rfl,h1,h2⟩⟩
end
end L3
namespace L2
open PySem PySem.Spec PyProof.Rows
section
variable {X:Cx} {f:Addr} {fd:FuncData} {ps:Ls} {k:Nat} {o i e:Expr} {es:List Expr} {p pos:Pos} {te:TE} {t:TA} {sp:Sp}
theorem A_ (o i:Expr) (p:Pos) (args:List Expr) (kws:List Keyword) (pos:Pos) (env:Env):eval (.Call (.Subscript o i p) args kws pos) env=(do
  callWith pos (<- eval (.Subscript o i p) env) [] (backTo pos (starEach args env)) (backToKw pos (keywordEach kws env))):=rfl
def uP (te:TE) (f:Addr) (sp:Sp) (t:TA):TE:=fun σ H Q=>te σ H fun v H1=>v=.ref f/\t σ H1 fun vs H2=>sp vs H2 Q E0
theorem zS (lk:∃ oc od sl,X.K.lookup f=some ⟨oc,od,.func fd,sl⟩) (F:aQ X.prog X.w X.K X.mg X.base CX0 k f fd ps sp) (hr:cc k X.A) (hb:Binds X.K fd ps []) (ho:PE X (.Subscript o i p) te) (ha:PA X (e::es) t)
  (he:autoParam (starEach (e::es) X.env=(false,eval e X.env)::starEach es X.env) wE) (hpl:autoParam ((backTo pos (starEach es X.env)).any (·.1)=false) wE) :
  PE X (.Call (.Subscript o i p) (e::es) [] pos) (uP te f sp t):=by
 intro pins s σ H Q I h;obtain⟨oc,od,sl,lk⟩:=lk;have fa:∀ {h:Heap},X.K.In h->PySem.W.FnAt f h:=fun {h} z=>⟨oc,od,fd,sl,z _ _ lk⟩;rw[A_];refine wpAny_bind (thn (ho pins s σ H _ I h) fun u s1 Z=>?_);obtain⟨v,H1,I1,rv,e1,h2⟩:=Z;subst e1;obtain rfl:u=.ref f:=rv;refine PySem.W.callWith_F (fa I1.kIn) (thn (ha pos pins s1 σ _ _ I1 h2) fun us s2 ⟨vs,H2,I2,r,z⟩=>⟨fa I2.kIn,?_⟩) he hpl;exact nS (dvs:=[]) (ds:=[]) F hr hb .nil nZ I2 r (by rw[List.append_nil];exact z)
end
end L2
namespace L3
open PySem L2 PySem.Spec PyProof.Rows
section
variable {K:Fg0} {X:Cx} {f:Addr} {p pos:Pos} {o i e:Expr} {te:TE} {e3:TE3} {es:List Expr} {t:TA} {t3:dY} {k n:Nat} {fd:FuncData} {ps:Ls} {S:S3}
def oU (e3:TE3) (n:Nat) (f:Addr) (S:S3) (t3:dY) (Γ:G) (Q:RV->G->Prop):Prop:=e3 Γ fun r Γ0=>r=.fz (.adr f)/\t3 Γ0 fun bs Γ1=>bs.length=n/\(cR bs).Nodup/\S (c7 Γ1 (bs.map some)) fun r Γa=>Q r (bK ((bs.map some).map cz) Γ1 Γa)
theorem xh {Γ:G} {Q:RV->G->Prop}:oU e3 n f S t3 Γ Q=(e3 Γ fun r Γ0=>r=.fz (.adr f)/\t3 Γ0 fun bs Γ1=>bs.length=n/\(cR bs).Nodup/\AA S (c7 Γ1 (bs.map some)) ((bs.map some).map cz) Γ1 Q ⟨⟩):=rfl
theorem x9 (ho:Ref K te e3) (h:qF K t t3):Ref K (uP te f (sp3 K n S) t) (oU e3 n f S t3):=by
 intro B F σ H Γ Q QQ e qq kk;refine ho B F σ H Γ _ _ e qq fun v H0 Z=>?_;obtain⟨F0,Γ0,r0,s0,e0,rv0,hr0,q0⟩:=Z;subst hr0;obtain rfl:v=.ref f:=rv0;refine⟨rfl,h B F0 σ H0 Γ0 _ _ e0 q0 fun vs H1 Z=>?_⟩;obtain⟨F1,Γ1,bs,s1,e1,r1,hn,nd,q1⟩:=Z;refine⟨by rw[r1.length];exact hn,F1,_,_,_,e1.args r1 nd,nC,q1,fun r Γa q v H' F' e2 rv=>?_⟩;obtain⟨a,b,c⟩:=e1.called e2 rv;exact kk v H' ⟨F',_,r,s0.trans (s1.trans a),b,c,q⟩
theorem tH {y q:Str} {st:Stmt} (Fn:Fun X.K y q st f fd) (F:aQ X.prog X.w X.K X.mg X.base CX0 k f fd ps (sp3 K n S)) (hr:cc k X.A) (hb:Binds X.K fd ps []) (ho:P3 K X (.Subscript o i p) te e3) (ha:sE K X (e::es) t t3)
  (he:autoParam (starEach (e::es) X.env=(false,eval e X.env)::starEach es X.env) wE) (hpl:autoParam ((backTo pos (starEach es X.env)).any (·.1)=false) wE) :
  P3 K X (.Call (.Subscript o i p) (e::es) [] pos) (uP te f (sp3 K n S) t) (oU e3 n f S t3):=⟨zS (by obtain⟨oc,od,_,_,_,_,_,_,sl,_,lk,_⟩:=Fn.ex;exact⟨oc,od,sl,lk⟩) F hr hb ho.pe ha.pe he hpl,x9 ho.rf ha.rf⟩
end
section
variable {K:Fg0} {X:Cx} {pos:Pos} {i:Nat} {y:Str} {e:Expr} {te:TE} {e3:TE3} {F:Hp}
theorem sW {H:Hp}:∀ {xss:NR} {qs:La0},c8 K F H qs (fi xss)->qs.length=xss.length/\∀ (m:Nat) (q:Addr) (xs:Li),qs[m]?=some q->xss[m]?=some xs->H q=some (.lst (xs.map V.int))
 | [],[],_=>⟨rfl,fun m q xs h=>by simp at h⟩
 | [],_::_,⟨_,_,_,h,_⟩=>nomatch h
 | _::_,[],h=>nomatch h
 | xs::xss,q::qs,Z=>by
  obtain⟨ys,yt,vs,h1,h2,h3,h4⟩:=Z;have e1:xs.map D.int=ys:=by have:=h1;unfold fi at this;rw[List.map_cons] at this;injection this
  have e2:fi xss=yt:=by have:=h1;unfold fi at this;rw[List.map_cons] at this;injection this
  subst e1;subst e2;obtain⟨l,r⟩:=sW h4;refine⟨by rw[List.length_cons,List.length_cons,l],fun m q' zs a b=>?_⟩;cases m with
  | zero=>cases a;cases b;rw[h2,h3.kF]
  | succ m=>exact r m q' zs a b
noncomputable def noG (Γ:G):G:=Γ.map fun _=>none
def DT (i:Nat) (e3:TE3) (n3:TN):TS3:=fun D Γ=>e3 Γ fun r Γ1=>zf r fun yss=>bY Γ1 i/\uB Γ1/\∃ xss:NR,yss=fi xss/\∀ p,n3 (fun Γ2 zss=>D.rt (.rws (fi zss)) (noG Γ2)) (Γ1.set i (some (.fz (.adr p)))) xss
theorem lW {Γ:G} {j:Nat} {s:Sl} (h:(noG Γ)[j]?=some (some s)):False:=by
 unfold noG at h;rw[List.getElem?_map] at h;cases q:Γ[j]? with
 | none=>rw[q] at h;cases h
 | some o=>rw[q] at h;cases h
theorem zF {x:Str} {px pr pv:Pos} {s2:Stmt} {t2:TS} {n3:TN} {x3:TS3} {f3:TE3} (i:Nat) (hs:P3S K X (.Assign [.Name x px] e pos) (eZ te (cS i)) x3) (he:P3 K X e te e3) (hn:N3S K X i s2 t2 n3) (hv:P3 K X (.Name y pv) (cX i) f3) :
  pf K X [.Assign [.Name x px] e pos,s2,.Return (some (.Name y pv)) pr] (yZ (eZ te (cS i)) (yZ t2 (EB (cX i)))) (DT i e3 n3):=⟨km hs.pe (km hn.pe (qZ (zH hv.pe))),fun B F σ H Γ DD D3 e k q=>he.rf B F σ H Γ _ _ e q fun v H' Z=>by
  obtain⟨F',Γ',r,s,e',rv,q'⟩:=Z;obtain⟨yss,rfl,hf,hall,xss,rfl,q5⟩:=B2 q';obtain⟨p,qs,rfl,h1,h2,h3,h4⟩:=rv;have il:=kI hf;have e1:=e'.set (r:=.fz (.adr p)) hf rfl;have hall1:uB (Γ'.set i (some (.fz (.adr p)))):=fun s hs=>by
   rcases List.mem_or_eq_of_mem_set hs with h | h
   ·exact hall s h
   ·cases h;exact⟨_,rfl⟩
  obtain⟨lq,rows⟩:=sW h3;have ns:NSt K H' (p::qs) i p F' (σ.set i (some (.ref p))) H' (Γ'.set i (some (.fz (.adr p)))) xss:=⟨Jc e1 hall1,aB il,⟨qs,⟨e'.sub,h1,h2,lq,rows,fun z hz=>(h4 z hz).1⟩,⟨fun b o h _=>h,fun b h=>h,fun q h=>.inl (.tail _ h)⟩⟩,.head _⟩;refine hn.rf H' (p::qs) p F' _ H' _ xss _ _ ns (fun F2 σ2 H2 Γ2 zss sF t' q2=>?_) (q5 p);obtain⟨w,a,b⟩:=t'.e.fz i _ t'.at_;obtain rfl:w=.ref p:=b;obtain⟨qs2,n2,st2⟩:=t'.n;have bh:∀ z,z∈p::qs->B.H z=none:=fun z hz=>(h4 z hz).2.1;have no:∀ z,z∈p::qs2->F' z=none:=fun z hz=>by
   cases h:F' z with
   | none=>rfl
   | some o=>have:=sF _ _ h;rw[n2.no z hz] at this;cases this
  refine⟨.ref p,a,k.rt F' σ2 H2 (noG Γ2) (.ref p) (.rws (fi zss)) s ⟨sF.trans t'.e.sub,by unfold noG;rw[lM0];exact t'.e.len,fun j d h=>(lW h).elim,fun j d h=>?_,fun j d q h=>(lW h).elim,fun j d q h=>(lW h).elim,fun j m d d' q h=>?_,fun j q h=>?_,e'.keep,e'.new,fun b o h hn=>?_,fun b h=>e'.dom b (st2.dom b h)⟩ ⟨p,qs2,rfl,n2.top,n2.nd,wH n2.len n2.row,fun z hz=>⟨no z hz,?_,fun j d h=>?_⟩⟩ q2⟩
  ·rcases h with h | h <;> exact(lW h).elim
  ·rcases h with h | h <;> exact(lW h).elim
  ·obtain⟨_,d,hd⟩:=e'.par j q h;obtain⟨_,z⟩:=hall.at hd;cases z
  ·exact st2.keep b o (e'.rest b o h hn) fun z=>by rw[bh b z] at h;cases h
  ·rcases List.mem_cons.mp hz with e | hm
   ·rw[e];exact bh p (.head _)
   ·rcases st2.new z hm with w | w
    ·exact bh z w
    ·exact e'.dom z w
  ·rcases h with h | h <;> exact(lW h).elim⟩
end
section
variable {K:Fg0} {X:Cx}
def tgL (i j k:Nat) (d:D) (Γ:G) (Q:G->Prop):Prop:=∃ x y z,d=.tup [.tup [x,y],z]/\bY Γ i/\bY (Γ.set i (some (.fz x))) j/\bY ((Γ.set i (some (.fz x))).set j (some (.fz y))) k/\Q (((Γ.set i (some (.fz x))).set j (some (.fz y))).set k (some (.fz z)))
theorem AI {e1 e2 e3:Expr} {kt kt':Nat} {pos pos':Pos} {i j k:Nat} (hK:X.K=K) (hc:X.calm=true) (h1:PGs X [e1,e2] (iH [i,j])) (h2:PG X e3 (cS k))
  (hn:autoParam ((assignEach [e1,e2] X.env).length=2) wE) (hst:autoParam ((assignEach [e1,e2] X.env).findIdx? (·.1)=none) wE) (hn':autoParam ((assignEach [.Tuple [e1,e2] kt' pos',e3] X.env).length=2) wE) (hst':autoParam ((assignEach [.Tuple [e1,e2] kt' pos',e3] X.env).findIdx? (·.1)=none) wE)
  (ha:autoParam ((assignEach [.Tuple [e1,e2] kt' pos',e3] X.env).map (·.2)=assign (.Tuple [e1,e2] kt' pos') X.env::(assignEach [e3] X.env).map (·.2)) wE) (hb:autoParam ((assignEach [e3] X.env).map (·.2)=assign e3 X.env::(assignEach [] X.env).map (·.2)) wE) :
  P3G K X (.Tuple [.Tuple [e1,e2] kt' pos',e3] kt pos) (AH K 2 (xi (AH K 2 (iH [i,j])) (xi (cS k) GF))) (tgL i j k):=⟨by subst hK;exact rj hc (aq (rj hc h1 hn hst) (aq h2 aV hb) ha) hn' hst',fun B F σ H Γ v d Q QQ e r q kk=>by
 obtain⟨x,y,z,rfl,f1,f2,f3,q⟩:=q;obtain⟨p,vs,rfl,h4,v1,ws1,rfl,⟨p2,vs2,rfl,h6,r3⟩,v2,ws2,rfl,r2,r4⟩:=r;cases r4;refine⟨p,_,rfl,.inl (.inl (e.sub _ _ h4)),rfl,_,_,rfl,?_⟩;refine⟨p2,_,rfl,.inl (.inl (e.sub _ _ h6)),by rw[r3.length];rfl,?_⟩;exact j5 (is:=[i,j]) (ds:=[x,y]) e r3 rfl ⟨f1,f2,trivial⟩ fun σ' e'=>⟨_,_,rfl,rfl,kk _ _ (e'.set (r:=.fz z) f3 r2) q⟩⟩
end
section
variable {K:Fg0} {X:Cx} {x:Str} {p apos cpos pos:Pos} {c:Expr} {tc:TT} {A3:TT3} {Γ:G} {i:Nat}
def KR (Γ:G) (i:Nat):Prop:=∀ (k:Nat) (d:D),Hld Γ k d->k=i
def tfU (i:Nat) (A3:TT3) (Γ:G) (Q:Bool->G->Prop):Prop:=∃ ds:List D,Γ[i]?=some (some (.ow (.lst ds)))/\KR Γ i/\A3 (Γ.set i (some (.fz (.lst ds)))) fun b Γ2=>Γ2=Γ.set i (some (.fz (.lst ds)))/\Q b Γ
theorem Cu (i:Nat) (h:P3T K X c tc A3):P3T K X c tc (tfU i A3):=⟨h.pe,by
 intro B F σ H Γ Q QQ e q kk;obtain⟨ds,hi,on,q⟩:=q;obtain⟨F1,p,s1,hp,rp,e1⟩:=e.give hi;refine h.rf B F1 σ H _ _ _ e1 q fun b H2 ⟨F2,Γ2,s2,e2,hΓ,q2⟩=>kk b H2 ⟨F,Γ,aw.refl F,?_,q2⟩;subst hΓ;have sub:aw F H2:=(s1.trans s2).trans e2.sub;refine⟨sub,e.len,e.fz,fun k d hd=>?_,e.ow,e.ln,e.dis,e.par,e.keep,e.new,e2.rest,e2.dom⟩;have z:=on k d hd;subst z;have ed:d=.lst ds:=by
  rcases hd with hd | hd <;> rw[hi] at hd <;> cases hd
  rfl
 subst ed;obtain⟨r,hr,hF,vs,hH,hv⟩:=e.hl k _ hd;refine⟨r,hr,hF,?_⟩;rw[hp] at hr;cases hr;obtain⟨p',us,z1,z2,z3⟩:=rp;cases z1;have:H p=some (.lst us):=e1.sub _ _ z2;rw[hH] at this;cases this;exact⟨vs,e2.sub _ _ (s2 _ _ z2),hv⟩⟩
theorem BQ {d:D} (h:Γ[i]?=some (some (Sl.ow d))):Wk K Γ (Γ.set i (some (.fz d))):=fun B F σ H e=>by
 obtain⟨F1,p,s1,_,_,e1⟩:=e.give h;exact⟨F1,s1,e1⟩
end
end L3
set_option maxHeartbeats 4000000
namespace K33
open PySem L2 L3
theorem Ky {α:Type} {P:α->Prop} (x0:α) (h:P x0):∃ x0,P x0:=⟨x0,h⟩
theorem Dd {α β:Type} {P:α->β->Prop} (x0:α) (x1:β) (h:P x0 x1):∃ x0 x1,P x0 x1:=⟨x0,x1,h⟩
theorem eA {α β γ:Type} {P:α->β->γ->Prop} (x0:α) (x1:β) (x2:γ) (h:P x0 x1 x2):∃ x0 x1 x2,P x0 x1 x2:=⟨x0,x1,x2,h⟩
theorem De {α β γ:Type} {P:α->β->γ->Prop} {G:Prop} (h:∃ x0 x1 x2,P x0 x1 x2) (k:∀ x0 x1 x2,P x0 x1 x2->G):G:=let ⟨x0,x1,x2,z⟩:=h;k x0 x1 x2 z
theorem vN {α β γ δ:Type} {P:α->β->γ->δ->Prop} (x0:α) (x1:β) (x2:γ) (x3:δ) (h:P x0 x1 x2 x3):∃ x0 x1 x2 x3,P x0 x1 x2 x3:=⟨x0,x1,x2,x3,h⟩
theorem AR {α β γ δ:Type} {P:α->β->γ->δ->Prop} {G:Prop} (h:∃ x0 x1 x2 x3,P x0 x1 x2 x3) (k:∀ x0 x1 x2 x3,P x0 x1 x2 x3->G):G:=let ⟨x0,x1,x2,x3,z⟩:=h;k x0 x1 x2 x3 z
theorem vM {α β γ δ ε:Type} {P:α->β->γ->δ->ε->Prop} (x0:α) (x1:β) (x2:γ) (x3:δ) (x4:ε) (h:P x0 x1 x2 x3 x4):∃ x0 x1 x2 x3 x4,P x0 x1 x2 x3 x4:=⟨x0,x1,x2,x3,x4,h⟩
theorem AQ {α β γ δ ε:Type} {P:α->β->γ->δ->ε->Prop} {G:Prop} (h:∃ x0 x1 x2 x3 x4,P x0 x1 x2 x3 x4) (k:∀ x0 x1 x2 x3 x4,P x0 x1 x2 x3 x4->G):G:=let ⟨x0,x1,x2,x3,x4,z⟩:=h;k x0 x1 x2 x3 x4 z
theorem Dc {α β γ δ ε ζ η:Type} {P:α->β->γ->δ->ε->ζ->η->Prop} (x0:α) (x1:β) (x2:γ) (x3:δ) (x4:ε) (x5:ζ) (x6:η) (h:P x0 x1 x2 x3 x4 x5 x6):∃ x0 x1 x2 x3 x4 x5 x6,P x0 x1 x2 x3 x4 x5 x6:=⟨x0,x1,x2,x3,x4,x5,x6,h⟩
theorem GN {α β γ δ ε ζ η:Type} {P:α->β->γ->δ->ε->ζ->η->Prop} {G:Prop} (h:∃ x0 x1 x2 x3 x4 x5 x6,P x0 x1 x2 x3 x4 x5 x6) (k:∀ x0 x1 x2 x3 x4 x5 x6,P x0 x1 x2 x3 x4 x5 x6->G):G:=let ⟨x0,x1,x2,x3,x4,x5,x6,z⟩:=h;k x0 x1 x2 x3 x4 x5 x6 z
theorem Kx {α β γ δ ε ζ η θ:Type} {P:α->β->γ->δ->ε->ζ->η->θ->Prop} (x0:α) (x1:β) (x2:γ) (x3:δ) (x4:ε) (x5:ζ) (x6:η) (x7:θ) (h:P x0 x1 x2 x3 x4 x5 x6 x7):∃ x0 x1 x2 x3 x4 x5 x6 x7,P x0 x1 x2 x3 x4 x5 x6 x7:=⟨x0,x1,x2,x3,x4,x5,x6,x7,h⟩
theorem KA {α β γ δ ε ζ η θ:Type} {P:α->β->γ->δ->ε->ζ->η->θ->Prop} {G:Prop} (h:∃ x0 x1 x2 x3 x4 x5 x6 x7,P x0 x1 x2 x3 x4 x5 x6 x7) (k:∀ x0 x1 x2 x3 x4 x5 x6 x7,P x0 x1 x2 x3 x4 x5 x6 x7->G):G:=let ⟨x0,x1,x2,x3,x4,x5,x6,x7,z⟩:=h;k x0 x1 x2 x3 x4 x5 x6 x7 z
theorem Kz {α β γ δ ε ζ η θ ι:Type} {P:α->β->γ->δ->ε->ζ->η->θ->ι->Prop} {G:Prop} (h:∃ x0 x1 x2 x3 x4 x5 x6 x7 x8,P x0 x1 x2 x3 x4 x5 x6 x7 x8) (k:∀ x0 x1 x2 x3 x4 x5 x6 x7 x8,P x0 x1 x2 x3 x4 x5 x6 x7 x8->G):G:=let ⟨x0,x1,x2,x3,x4,x5,x6,x7,x8,z⟩:=h;k x0 x1 x2 x3 x4 x5 x6 x7 x8 z
theorem ke {p q r:Prop} (hp:p) (hq:q) (hr:r):p/\q/\r:=⟨hp,hq,hr⟩
theorem pU {p q r s:Prop} (hp:p) (hq:q) (hr:r) (hs:s):p/\q/\r/\s:=⟨hp,hq,hr,hs⟩
theorem JA {p q r s t:Prop} (hp:p) (hq:q) (hr:r) (hs:s) (ht:t):p/\q/\r/\s/\t:=⟨hp,hq,hr,hs,ht⟩
theorem hE {p q r s t u:Prop} (hp:p) (hq:q) (hr:r) (hs:s) (ht:t) (hu:u):p/\q/\r/\s/\t/\u:=⟨hp,hq,hr,hs,ht,hu⟩
theorem G1 {p q r s t u v:Prop} (hp:p) (hq:q) (hr:r) (hs:s) (ht:t) (hu:u) (hv:v):p/\q/\r/\s/\t/\u/\v:=⟨hp,hq,hr,hs,ht,hu,hv⟩
theorem KJ {p q r s t u v w:Prop} (hp:p) (hq:q) (hr:r) (hs:s) (ht:t) (hu:u) (hv:v) (hw:w):p/\q/\r/\s/\t/\u/\v/\w:=⟨hp,hq,hr,hs,ht,hu,hv,hw⟩
noncomputable def fw (b:Option D):Option Sl:=b.map Sl.ow
theorem GH {s:Option D} {Γ:G}:bY (fw s::Γ) 0=True:=by cases s <;> rfl
theorem Js {n:Option D}:eE n none=none:=rfl
theorem Jo {n:Option D} {d:D}:eE n (some (.fz d))=some (.fz d):=rfl
theorem Jp {n:Option D} {d:D}:eE n (some (.ow d))=some (.ow (n.getD d)):=rfl
theorem Jt {n:Option D} {d:D}:eE n (some (.ln d))=some (.ln (n.getD d)):=rfl
theorem Jr {n:Option D} {s:Option D}:eE n (fo s)=fo s:=by cases s <;> rfl
theorem Jq {n:Option D} {s:Option D}:eE n (fw s)=fw (s.map fun d=>n.getD d):=by cases s <;> rfl
noncomputable def jY:G->Bool
 | []=>true
 | some (.ln _)::_=>false
 | _::Γ=>jY Γ
theorem FJ:jY []=true:=rfl
theorem J8 {Γ:G}:jY (none::Γ)=jY Γ:=rfl
theorem J5 {Γ:G} {d:D}:jY (some (.fz d)::Γ)=jY Γ:=rfl
theorem J6 {Γ:G} {d:D}:jY (some (.ow d)::Γ)=jY Γ:=rfl
theorem J7 {Γ:G} {s:Option D}:jY (fo s::Γ)=jY Γ:=by cases s <;> rfl
theorem rP:∀ {cs:G} {k:Nat} {d:D},jY cs=true->cs[k]?≠some (some (Sl.ln d))
 | [],_,_,_,h=>by simp at h
 | s::cs,0,d,hn,h=>by
  simp at h;subst h;cases hn
 | s::cs,k + 1,d,hn,h=>by
  have hn':jY cs=true:=by
   cases s with
   | none=>exact hn
   | some s=>cases s with
    | fz _=>exact hn
    | ow _=>exact hn
    | ln _=>cases hn
  exact rP (cs:=cs) (k:=k) hn' (by simpa using h)
theorem vX {ls:On} {Γ cs:G} (h:jY cs=true):bK ls Γ cs=Γ:=by
 apply List.ext_getElem?;intro j;rw[cy];have:newD ls cs j=none:=by
  cases q:newD ls cs j with
  | none=>rfl
  | some d=>
   obtain⟨k,_,b⟩:=c9 q;exact absurd b (rP h)
 rw[this];cases Γ[j]? with
 | none=>rfl
 | some s=>cases s with
  | none=>rfl
  | some s=>cases s <;> rfl
theorem yj {ls:On} {cs:G} {j:Nat} (h:jY cs=true):newD ls cs j=none:=by
 cases q:newD ls cs j with
 | none=>rfl
 | some d=>
  obtain⟨k,_,b⟩:=c9 q;exact absurd b (rP h)
theorem IY {i3:TI3} {g3:TG3} {b3:TS3} {D:E3} {Γ:G} {t1:Tag (i3,g3,b3)} {t2:Tag D}:GK i3 g3 b3 D Γ t1 t2=(i3 Γ fun xs Γ1=>∃ Iv:Nat->G->Prop,Iv 0 Γ1/\(∀ k d Γ,xs[k]?=some d->Iv k Γ->g3 d Γ fun Γ'=>b3 { D with nx:=Iv (k + 1),ct:=Iv (k + 1),bk:=D.nx } Γ')/\∀ Γ,Iv xs.length Γ->D.nx Γ):=rfl
inductive Lt where
 | r | p | b
deriving DecidableEq
noncomputable def Lt.c:Lt->Nat
 | .r=>114 | .p=>112 | .b=>98
noncomputable def Lt.s (l:Lt):Str:=sgn l.c
theorem Lt.sp:Lt.s .p=("p":Str):=by decide +kernel
theorem Lt.sb:Lt.s .b=("b":Str):=by decide +kernel
noncomputable def wy (ls:List Lt):Str:=⟨(ls.map Lt.c).toArray⟩
theorem kg (ls:List Lt):signs (wy ls)=ls.map fun l=>D.str l.s:=by
 unfold signs wy;rw[List.map_map]
 rfl
theorem yO (ls:List Lt):asc (wy ls)=true:=by
 unfold asc wy;rw[Array.all_eq_true_iff_forall_mem];intro x hx;simp only[List.mem_toArray,List.mem_map] at hx;obtain⟨l,_,rfl⟩:=hx;cases l <;> decide
theorem bu (ls:List Lt):(wy ls).length=ls.length:=by simp [Str.length,wy]
noncomputable def nh (l:Lt) (h:Int):Int:=if l=.r then h else (h + 1) / 2
noncomputable def nw (l:Lt) (w:Int):Int:=if l=.p then w else (w + 1) / 2
noncomputable def fG (h w:Int):List Lt->List (Int×Int)
 | []=>[(h,w)]
 | l::ls=>(h,w)::fG (nh l h) (nw l w) ls
theorem gB (h w:Int):∀ ls:List Lt,(fG h w ls).length=ls.length + 1
 | []=>rfl
 | l::ls=>by rw[fG,List.length_cons,gB];rfl
noncomputable def cD (c:Int×Int):D:=.tup [.int c.1,.int c.2]
def Can (l:Lt) (h w:Int):Prop:=(l≠.p->2<=w)/\(l≠.r->2<=h)
noncomputable def Good (h w:Int):List Lt->Prop
 | []=>True
 | l::ls=>Can l h w/\Good (nh l h) (nw l w) ls
structure hU (h w:Int):Prop where
 h1:1<=h
 w1:1<=w
 h2:h<=64
 w2:w<=64
 m:h * w<=512
noncomputable def cat (h w:Int) (ls:List Lt) (k:Nat):Int×Int:=(fG h w ls).getD k (0,0)
theorem xA {h w:Int} {ls:List Lt} {k:Nat} (hk:k<=ls.length):(fG h w ls)[k]?=some (cat h w ls k):=by
 unfold cat
 have:k < (fG h w ls).length:=by rw[gB];lia
 rw[List.getD_eq_getElem?_getD,gE0 this];rfl
theorem Jf {h w:Int} {ls:List Lt} {k:Nat} (hk:k<=ls.length):((fG h w ls).map cD)[k]?=some (cD (cat h w ls k)):=by rw[List.getElem?_map,xA hk];rfl
theorem fH (h w:Int) (ls:List Lt):cat h w ls 0=(h,w):=by cases ls <;> rfl
theorem la {h w:Int} {l:Lt} {ls:List Lt} {k:Nat}:cat h w (l::ls) (k + 1)=cat (nh l h) (nw l w) ls k:=rfl
theorem k_:∀ {ls:List Lt} {h w:Int} {k:Nat} {l:Lt},ls[k]?=some l->cat h w ls (k + 1)=(nh l (cat h w ls k).1,nw l (cat h w ls k).2)
 | [],_,_,k,l,e=>by simp at e
 | l0::ls,h,w,0,l,e=>by
  have:l0=l:=by simpa using e
  subst this;rw[la,fH,fH]
 | l0::ls,h,w,k + 1,l,e=>by
  rw[la,la];exact k_ (by simpa using e)
theorem rW:∀ {ls:List Lt} {h w:Int} {k:Nat} {l:Lt},Good h w ls->ls[k]?=some l->Can l (cat h w ls k).1 (cat h w ls k).2
 | [],_,_,k,l,_,e=>by simp at e
 | l0::ls,h,w,0,l,g,e=>by
  have:l0=l:=by simpa using e
  subst this;rw[fH];exact g.1
 | l0::ls,h,w,k + 1,l,g,e=>by
  rw[la];exact rW g.2 (by simpa using e)
theorem se {l:Lt} {h w:Int} (c:Can l h w) (h1:1<=h) (w1:1<=w):1<=nh l h/\1<=nw l w/\nh l h<=h/\nw l w<=w:=by
 cases l <;> simp [nh,nw] <;> lia
theorem lg:∀ {ls:List Lt} {h w:Int} {k:Nat},Good h w ls->1<=h->1<=w->k<=ls.length->1<=(cat h w ls k).1/\1<=(cat h w ls k).2/\(cat h w ls k).1<=h/\(cat h w ls k).2<=w
 | ls,h,w,0,_,h1,w1,_=>by rw[fH];exact⟨h1,w1,Int.le_refl _,Int.le_refl _⟩
 | [],_,_,k + 1,_,_,_,hk=>by simp at hk
 | l::ls,h,w,k + 1,g,h1,w1,hk=>by
  rw[la];obtain⟨a,b,c,d⟩:=se g.1 h1 w1;obtain⟨a',b',c',d'⟩:=lg (k:=k) g.2 a b (by simpa using hk);exact⟨a',b',Int.le_trans c' c,Int.le_trans d' d⟩
theorem lE {h w:Int} {ls:List Lt} {k:Nat} (hk:k<=ls.length):atI ((fG h w ls).map cD) (k:Int)=some (cD (cat h w ls k)):=cn (by lia) (by rw[Int.toNat_natCast];exact Jf hk)
theorem IH {l:Lt}:inV (V.str l.s) [V.str "r",V.str "b"]=!(l == .p):=by cases l <;> decide +kernel
theorem II {l:Lt}:inV (V.str l.s) [V.str "p",V.str "b"]=!(l == .r):=by cases l <;> decide +kernel
theorem IE {l:Lt} {Γ:G} {Q:RV->G->Prop}:in3 false (.str l.s) (kt ["r","b"]) Γ Q=Q (.fz (.bl (!(l == .p)))) Γ:=by
 refine propext ⟨fun ⟨xs,h1,_,_,q⟩=>?_,fun q=>⟨_,rfl,rfl,rfl,?_⟩⟩
 ·have e:xs=[D.str "r",D.str "b"]:=(Option.some.inj h1).symm;subst e;have q:Q (.fz (.bl (inV (V.str l.s) [V.str "r",V.str "b"]))) Γ:=q;rw[IH] at q;exact q
 ·show Q (.fz (.bl (inV (V.str l.s) [V.str "r",V.str "b"]))) Γ;rw[IH];exact q
theorem IF {l:Lt} {Γ:G} {Q:RV->G->Prop}:in3 false (.str l.s) (kt ["p","b"]) Γ Q=Q (.fz (.bl (!(l == .r)))) Γ:=by
 refine propext ⟨fun ⟨xs,h1,_,_,q⟩=>?_,fun q=>⟨_,rfl,rfl,rfl,?_⟩⟩
 ·have e:xs=[D.str "p",D.str "b"]:=(Option.some.inj h1).symm;subst e;have q:Q (.fz (.bl (inV (V.str l.s) [V.str "p",V.str "b"]))) Γ:=q;rw[II] at q;exact q
 ·show Q (.fz (.bl (inV (V.str l.s) [V.str "p",V.str "b"]))) Γ;rw[II];exact q
theorem Bz {α β:Type} {f:α->β} {xs:List α} {i:Int} {c:β} (e:atI (xs.map f) i=some c):∃ l,atI xs i=some l/\c=f l:=by
 unfold L2.atI at e ⊢;rw[lM0] at e;cases q:ixN xs.length i with
 | none=>rw[q] at e;cases e
 | some j=>
  rw[q] at e;have e:(xs.map f)[j]?=some c:=e;rw[List.getElem?_map] at e;cases z:xs[j]? with
  | none=>rw[z] at e;cases e
  | some l=>rw[z] at e;cases e;exact⟨l,z,rfl⟩
def Ex (ls:List Lt) (i:Int) (k:Lt->Prop) (_:Tag k):Prop:=(wy ls).length<=sizeLine/\∃ l,atI ls i=some l/\k l
theorem Iz {ls:List Lt} {i:Int} {Γ:G} {Q:RV->G->Prop}:ix3 (.str (wy ls)) (.int i) Γ Q=Ex ls i (fun l=>Q (.fz (.str l.s)) Γ) ⟨⟩:=by
 refine propext ⟨fun ⟨h1,c,h2,q⟩=>⟨h1,?_⟩,fun ⟨h1,l,h2,q⟩=>⟨h1,l.c,?_,q⟩⟩
 ·obtain⟨l,hl,rfl⟩:=Bz (f:=Lt.c) (xs:=ls) (by simpa [wy] using h2);exact⟨l,hl,q⟩
 ·have:=xH (f:=Lt.c) h2;simpa [wy] using this
theorem atL {ls:List Lt} {k:Nat} {l:Lt} (h:ls[k]?=some l):atI ls (k:Int)=some l:=cn (by lia) (by rw[Int.toNat_natCast];exact h)
theorem sEr {l:Lt}:(l.s == ("r":Str))=(l == .r):=by cases l <;> decide +kernel
theorem sEp {l:Lt}:(l.s == ("p":Str))=(l == .p):=by cases l <;> decide +kernel
theorem KC {a b c d e f:D}:cut [a,b,c,d,e,f] (some 2) none=[c,d,e,f]:=rfl
theorem Kd:(("corners":Str) == ("chosen":Str))=false:=by decide +kernel
theorem Kb:(("letters":Str) == ("chosen":Str))=false:=by decide +kernel
theorem J_:(("letters":Str) == ("corners":Str))=false:=by decide +kernel
theorem Ik:(Lt.r == Lt.r)=true:=rfl
theorem Il:(Lt.r == Lt.p)=false:=rfl
theorem Io:(Lt.p == Lt.r)=false:=rfl
theorem Ip:(Lt.p == Lt.p)=true:=rfl
theorem Ir:(Lt.b == Lt.r)=false:=rfl
theorem Iu:(Lt.b == Lt.p)=false:=rfl
theorem Im:(Lt.r == Lt.b)=false:=rfl
theorem Iq:(Lt.p == Lt.b)=false:=rfl
theorem Iw:(Lt.b == Lt.b)=true:=rfl
theorem Ju {c:Bool} {x y:D}:atI [x,y] (if c=true then 1 else 0)=some (if c=true then y else x):=by cases c <;> rfl
set_option bootstrap.genMatcherCode true in
def mkL(s:String):Lean.MacroM (Array (Lean.TSyntax [`Lean.Parser.Tactic.simpStar,`Lean.Parser.Tactic.simpErase,`Lean.Parser.Tactic.simpLemma])):=do
 let mut xs:=#[]
 for w in s.splitOn " " do
  let n:=(w.dropWhile (·=='↓')).toString.toName
  let i:=match (<-Lean.Macro.resolveGlobalName n) with
   |(c,[])::_=>Lean.mkCIdent c
   |_=>Lean.mkIdent n
  let t<-if w.startsWith "↓" then `(Lean.Parser.Tactic.simpLemma|↓$i:ident) else `(Lean.Parser.Tactic.simpLemma|$i:ident)
  xs:=xs.push ⟨t.raw⟩
 return xs
set_option bootstrap.genMatcherCode true in
local macro_rules | `(tactic| walk_at "m4")=>do `(tactic| try simp -dsimp only [$(<-mkL "h_ List.length_cons List.length_nil Nat.reduceAdd Nat.reduceSub Nat.zero_add List.replicate List.cons_append List.nil_append List.append_nil ↓t9 ↓oG ↓t8 ↓IS ↓GA ↓t_ ↓Bv ↓Bw ↓Bt ↓Bu ↓Gv ↓nI ↓EI qJ ↓ua ↓ub ↓lA ↓kG ↓oF ↓D9 ↓Ks ↓Kq ↓j0 ↓xg ↓h_c mf BS ↓t7 ↓IV ↓Ko ↓IT qE H_ ↓D_ ↓AE Gat Bo.at ats RV.d RV.sl uC i2 i2' um ↓IC ↓IA kB kA CN CO vv CZ mx3 vC FL j6 vI vH GG j7 sl3 Ho ↓Gy ↓Gu Aw oC uM is3 knD dB dI dL dT ↓IU mm beq_self_eq_true fX AM List.zip_cons_cons List.lookup_cons List.lookup_nil ↓BZ Ab oE ↓FR C8 ↓IK CF dS RV.fz.injEq ↓BY cm putD tgN tgT gives frees iL3 iR1 ↓lu ↓Dh ↓A4 ↓AK List.isEmpty_nil List.isEmpty_cons ↓GB ↓C7 GO GP ↓Ea ↓FQ c7 l9 eF cR cz List.map_cons List.map_nil Option.bind_some Option.bind_none List.nodup_nil List.nodup_cons List.getElem?_cons_zero List.getElem?_cons_succ List.getElem?_nil List.set_cons_zero List.set_cons_succ exists_eq_left' exists_eq_left exists_eq' exists_eq exists_and_left exists_and_right Option.some.injEq D.int.injEq D.lst.injEq D.str.injEq D.tup.injEq D.bl.injEq D.ins.injEq D.ty.injEq List.cons.injEq and_true true_and and_false false_and true_or false_or or_false or_true and_assoc List.not_mem_nil not_false_eq_true kd k7 yJ uj I9 uh I_ ui Bool.false_xor Bool.not_true Bool.not_false Bool.true_xor ku List.mapIdx_cons List.mapIdx_nil xE qD oX uw wZ tT tS Nat.reduceLT decide_true Bn Bp Bq ite_self newD Option.getD_some Option.getD_none Jz Jy Jx Jw Gn Gm Gk if_pos if_true if_false List.all_cons List.all_nil Option.isNone_none Bool.and_true Bool.true_and decide_eq_true_eq not_true not_false_iff reduceCtorEq eq_self Bool.false_eq_true reduceIte Int.reduceEq Js Jo Jp Jt Jr Jq GH frL Nat.reduceEqDiff ↓fz3 D.exc.injEq D.adr.injEq EV EA ↓Dg ↓C6 ↓Gx G2 ES JQ ↓GC ↓Km ↓Iz sEr sEp KC ↓IE ↓IF Kd Kb J_ Ik Il Io Ip Ir Iu Im Iq Iw Ju Hn IL ext3 Ew ↓Kp IP fX ↓vX FJ J8 J5 J6 J7"),*])
noncomputable def top (i:Nat):Stmt:=PySem.Challenge.pw_halvedpictures_k33_shares.main.body.getD i (.Pass ⟨0,0,0,0⟩)
noncomputable abbrev jU:Stmt:=top 11
noncomputable abbrev lO:Stmt:=top 12
noncomputable abbrev de:Stmt:=top 13
noncomputable abbrev gn:Stmt:=top 15
noncomputable abbrev iw:Stmt:=inClass (top 17) 0
noncomputable abbrev gr:Stmt:=inClass (top 18) 0
noncomputable abbrev ff:Stmt:=inClass (top 20) 0
noncomputable abbrev fe:Stmt:=inClass (top 21) 0
noncomputable abbrev ij:Stmt:=top 22
noncomputable abbrev lN:Stmt:=top 23
noncomputable abbrev ig:Stmt:=top 27
noncomputable abbrev gK:Stmt:=top 28
noncomputable abbrev eg:Stmt:=inClass (top 30) 0
noncomputable abbrev jW:Stmt:=inClass (top 30) 4
noncomputable abbrev gN:Stmt:=inClass (top 30) 5
noncomputable abbrev gq:Stmt:=inClass (top 30) 6
noncomputable abbrev lP:Stmt:=top 32
noncomputable abbrev dQ:Stmt:=top 33
noncomputable abbrev nj:Stmt:=top 34
noncomputable abbrev ir:Stmt:=top 36
noncomputable abbrev gp:Stmt:=top 37
noncomputable abbrev ik:Stmt:=top 38
noncomputable abbrev ip:Stmt:=top 39
noncomputable abbrev jV:Stmt:=top 40
noncomputable abbrev iq:Stmt:=top 41
noncomputable abbrev fV:Stmt:=top 42
noncomputable abbrev fc:Stmt:=top 43
noncomputable abbrev aX:Stmt:=top 44
noncomputable abbrev fW:Stmt:=top 45
noncomputable abbrev df:Stmt:=top 46
noncomputable abbrev dR:Stmt:=top 47
noncomputable abbrev iu:Stmt:=top 48
noncomputable abbrev dg:Stmt:=top 49
noncomputable abbrev eQ:Stmt:=top 50
noncomputable abbrev e_:Stmt:=top 51
noncomputable abbrev gM:Stmt:=top 52
noncomputable abbrev cL:Stmt:=top 53
noncomputable abbrev ze:Stmt:=top 54
theorem sR:aC ["thing","low","high"] ["thing","low","high"] (ah jU):=⟨rfl,rfl,rfl,by decide +kernel,rfl,by decide +kernel,by decide +kernel⟩
theorem uS:aC ["height","width"] ["height","width"] (ah lO):=⟨rfl,rfl,rfl,by decide +kernel,rfl,by decide +kernel,by decide +kernel⟩
theorem jT:aC ["thing","height","width"] ["thing","height","width"] (ah de):=⟨rfl,rfl,rfl,by decide +kernel,rfl,by decide +kernel,by decide +kernel⟩
theorem e7:aC ["plan","step","thing","height","width"] ["plan","step","thing"] (ah gn):=⟨rfl,rfl,rfl,by decide +kernel,rfl,by decide +kernel,by decide +kernel⟩
theorem qS:aC ["self"] ["self"] (ah iw):=⟨rfl,rfl,rfl,by decide +kernel,rfl,by decide +kernel,by decide +kernel⟩
theorem nQ:aC ["self"] ["self"] (ah gr):=⟨rfl,rfl,rfl,by decide +kernel,rfl,by decide +kernel,by decide +kernel⟩
theorem mW:aC ["self"] ["self"] (ah ff):=⟨rfl,rfl,rfl,by decide +kernel,rfl,by decide +kernel,by decide +kernel⟩
theorem mV:aC ["self"] ["self"] (ah fe):=⟨rfl,rfl,rfl,by decide +kernel,rfl,by decide +kernel,by decide +kernel⟩
theorem qP:aC [] [] (ah ij):=⟨rfl,rfl,rfl,by decide +kernel,rfl,by decide +kernel,by decide +kernel⟩
theorem nN:aC ["word","rule"] ["word"] (ah lN):=⟨rfl,rfl,rfl,by decide +kernel,rfl,by decide +kernel,by decide +kernel⟩
theorem qO:aC ["letter","height","width"] ["letter","height","width"] (ah ig):=⟨rfl,rfl,rfl,by decide +kernel,rfl,by decide +kernel,by decide +kernel⟩
theorem cO:aC ["height","width","way","corners","letter"] ["height","width","way"] (ah gK):=⟨rfl,rfl,rfl,by decide +kernel,rfl,by decide +kernel,by decide +kernel⟩
theorem lM:aC ["self","height","width","word","way"] ["self","height","width","word","way"] (ah eg):=⟨rfl,rfl,rfl,by decide +kernel,rfl,by decide +kernel,by decide +kernel⟩
theorem sS:aC ["self"] ["self"] (ah jW):=⟨rfl,rfl,rfl,by decide +kernel,rfl,by decide +kernel,by decide +kernel⟩
theorem pC:aC ["self"] ["self"] (ah gN):=⟨rfl,rfl,rfl,by decide +kernel,rfl,by decide +kernel,by decide +kernel⟩
theorem nP:aC ["self","step"] ["self","step"] (ah gq):=⟨rfl,rfl,rfl,by decide +kernel,rfl,by decide +kernel,by decide +kernel⟩
theorem uT:aC ["at","many"] ["at","many"] (ah lP):=⟨rfl,rfl,rfl,by decide +kernel,rfl,by decide +kernel,by decide +kernel⟩
theorem bC:aC ["plan","step","place","height","width","letter","y","x","downs","alongs"] ["plan","step","place"] (ah dQ):=⟨rfl,rfl,rfl,by decide +kernel,rfl,by decide +kernel,by decide +kernel⟩
noncomputable def iX:Scope:={ kind:=.function,names:=[(".0",.local),("down",.local),("many",.local),("along",.local),("times",.local),("alongs",.free)],isGenerator:=false,isCoroutine:=false,more:=[] }
theorem b8:Blk ["plan","step","place","height","width","letter","y","x","downs","alongs"] (ah dQ) iX ["down","many","along","times","alongs"] [none,none,none,none,some 9]:=⟨rfl,by decide +kernel,by decide +kernel,by decide +kernel,by decide +kernel,rfl,by decide +kernel⟩
theorem kh:aC ["plan","step","place","shares","earlier"] ["plan","step","place"] (ah nj):=⟨rfl,rfl,rfl,by decide +kernel,rfl,by decide +kernel,by decide +kernel⟩
noncomputable def oW:Scope:={ kind:=.function,names:=[(".0",.local),("behind",.local),("many",.local),("ahead",.local),("times",.local),("share_ahead",.globalImplicit),("earlier",.free),("plan",.free)],isGenerator:=false,isCoroutine:=false,more:=[] }
theorem dX:Blk ["plan","step","place","shares","earlier"] (ah nj) oW ["behind","many","ahead","times","earlier","plan"] [none,none,none,none,some 4,some 0]:=⟨rfl,by decide +kernel,by decide +kernel,by decide +kernel,by decide +kernel,rfl,by decide +kernel⟩
theorem qR:aC ["_law_script","_law_k"] ["_law_script","_law_k"] (ah ir):=⟨rfl,rfl,rfl,by decide +kernel,rfl,by decide +kernel,by decide +kernel⟩
theorem nO:aC ["_law_cell_here"] ["_law_cell_here"] (ah gp):=⟨rfl,rfl,rfl,by decide +kernel,rfl,by decide +kernel,by decide +kernel⟩
theorem eN:aC ["_law_stream_here","_law_many","_law_digit","_law_number"] ["_law_stream_here","_law_many"] (ah ik):=⟨rfl,rfl,rfl,by decide +kernel,rfl,by decide +kernel,by decide +kernel⟩
theorem eO:aC ["_law_stream_here","_law_far","_law_way_here","_law_great","_law_height"] ["_law_stream_here","_law_far"] (ah ip):=⟨rfl,rfl,rfl,by decide +kernel,rfl,by decide +kernel,by decide +kernel⟩
theorem cf:aC ["_law_stream_here","_law_height","_law_width","_law_most","_law_way_here","_law_k","_law_some","_law_letter"] ["_law_stream_here","_law_height","_law_width","_law_most"] (ah jV):=⟨rfl,rfl,rfl,by decide +kernel,rfl,by decide +kernel,by decide +kernel⟩
theorem eP:aC ["_law_stream_here","_law_far","_law_word","_law_height","_law_width"] ["_law_stream_here","_law_far"] (ah iq):=⟨rfl,rfl,rfl,by decide +kernel,rfl,by decide +kernel,by decide +kernel⟩
theorem ki:aC ["_law_stream_here","_law_told","_law_far"] ["_law_stream_here","_law_told","_law_far"] (ah fV):=⟨rfl,rfl,rfl,by decide +kernel,rfl,by decide +kernel,by decide +kernel⟩
noncomputable def kb:Scope:={ kind:=.function,names:=[(".0",.local),("_law_y",.local),("range",.globalImplicit),("_law_far",.free),("_law_stream_here",.free),("_law_told",.free)],isGenerator:=false,isCoroutine:=false,more:=[] }
theorem g8:Blk ["_law_stream_here","_law_told","_law_far"] (ah fV) kb ["_law_y","_law_far","_law_stream_here","_law_told"] [none,some 2,some 0,some 1]:=⟨rfl,by decide +kernel,by decide +kernel,by decide +kernel,by decide +kernel,rfl,by decide +kernel⟩
noncomputable def j_:Scope:={ kind:=.function,names:=[(".0",.local),("_law_y",.local),("range",.globalImplicit),("_law_far",.cell),("_law_stream_here",.cell),("_law_told",.cell)],isGenerator:=false,isCoroutine:=false,more:=[] }
noncomputable def j9:Scope:={ kind:=.function,names:=[(".0",.local),("_law_x",.local),("_law_take",.globalImplicit),("_law_far",.free),("_law_stream_here",.free)],isGenerator:=false,isCoroutine:=false,more:=[] }
theorem g7:Blk ["_law_y","_law_far","_law_stream_here","_law_told"] (j_) j9 ["_law_x","_law_far","_law_stream_here"] [none,some 1,some 2]:=⟨rfl,by decide +kernel,by decide +kernel,by decide +kernel,by decide +kernel,rfl,by decide +kernel⟩
theorem bJ:aC ["_law_told","_law_height","_law_width","_law_found","_law_letter"] ["_law_told"] (ah fc):=⟨rfl,rfl,rfl,by decide +kernel,rfl,by decide +kernel,by decide +kernel⟩
theorem aI:aC ["_law_word","_law_row","_law_many","_law_pairs","_law_firsts","_law_later","_law_fine","_law_ahead","_law_behind","_law_sums"] ["_law_word","_law_row"] (ah aX):=⟨rfl,rfl,rfl,by decide +kernel,rfl,by decide +kernel,by decide +kernel⟩
noncomputable def i8:Scope:={ kind:=.function,names:=[(".0",.local),("_law_k",.local),("_law_ahead",.free),("_law_behind",.free),("_law_fine",.free)],isGenerator:=false,isCoroutine:=false,more:=[] }
theorem gk:Blk ["_law_word","_law_row","_law_many","_law_pairs","_law_firsts","_law_later","_law_fine","_law_ahead","_law_behind","_law_sums"] (ah aX) i8 ["_law_k","_law_ahead","_law_behind","_law_fine"] [none,some 7,some 8,some 6]:=⟨rfl,by decide +kernel,by decide +kernel,by decide +kernel,by decide +kernel,rfl,by decide +kernel⟩
noncomputable def i7:Scope:={ kind:=.function,names:=[(".0",.local),("_law_one",.local),("_law_other",.local)],isGenerator:=false,isCoroutine:=false,more:=[] }
theorem dr:Blk ["_law_word","_law_row","_law_many","_law_pairs","_law_firsts","_law_later","_law_fine","_law_ahead","_law_behind","_law_sums"] (ah aX) i7 ["_law_one","_law_other"] [none,none]:=⟨rfl,by decide +kernel,by decide +kernel,by decide +kernel,by decide +kernel,rfl,by decide +kernel⟩
noncomputable def i6:Scope:={ kind:=.function,names:=[(".0",.local),("_law_k",.local),("_law_ahead",.free),("_law_behind",.free),("_law_firsts",.free)],isGenerator:=false,isCoroutine:=false,more:=[] }
theorem gj:Blk ["_law_word","_law_row","_law_many","_law_pairs","_law_firsts","_law_later","_law_fine","_law_ahead","_law_behind","_law_sums"] (ah aX) i6 ["_law_k","_law_ahead","_law_behind","_law_firsts"] [none,some 7,some 8,some 4]:=⟨rfl,by decide +kernel,by decide +kernel,by decide +kernel,by decide +kernel,rfl,by decide +kernel⟩
noncomputable def i5:Scope:={ kind:=.function,names:=[(".0",.local),("_law_k",.local),("_law_firsts",.free),("_law_later",.free),("_law_pairs",.free)],isGenerator:=false,isCoroutine:=false,more:=[] }
theorem gi:Blk ["_law_word","_law_row","_law_many","_law_pairs","_law_firsts","_law_later","_law_fine","_law_ahead","_law_behind","_law_sums"] (ah aX) i5 ["_law_k","_law_firsts","_law_later","_law_pairs"] [none,some 4,some 5,some 3]:=⟨rfl,by decide +kernel,by decide +kernel,by decide +kernel,by decide +kernel,rfl,by decide +kernel⟩
noncomputable def i4:Scope:={ kind:=.function,names:=[(".0",.local),("_law_one",.local),("_law_other",.local)],isGenerator:=false,isCoroutine:=false,more:=[] }
theorem dq:Blk ["_law_word","_law_row","_law_many","_law_pairs","_law_firsts","_law_later","_law_fine","_law_ahead","_law_behind","_law_sums"] (ah aX) i4 ["_law_one","_law_other"] [none,none]:=⟨rfl,by decide +kernel,by decide +kernel,by decide +kernel,by decide +kernel,rfl,by decide +kernel⟩
noncomputable def iZ:Scope:={ kind:=.function,names:=[(".0",.local),("_law_one",.local)],isGenerator:=false,isCoroutine:=false,more:=[] }
theorem gf:Blk ["_law_word","_law_row","_law_many","_law_pairs","_law_firsts","_law_later","_law_fine","_law_ahead","_law_behind","_law_sums"] (ah aX) iZ ["_law_one"] [none]:=⟨rfl,by decide +kernel,by decide +kernel,by decide +kernel,by decide +kernel,rfl,by decide +kernel⟩
noncomputable def iY:Scope:={ kind:=.function,names:=[(".0",.local),("_law_k",.local),("_law_row",.free)],isGenerator:=false,isCoroutine:=false,more:=[] }
theorem gc:Blk ["_law_word","_law_row","_law_many","_law_pairs","_law_firsts","_law_later","_law_fine","_law_ahead","_law_behind","_law_sums"] (ah aX) iY ["_law_k","_law_row"] [none,some 1]:=⟨rfl,by decide +kernel,by decide +kernel,by decide +kernel,by decide +kernel,rfl,by decide +kernel⟩
theorem qQ:aC ["_law_pairs"] ["_law_pairs"] (ah fW):=⟨rfl,rfl,rfl,by decide +kernel,rfl,by decide +kernel,by decide +kernel⟩
noncomputable def kc:Scope:={ kind:=.function,names:=[(".0",.local),("_law_one",.local),("_law_other",.local)],isGenerator:=false,isCoroutine:=false,more:=[] }
theorem eB:Blk ["_law_pairs"] (ah fW) kc ["_law_one","_law_other"] [none,none]:=⟨rfl,by decide +kernel,by decide +kernel,by decide +kernel,by decide +kernel,rfl,by decide +kernel⟩
theorem bj:aC ["_law_told","_law_rows_here","_law_step","_law_change","_law_height","_law_width","_law_turn","_law_y","_law_x","_law_pillar"] ["_law_told","_law_rows_here","_law_step","_law_change"] (ah df):=⟨rfl,rfl,rfl,by decide +kernel,rfl,by decide +kernel,by decide +kernel⟩
noncomputable def g_:Scope:={ kind:=.function,names:=[(".0",.local),("_law_y",.local),("_law_rows_here",.free),("_law_x",.free)],isGenerator:=false,isCoroutine:=false,more:=[] }
theorem fJ:Blk ["_law_told","_law_rows_here","_law_step","_law_change","_law_height","_law_width","_law_turn","_law_y","_law_x","_law_pillar"] (ah df) g_ ["_law_y","_law_rows_here","_law_x"] [none,some 1,some 8]:=⟨rfl,by decide +kernel,by decide +kernel,by decide +kernel,by decide +kernel,rfl,by decide +kernel⟩
theorem e9:aC ["_law_told","_law_rows_here","_law_found","_law_step"] ["_law_told","_law_rows_here"] (ah dR):=⟨rfl,rfl,rfl,by decide +kernel,rfl,by decide +kernel,by decide +kernel⟩
noncomputable def i9:Scope:={ kind:=.function,names:=[(".0",.local),("_law_row",.local),("list",.globalImplicit)],isGenerator:=false,isCoroutine:=false,more:=[] }
theorem cG:Blk ["_law_told","_law_rows_here","_law_found","_law_step"] (ah dR) i9 ["_law_row"] [none]:=⟨rfl,by decide +kernel,by decide +kernel,by decide +kernel,by decide +kernel,rfl,by decide +kernel⟩
theorem cj:aC ["_law_sizes_here","_law_at","_law_found","_law_size_here","_law_longer","_law_place","_law_many"] ["_law_sizes_here","_law_at"] (ah iu):=⟨rfl,rfl,rfl,by decide +kernel,rfl,by decide +kernel,by decide +kernel⟩
theorem dP:aC ["_law_told","_law_step","_law_corners_here","_law_rows_here","_law_pillars"] ["_law_told","_law_step"] (ah dg):=⟨rfl,rfl,rfl,by decide +kernel,rfl,by decide +kernel,by decide +kernel⟩
noncomputable def ju:Scope:={ kind:=.function,names:=[(".0",.local),("_law_k",.local),("_law_corners_here",.free),("_law_told",.free)],isGenerator:=false,isCoroutine:=false,more:=[] }
theorem gE:Blk ["_law_told","_law_step","_law_corners_here","_law_rows_here","_law_pillars"] (ah dg) ju ["_law_k","_law_corners_here","_law_told"] [none,some 2,some 0]:=⟨rfl,by decide +kernel,by decide +kernel,by decide +kernel,by decide +kernel,rfl,by decide +kernel⟩
noncomputable def jt:Scope:={ kind:=.function,names:=[(".0",.local),("_law_k",.local),("_law_corners_here",.free),("_law_told",.free)],isGenerator:=false,isCoroutine:=false,more:=[] }
theorem gD:Blk ["_law_told","_law_step","_law_corners_here","_law_rows_here","_law_pillars"] (ah dg) jt ["_law_k","_law_corners_here","_law_told"] [none,some 2,some 0]:=⟨rfl,by decide +kernel,by decide +kernel,by decide +kernel,by decide +kernel,rfl,by decide +kernel⟩
theorem cv:aC ["_law_told","_law_step","_law_place","_law_rows_here","_law_pillars","_law_found","_law_y","_law_many"] ["_law_told","_law_step","_law_place"] (ah eQ):=⟨rfl,rfl,rfl,by decide +kernel,rfl,by decide +kernel,by decide +kernel⟩
noncomputable def jv:Scope:={ kind:=.function,names:=[(".0",.local),("_law_x",.local),("_law_often",.local),("_law_many",.free),("_law_y",.free)],isGenerator:=false,isCoroutine:=false,more:=[] }
theorem dE:Blk ["_law_told","_law_step","_law_place","_law_rows_here","_law_pillars","_law_found","_law_y","_law_many"] (ah eQ) jv ["_law_x","_law_often","_law_many","_law_y"] [none,none,some 7,some 6]:=⟨rfl,by decide +kernel,by decide +kernel,by decide +kernel,by decide +kernel,rfl,by decide +kernel⟩
theorem ee:aC ["_law_told","_law_step","_law_rows_here","_law_pillars"] ["_law_told","_law_step"] (ah e_):=⟨rfl,rfl,rfl,by decide +kernel,rfl,by decide +kernel,by decide +kernel⟩
theorem pz:aC ["_law_thing"] ["_law_thing"] (ah gM):=⟨rfl,rfl,rfl,by decide +kernel,rfl,by decide +kernel,by decide +kernel⟩
theorem cx:aC ["_law_told","_law_plan_here","_law_step","_law_place","_law_rows_here","_law_number","_law_due","_law_found","_law_many","_law_less_here"] ["_law_told","_law_plan_here","_law_step","_law_place","_law_rows_here","_law_number"] (ah cL):=⟨rfl,rfl,rfl,by decide +kernel,rfl,by decide +kernel,by decide +kernel⟩
noncomputable def jA:Scope:={ kind:=.function,names:=[(".0",.local),("_law_y",.local),("_law_x",.local),("_law_often",.local),("_law_rows_here",.free)],isGenerator:=false,isCoroutine:=false,more:=[] }
theorem cM:Blk ["_law_told","_law_plan_here","_law_step","_law_place","_law_rows_here","_law_number","_law_due","_law_found","_law_many","_law_less_here"] (ah cL) jA ["_law_y","_law_x","_law_often","_law_rows_here"] [none,none,none,some 4]:=⟨rfl,by decide +kernel,by decide +kernel,by decide +kernel,by decide +kernel,rfl,by decide +kernel⟩
noncomputable def jz:Scope:={ kind:=.function,names:=[(".0",.local),("_law_one",.local),("_law_often",.local)],isGenerator:=false,isCoroutine:=false,more:=[] }
theorem dG:Blk ["_law_told","_law_plan_here","_law_step","_law_place","_law_rows_here","_law_number","_law_due","_law_found","_law_many","_law_less_here"] (ah cL) jz ["_law_one","_law_often"] [none,none]:=⟨rfl,by decide +kernel,by decide +kernel,by decide +kernel,by decide +kernel,rfl,by decide +kernel⟩
noncomputable def jw:Scope:={ kind:=.function,names:=[(".0",.local),("_law_one",.local),("_law_many",.local),("_law_whole",.globalImplicit)],isGenerator:=false,isCoroutine:=false,more:=[] }
theorem dF:Blk ["_law_told","_law_plan_here","_law_step","_law_place","_law_rows_here","_law_number","_law_due","_law_found","_law_many","_law_less_here"] (ah cL) jw ["_law_one","_law_many"] [none,none]:=⟨rfl,by decide +kernel,by decide +kernel,by decide +kernel,by decide +kernel,rfl,by decide +kernel⟩
theorem d_:aC ["_law_script","_law_k","_law_stream_here","_law_told","_law_plan_here","_law_rows_here","_law_step","_law_height","_law_width","_law_numbers","_law_y","_law_x"] ["_law_script"] (ah ze):=⟨rfl,rfl,rfl,by decide +kernel,rfl,by decide +kernel,by decide +kernel⟩
set_option genInjectivity false in
set_option genSizeOf false in
structure Ad where
 aS:Addr
 bO:Addr
 a_:Addr
 bN:Addr
 a9:Addr
 aW:Addr
 cN:Addr
 oN:Addr
 mv:FuncData
 qk:Addr
 oK:FuncData
 f_:Addr
 fB:FuncData
 jP:Addr
 iL:FuncData
 iU:Addr
 kT:FuncData
 gw:Addr
 iQ:FuncData
 fF:Addr
 g5:FuncData
 fE:Addr
 g0:FuncData
 mB:Addr
 kL:FuncData
 qj:Addr
 oJ:FuncData
 mz:Addr
 kK:FuncData
 kU:Addr
 jI:FuncData
 eu:Addr
 gA:FuncData
 j8:Addr
 my:FuncData
 gR:Addr
 jN:FuncData
 gv:Addr
 iP:FuncData
 ql:Addr
 oM:FuncData
 jO:Addr
 iK:FuncData
 xo:Addr
 uf:FuncData
 mJ:Addr
 kR:FuncData
 jQ:Addr
 iM:FuncData
 mD:Addr
 kM:FuncData
 mE:Addr
 kN:FuncData
 oO:Addr
 mw:FuncData
 mG:Addr
 kP:FuncData
 mF:Addr
 kO:FuncData
 iT:Addr
 gZ:FuncData
 aN:Addr
 iN:FuncData
 mH:Addr
 kQ:FuncData
 iR:Addr
 gX:FuncData
 jR:Addr
 iO:FuncData
 mK:Addr
 kS:FuncData
 kX:Addr
 jK:FuncData
 kY:Addr
 jL:FuncData
 iS:Addr
 gY:FuncData
 kW:Addr
 jJ:FuncData
 kZ:Addr
 jM:FuncData
 AO:Addr
 vK:FuncData
structure Txt (K:Fg0) (mg:SV) (a:Ad):Prop where
 vR:Cls K a.a_
 vo:mg "Guessed"=some (.ref a.a_)
 mk_Guessed:Mk0 K a.a_
 yF:Cls K a.bN
 yo:mg "Halves"=some (.ref a.bN)
 mk_Halves:Mk0 K a.bN
 vQ:Cls K a.a9
 vn:mg "Leaning"=some (.ref a.a9)
 mk_Leaning:Mk0 K a.a9
 dU:Cls K a.aW
 CQ:mg "Plan"=some (.ref a.aW)
 Di:Cls K a.cN
 CP:mg "Sums"=some (.ref a.cN)
 mk_Sums:Mk0 K a.cN
 oo:dH K a.aW "chosen"
 gW:dH K a.aW "corners"
 et:dH K a.aW "letters"
 cW:G6 K mg "ALONG_PILLARS" a.aS ["p","b"]
 eT:G6 K mg "ALONG_ROWS" a.bO ["r","b"]
 tys:TyS K
 aP:FX K mg "is_whole" "is_whole" jU a.oN a.mv ["thing","low","high"]
 je:FX K mg "is_size" "is_size" lO a.qk a.oK ["height","width"]
 cB:FX K mg "is_place_within" "is_place_within" de a.f_ a.fB ["thing","height","width"]
 dM:FX K mg "check_place" "check_place" gn a.jP a.iL ["plan","step","thing"]
 ma:FY K "word" "Sums.word" iw a.iU a.kT ["self"]
 jE:FY K "word" "Halves.word" gr a.gw a.iQ ["self"]
 hW:FY K "word" "Guessed.word" ff a.fF a.g5 ["self"]
 hV:FY K "word" "Leaning.word" fe a.fE a.g0 ["self"]
 fP:FX K mg "all_rules" "all_rules" ij a.mB a.kL []
 jd:FX K mg "rule_of" "rule_of" lN a.qj a.oJ ["word"]
 fO:FX K mg "can_halve" "can_halve" ig a.mz a.kK ["letter","height","width"]
 eI:FX K mg "corners_of" "corners_of" gK a.kU a.jI ["height","width","way"]
 gT:FY K "__init__" "Plan.__init__" eg a.eu a.gA ["self","height","width","word","way"]
 nD:FY K "way" "Plan.way" jW a.j8 a.my ["self"]
 kf:FY K "steps" "Plan.steps" gN a.gR a.jN ["self"]
 gm:FY K "corner" "Plan.corner" gq a.gv a.iP ["self","step"]
 dv:FX K mg "counted" "counted" lP a.ql a.oM ["at","many"]
 dJ:FX K mg "share_ahead" "share_ahead" dQ a.jO a.iK ["plan","step","place"]
 gH:FX K mg "share" "share" nj a.xo a.uf ["plan","step","place"]
 fU:FX K mg "_law_cell" "_law_cell" ir a.mJ a.kR ["_law_script","_law_k"]
 dN:FX K mg "_law_stream" "_law_stream" gp a.jQ a.iM ["_law_cell_here"]
 ak:FX K mg "_law_take" "_law_take" ik a.mD a.kM ["_law_stream_here","_law_many"]
 fQ:FX K mg "_law_size" "_law_size" ip a.mE a.kN ["_law_stream_here","_law_far"]
 gI:FX K mg "_law_way" "_law_way" jV a.oO a.mw ["_law_stream_here","_law_height","_law_width","_law_most"]
 fT:FX K mg "_law_plan" "_law_plan" iq a.mG a.kP ["_law_stream_here","_law_far"]
 fR:FX K mg "_law_rows" "_law_rows" fV a.mF a.kO ["_law_stream_here","_law_told","_law_far"]
 aR:FX K mg "_law_corners" "_law_corners" fc a.iT a.gZ ["_law_told"]
 cu:FX K mg "_law_parted" "_law_parted" aX a.aN a.iN ["_law_word","_law_row"]
 cH:FX K mg "_law_less" "_law_less" fW a.mH a.kQ ["_law_pairs"]
 c_:FX K mg "_law_stepped" "_law_stepped" df a.iR a.gX ["_law_told","_law_rows_here","_law_step","_law_change"]
 dO:FX K mg "_law_halved" "_law_halved" dR a.jR a.iO ["_law_told","_law_rows_here"]
 cI:FX K mg "_law_axis" "_law_axis" iu a.mK a.kS ["_law_sizes_here","_law_at"]
 cg:FX K mg "_law_sizes" "_law_sizes" dg a.kX a.jK ["_law_told","_law_step"]
 eL:FX K mg "_law_share" "_law_share" eQ a.kY a.jL ["_law_told","_law_step","_law_place"]
 da:FX K mg "_law_singles" "_law_singles" e_ a.iS a.gY ["_law_told","_law_step"]
 eJ:FX K mg "_law_whole" "_law_whole" gM a.kW a.jJ ["_law_thing"]
 eM:FX K mg "_law_right" "_law_right" cL a.kZ a.jM ["_law_told","_law_plan_here","_law_step","_law_place","_law_rows_here","_law_number"]
 G_:FX K mg "law" "law" ze a.AO a.vK ["_law_script"]
 mk_Plan:Mk K a.aW a.eu
 m7:Meth K a.a_ "word" a.fF
 ox:Meth K a.bN "word" a.gw
 m6:Meth K a.a9 "word" a.fE
 tQ:Meth K a.aW "way" a.j8
 pN:Meth K a.aW "steps" a.gR
 iF:Meth K a.aW "corner" a.gv
 rR:Meth K a.cN "word" a.iU
 pT:∃ t,mg "MOST_PLACES"=some (.int 512 t)
 mP:∃ t,mg "MOST_SIDE"=some (.int 64 t)
 z_bool:mg "bool"=none
 z_int:mg "int"=none
 z_isinstance:mg "isinstance"=none
 z_len:mg "len"=none
 z_list:mg "list"=none
 z_max:mg "max"=none
 z_min:mg "min"=none
 z_range:mg "range"=none
 z_reversed:mg "reversed"=none
 z_sorted:mg "sorted"=none
 z_str:mg "str"=none
 z_sum:mg "sum"=none
 z_tuple:mg "tuple"=none
 ty:eU K
theorem snoc {f:Nat->D} {k:Nat} {d:D} (h:d=f k):(List.range k).map f++[d]=(List.range (k + 1)).map f:=by
 rw[List.range_succ,List.map_append,h];rfl
theorem nu {f:Nat->D} {k n:Nat} {d:D} (h:((List.range n).map f)[k]?=some d):k < n/\d=f k:=by
 have lt:k < n:=by have:=(gS0 h).1;simpa using this
 rw[List.getElem?_map,List.getElem?_range lt] at h;cases h;exact⟨lt,rfl⟩
theorem small {n:Nat} (h:n<=1000):n < sizeLine:=by rw[sizeLine_eq];lia
theorem zL {α β:Type} (f:α->β) (xs:List α) (lo hi st:Option Int):pk (xs.map f) lo hi st=(pk xs lo hi st).map f:=by
 unfold pk;rw[lM0,List.map_filterMap]
 congr 1
 funext x
 rw[List.getElem?_map]
section
variable {P:Program} {w:World} {K:Fg0} {mg:SV} {base:Heap} {a:Ad}
noncomputable def whD (d:D) (lo hi:Int):Bool:=match d with
 | .int i=>decide (lo<=i) && decide (i<=hi)
 | _=>false
def BR:S3:=fun Γ Q=>∃ (d:D) (lo hi:Int),Γ=[some (.fz d),some (.fz (.int lo)),some (.fz (.int hi))]/\knD d=true/\Q (.fz (.bl (whD d lo hi))) Γ
theorem dW (T:Txt K mg a):aQ P w K mg base CX0 1 a.oN a.mv ["thing","low","high"] (sp3 K 3 BR):=by
 refine ok3 T.aP.F sR (hbody:=fun cdv A outer s H E hr=>⟨_,_,(ag (b9 (P3W.pt (lR (cC (aJ (Eo T.ty) (by rfl) T.z_isinstance (by decide +kernel) (aa (bv 0) (aa (P3.opd (n8 (n:="bool") (by rfl) T.z_bool (by decide +kernel))) af)))) (kn (cV (cC (aJ (Em T.ty) (by rfl) T.z_isinstance (by decide +kernel) (aa (bv 0) (aa (P3.opd (n8 (n:="int") (by rfl) T.z_int (by decide +kernel))) af)))))))) (ao (aE iA)) bD)
   (ao (aE (z8 uu uu (bv 1) (bv 0) (bv 2))))),fun Γa Q h hl=>?_⟩)
 refine De h ?_;clear h;intro d lo hi hZ;obtain⟨rfl,hk,q⟩:=hZ;cases d <;> (try cases hk) <;> walk_at "m4" <;> (try exact q)
 rename_i i;by_cases h:lo<=i
 ·simp only[vL,h,decide_true];simpa only[whD,h,decide_true,Bool.true_and] using q
 ·simp only[vL,h,decide_false];simpa only[whD,h,decide_false,Bool.false_and] using q
inductive Rl where
 | sum | half | guess | lean
noncomputable def Rl.cls (a:Ad):Rl->Addr
 | .sum=>a.cN | .half=>a.bN | .guess=>a.a_ | .lean=>a.a9
noncomputable abbrev Rl.ob (a:Ad) (R:Rl):D:=.ins (R.cls a) [] []
noncomputable def Rl.num:Rl->Nat
 | .sum=>0 | .half=>1 | .guess=>2 | .lean=>3
noncomputable def Rl.word:Rl->Str
 | .sum=>"sum" | .half=>"half" | .guess=>"guess" | .lean=>"lean"
theorem bz (i:Int) (n:Nat):(rng i n).length=n:=by unfold rng;simp
theorem ck {n k:Nat} {d:D} (h:(rng 0 n)[k]?=some d):k < n/\d=.int (k:Int):=by
 unfold rng at h;obtain⟨h1,h2⟩:=nu h;exact⟨h1,by rw[h2];simp⟩
def qH (x:Str):S3:=fun Γ Q=>∃ d,Γ=[some (.fz d)]/\Q (.fz (.str x)) Γ
theorem rO (T:Txt K mg a):aQ P w K mg base CX0 1 a.iU a.kT ["self"] (sp3 K 1 (qH "sum")):=by
 refine ok3 T.ma.F qS (hbody:=fun cdv A outer s H E hr=>⟨_,_,(ao (aE bE)),fun Γa Q h hl=>?_⟩);obtain⟨d,rfl,q⟩:=h;walk_at "m4";exact q
theorem om (T:Txt K mg a):aQ P w K mg base CX0 1 a.gw a.iQ ["self"] (sp3 K 1 (qH "half")):=by
 refine ok3 T.jE.F nQ (hbody:=fun cdv A outer s H E hr=>⟨_,_,(ao (aE bE)),fun Γa Q h hl=>?_⟩);obtain⟨d,rfl,q⟩:=h;walk_at "m4";exact q
theorem m5 (T:Txt K mg a):aQ P w K mg base CX0 1 a.fF a.g5 ["self"] (sp3 K 1 (qH "guess")):=by
 refine ok3 T.hW.F mW (hbody:=fun cdv A outer s H E hr=>⟨_,_,(ao (aE bE)),fun Γa Q h hl=>?_⟩);obtain⟨d,rfl,q⟩:=h;walk_at "m4";exact q
theorem mZ (T:Txt K mg a):aQ P w K mg base CX0 1 a.fE a.g0 ["self"] (sp3 K 1 (qH "lean")):=by
 refine ok3 T.hV.F mV (hbody:=fun cdv A outer s H E hr=>⟨_,_,(ao (aE bE)),fun Γa Q h hl=>?_⟩);obtain⟨d,rfl,q⟩:=h;walk_at "m4";exact q
def B5 (a:Ad):S3:=fun Γ Q=>Γ=[]/\Q (.fr (.lst [Rl.sum.ob a,Rl.half.ob a,Rl.guess.ob a,Rl.lean.ob a])) Γ
theorem rH (T:Txt K mg a):aQ P w K mg base CX0 1 a.mB a.kL [] (sp3 K 0 (B5 a)):=by
 refine ok3 T.fP.F qP (hbody:=fun cdv A outer s H E hr=>⟨_,_,(ao (aE (bH (ab (jh T.mk_Sums (by rfl) T.CP) (ab (jh T.mk_Halves (by rfl) T.yo) (ab (jh T.mk_Guessed (by rfl) T.vo) (ab (jh T.mk_Leaning (by rfl) T.vn) ai))))))),fun Γa Q h hl=>?_⟩);obtain⟨rfl,q⟩:=h;walk_at "m4";exact⟨by rw[sizeLine_eq];lia,q⟩
def ET (a:Ad):S3:=fun Γ Q=>∃ (R:Rl),Γ=[some (.fz (.str R.word))]/\Q (.fz (R.ob a)) Γ
theorem ve (T:Txt K mg a):aQ P w K mg base CX0 2 a.qj a.oJ ["word"] (sp3 K 1 (ET a)):=by
 refine ok3 T.jd.F nN (hbody:=fun cdv A outer s H E hr=>⟨_,_,(ag (fg PassesOwn.never rfl (bP (by rfl) (z9 (by rfl) (rH T) hr.dn (by rfl) T.fP.m T.fP.F.kp T.fP.b)) (aT (i:=1) nN.nd rfl (Or.inl rfl))
   (ao (b9 (aK (fI (by rfl) hr) (P3.opd (P3.or (gz (by rfl) (bv 1) T.Di T.rR (rO T) hr.dn T.ma.b) (P3.or (gz (by rfl) (bv 1) T.yF T.ox (om T) hr.dn T.jE.b) (P3.or (gz (by rfl) (bv 1) T.vR T.m7 (m5 T) hr.dn T.hW.b) (gz (by rfl) (bv 1) T.vQ T.m6 (mZ T) hr.dn T.hV.b))))) (bv 0) (aM _)) (ao (aE (u_ 1))) bD)))
   (ao gx)),fun Γa Q h hl=>?_⟩)
 obtain⟨R,rfl,q⟩:=h;walk_at "m4";refine⟨rfl,?_⟩;walk_at "m4";refine cJ (fun k Γ=>k<=R.num/\∃ s,Γ=[some (.fz (.str R.word)),fo s]) ⟨Nat.zero_le _,none,rfl⟩ ?_ ?_
 ·rintro k d Γ hd ⟨hk,s,rfl⟩
  match k,hd with
  | 0,hd=>
   cases hd;walk_at "m4";refine .inl ⟨rfl,_,rfl,?_⟩;walk_at "m4";refine lC (fun e=>?_) (fun e=>?_)
   ·have hR:R=.sum:=by cases R <;> first | rfl | exact absurd e (by decide +kernel)
    subst hR;walk_at "m4";exact q
   ·walk_at "m4";exact⟨by cases R <;> first | decide | exact absurd hk (by decide) | exact absurd e (by decide +kernel),some _,rfl⟩
  | 1,hd=>
   cases hd;walk_at "m4";refine .inr (.inl ⟨rfl,_,rfl,?_⟩);walk_at "m4";refine lC (fun e=>?_) (fun e=>?_)
   ·have hR:R=.half:=by cases R <;> first | rfl | exact absurd e (by decide +kernel)
    subst hR;walk_at "m4";exact q
   ·walk_at "m4";exact⟨by cases R <;> first | decide | exact absurd hk (by decide) | exact absurd e (by decide +kernel),some _,rfl⟩
  | 2,hd=>
   cases hd;walk_at "m4";refine .inr (.inr (.inl ⟨rfl,_,rfl,?_⟩));walk_at "m4";refine lC (fun e=>?_) (fun e=>?_)
   ·have hR:R=.guess:=by cases R <;> first | rfl | exact absurd e (by decide +kernel)
    subst hR;walk_at "m4";exact q
   ·walk_at "m4";exact⟨by cases R <;> first | decide | exact absurd hk (by decide) | exact absurd e (by decide +kernel),some _,rfl⟩
  | 3,hd=>
   cases hd;walk_at "m4";refine .inr (.inr (.inr ⟨rfl,_,rfl,?_⟩));walk_at "m4";refine lC (fun e=>?_) (fun e=>?_)
   ·have hR:R=.lean:=by cases R <;> first | rfl | exact absurd e (by decide +kernel)
    subst hR;walk_at "m4";exact q
   ·walk_at "m4";exact⟨by cases R <;> first | decide | exact absurd hk (by decide) | exact absurd e (by decide +kernel),some _,rfl⟩
 ·rintro Γ ⟨hk,_⟩;cases R <;> exact absurd (show 4<=_ from hk) (by decide)
noncomputable abbrev plD (a:Ad) (R:Rl) (h w:Int) (ls:List Lt):D:=.ins a.aW ["chosen","corners","letters"] [R.ob a,.tup ((fG h w ls).map cD),.str (wy ls)]
def Jg:S3:=fun Γ Q=>∃ (l:Lt) (h w:Int),Γ=[some (.fz (.str l.s)),some (.fz (.int h)),some (.fz (.int w))]/\Can l h w/\Q (.fz (.bl true)) Γ
def EL:S3:=fun Γ Q=>∃ h w:Int,Γ=[some (.fz (.int h)),some (.fz (.int w))]/\hU h w/\Q (.fz (.bl true)) Γ
theorem vf (T:Txt K mg a):aQ P w K mg base CX0 2 a.qk a.oK ["height","width"] (sp3 K 2 EL):=by
 refine ok3 T.je.F uS (hbody:=fun cdv A outer s H E hr=>⟨_,_,(ag (b9 (P3W.pt (lR (cV (cC (av (by rfl) (dW T) hr.dn (by rfl) T.aP.m T.aP.F.kp T.aP.b (aa (P3.opd (p3v 0)) (aa (P3.opd ae) (aa (P3.opd (rC (i:=64) (by rfl) T.mP)) af)))))) (kn (cV (cC (av (by rfl) (dW T) hr.dn (by rfl) T.aP.m T.aP.F.kp T.aP.b (aa (P3.opd (p3v 1)) (aa (P3.opd ae) (aa (P3.opd (rC (i:=64) (by rfl) T.mP)) af))))))))) (ao (aE iA)) bD)
   (ao (aE (cZ uu (P3.opd (bw (bv 0) (bv 1))) (P3.opd (rC (i:=512) (by rfl) T.pT)) (aM _))))),fun Γa Q h hl=>?_⟩)
 obtain⟨h,w,rfl,⟨a1,a2,a3,a4,a5⟩,q⟩:=h;walk_at "m4";refine eA _ _ _ (ke rfl rfl ?_);rw[show whD (.int h) 1 64=true by simp only[whD,Bool.and_eq_true,decide_eq_true_eq];lia];walk_at "m4";refine eA _ _ _ (ke rfl rfl ?_);rw[show whD (.int w) 1 64=true by simp only[whD,Bool.and_eq_true,decide_eq_true_eq];lia];walk_at "m4";refine⟨.inl ⟨by lia,by lia⟩,?_⟩;rw[show vL (h * w) 512=true by simp only[vL,decide_eq_true_eq];exact a5];exact q
theorem rG (T:Txt K mg a):aQ P w K mg base CX0 1 a.mz a.kK ["letter","height","width"] (sp3 K 3 Jg):=by
 refine ok3 T.fO.F qO (hbody:=fun cdv A outer s H E hr=>⟨_,_,(ag (b9 (P3W.pt (ko (aK (mQ (by rfl)) (bv 0) (P3.opd (fZ (p:=a.bO) (zs:=["r","b"]) (by rfl) T.eT)) (by with_unfolding_all rfl)) (iz (aK ur (bv 2) (P3.opd ae) (aM _))))) (ao (aE iA)) bD)
   (ag (b9 (P3W.pt (ko (aK (mQ (by rfl)) (bv 0) (P3.opd (fZ (p:=a.aS) (zs:=["p","b"]) (by rfl) T.cW)) (by with_unfolding_all rfl)) (iz (aK ur (bv 1) (P3.opd ae) (aM _))))) (ao (aE iA)) bD)
   (ao (aE (DQ (cZ (mQ (by rfl)) (bv 0) (P3.opd (fZ (p:=a.bO) (zs:=["r","b"]) (by rfl) T.eT)) (by with_unfolding_all rfl)) (lS (cZ (mQ (by rfl)) (bv 0) (P3.opd (fZ (p:=a.aS) (zs:=["p","b"]) (by rfl) T.cW)) (by with_unfolding_all rfl)))))))),fun Γa Q h hl=>?_⟩)
 obtain⟨l,h,w,rfl,⟨c1,c2⟩,q⟩:=h;have e1:l≠.p->rX w 2=false:=fun z=>by have:=c1 z;simp only[rX,decide_eq_false_iff_not];lia
 have e2:l≠.r->rX h 2=false:=fun z=>by have:=c2 z;simp only[rX,decide_eq_false_iff_not];lia
 cases l
 ·walk_at "m4";rw[e1 (by decide)];walk_at "m4";exact q
 ·walk_at "m4";rw[e2 (by decide)];walk_at "m4";exact q
 ·walk_at "m4";rw[e1 (by decide)];walk_at "m4";rw[e2 (by decide)];walk_at "m4";exact q
def GU:S3:=fun Γ Q=>∃ (h w:Int) (ls:List Lt),Γ=[some (.fz (.int h)),some (.fz (.int w)),some (.fz (.str (wy ls)))]/\Good h w ls/\ls.length<=10/\Q (.fz (.tup ((fG h w ls).map cD))) Γ
theorem jm {h w:Int} {ls:List Lt} {k:Nat} (hk:k < ls.length):((fG h w ls).take (k + 1)).map cD++[cD (cat h w ls (k + 1))]=((fG h w ls).take (k + 2)).map cD:=by
 have e:(fG h w ls).take (k + 1 + 1)=(fG h w ls).take (k + 1)++[cat h w ls (k + 1)]:=by
  conv=>lhs;rw[List.take_succ]
  rw[xA (by lia)];rfl
 show _=((fG h w ls).take (k + 1 + 1)).map cD;rw[e,List.map_append];rfl
theorem w5 {ls:List Lt} {k:Nat} {d:D} (h:(ls.map fun l=>D.str l.s)[k]?=some d):∃ l,ls[k]?=some l/\d=.str l.s:=by
 rw[List.getElem?_map] at h;cases q:ls[k]? with
 | none=>rw[q] at h;cases h
 | some l=>rw[q] at h;cases h;exact⟨l,rfl,rfl⟩
theorem dA {α:Type} {l:List α} {k:Nat} {a:α} (h:l[k]?=some a):k < l.length:=(gS0 h).1
theorem pG (T:Txt K mg a):aQ P w K mg base CX0 2 a.kU a.jI ["height","width","way"] (sp3 K 3 GU):=by
 refine ok3 T.eI.F cO (hbody:=fun cdv A outer s H E hr=>⟨_,_,(ag (b9 (cV (cC (aJ (Jj T.tys) (by rfl) T.z_isinstance (by decide +kernel) (aa (bv 2) (aa (P3.opd (n8 (n:="str") (by rfl) T.z_str (by decide +kernel))) af))))) (ao gx) bD)
   (ag (aD (i:=3) cO.nd rfl (Or.inl rfl) (bH (ab (aL (ab (p3v 0) (ab (p3v 1) ai))) ai)))
   (ag (fg PassesOwn.never rfl (Az (p3v 2)) (aT (i:=4) cO.nd rfl (Or.inl rfl))
   (ag (b9 (cV (cC (av (by rfl) (rG T) hr.dn (by rfl) T.fO.m T.fO.F.kp T.fO.b (aa (P3.opd (p3v 4)) (aa (P3.opd (p3v 0)) (aa (P3.opd (p3v 1)) af)))))) (ao gx) bD)
   (ag (b9 (aK (mQ (by rfl)) (bv 4) (P3.opd (fZ (p:=a.bO) (zs:=["r","b"]) (by rfl) T.eT)) (by with_unfolding_all rfl)) (ao (aD (i:=1) cO.nd rfl (Or.inl rfl) (cE (P3.opd (aH (bv 1) (P3.opd ae))) (P3.opd ae)))) bD)
   (ag (b9 (aK (mQ (by rfl)) (bv 4) (P3.opd (fZ (p:=a.aS) (zs:=["p","b"]) (by rfl) T.cW)) (by with_unfolding_all rfl)) (ao (aD (i:=0) cO.nd rfl (Or.inl rfl) (cE (P3.opd (aH (bv 0) (P3.opd ae))) (P3.opd ae)))) bD)
   (ao (gO (lU 3 (by rfl) (bv 3) (aL (ab (p3v 0) (ab (p3v 1) ai))))))))))
   (ao (aE (bU (Dj (by rfl)) (by rfl) T.z_tuple (by decide +kernel) (aa (bv 3) af))))))),fun Γa Q h hl=>?_⟩)
 refine De h ?_;clear h;intro h w ls hZ;obtain⟨rfl,g,hls,q⟩:=hZ;walk_at "m4";refine⟨by rw[sizeLine_eq];lia,by rw[sizeLine_eq];lia,?_⟩;refine⟨yO ls,cJ (fun k Γ=>k<=ls.length/\∃ s,Γ=[some (.fz (.int (cat h w ls k).1)),some (.fz (.int (cat h w ls k).2)),some (.fz (.str (wy ls))),some (.ow (.lst (((fG h w ls).take (k + 1)).map cD))),fo s]) ⟨Nat.zero_le _,none,by rw[fH];cases ls <;> rfl⟩ ?_ ?_⟩
 ·rintro k d Γ hd ⟨hk,s,rfl⟩;rw[kg] at hd;obtain⟨l,hl,rfl⟩:=w5 hd;have lt:=dA hl;walk_at "m4";refine eA l _ _ (ke rfl (rW g hl) ?_);walk_at "m4";have st:=k_ (h:=h) (w:=w) hl;have tk:((fG h w ls).take (k + 1)).length<=11:=by rw[List.length_take,gB];lia
  have z1:(2:Nat)<=sizeLine:=by rw[sizeLine_eq];lia
  have z2:(((fG h w ls).take (k + 1)).map cD).length < sizeLine:=by rw[lM0,sizeLine_eq];lia
  cases l
  ·have st':cat h w ls (k + 1)=((cat h w ls k).1,((cat h w ls k).2 + 1) / 2):=st;walk_at "m4";refine⟨⟨by decide,by decide⟩,?_⟩;walk_at "m4";refine⟨z1,z2,lt,some (.str Lt.r.s),?_⟩;rw[<- jm lt,st']
   rfl
  ·have st':cat h w ls (k + 1)=(((cat h w ls k).1 + 1) / 2,(cat h w ls k).2):=st;walk_at "m4";refine⟨⟨by decide,by decide⟩,?_⟩;walk_at "m4";refine⟨z1,z2,lt,some (.str Lt.p.s),?_⟩;rw[<- jm lt,st']
   rfl
  ·have st':cat h w ls (k + 1)=(((cat h w ls k).1 + 1) / 2,((cat h w ls k).2 + 1) / 2):=st;walk_at "m4";refine⟨⟨by decide,by decide⟩,?_⟩;walk_at "m4";refine⟨⟨by decide,by decide⟩,?_⟩;walk_at "m4";refine⟨z1,z2,lt,some (.str Lt.b.s),?_⟩;rw[<- jm lt,st']
   rfl
 ·rintro Γ ⟨hk,s,rfl⟩;walk_at "m4";rw[kg,lM0,List.take_of_length_le (by rw[gB];lia)];exact q
def Fb (a:Ad):S3:=fun Γ Q=>∃ (R:Rl) (h w:Int) (ls:List Lt),Γ=[some (.ln (.ins a.aW [] [])),some (.fz (.int h)),some (.fz (.int w)),some (.fz (.str R.word)),some (.fz (.str (wy ls)))]/\hU h w/\Good h w ls/\ls.length<=10/\
 Q (.fz .non) [some (.ln (plD a R h w ls)),some (.fz (.int h)),some (.fz (.int w)),some (.fz (.str R.word)),some (.fz (.str (wy ls)))]
theorem lV (T:Txt K mg a):aQ P w K mg base CX0 3 a.eu a.gA ["self","height","width","word","way"] (sp3 K 5 (Fb a)):=by
 refine ok3 T.gT.F lM (hbody:=fun cdv A outer s H E hr=>⟨_,_,(ag (b9 (cV (cC (av (by rfl) (vf T) hr.dn (by rfl) T.je.m T.je.F.kp T.je.b (aa (P3.opd (p3v 1)) (aa (P3.opd (p3v 2)) af))))) (ao gx) bD)
   (ag (qT (C0:=a.aW) 0 (by rfl) T.dU T.oo (bv 0) (av (by rfl) (ve T) hr.dn (by rfl) T.jd.m T.jd.F.kp T.jd.b (aa (P3.opd (p3v 3)) af)))
   (ag (qT (C0:=a.aW) 0 (by rfl) T.dU T.gW (bv 0) (av (by rfl) (pG T) hr.dn (by rfl) T.eI.m T.eI.F.kp T.eI.b (aa (P3.opd (p3v 1)) (aa (P3.opd (p3v 2)) (aa (P3.opd (p3v 4)) af)))))
   (ao (qT (C0:=a.aW) 0 (by rfl) T.dU T.et (bv 0) (p3v 4)))))),fun Γa Q h hl=>?_⟩)
 refine AR h ?_;clear h;intro R h w ls hZ;obtain⟨rfl,sz,g,hls,q⟩:=hZ;walk_at "m4";refine Dd h w (ke rfl sz ?_);walk_at "m4";refine⟨R,rfl,?_⟩;walk_at "m4";refine eA h w ls (pU rfl g hls ?_);walk_at "m4";exact⟨by decide +kernel,by decide +kernel,q⟩
def zc (a:Ad) (f:Rl->Int->Int->List Lt->D):S3:=fun Γ Q=>∃ (R:Rl) (h w:Int) (ls:List Lt),Γ=[some (.fz (plD a R h w ls))]/\ls.length<=10/\Q (.fz (f R h w ls)) Γ
theorem tK (T:Txt K mg a):aQ P w K mg base CX0 1 a.j8 a.my ["self"] (sp3 K 1 (zc a fun _ _ _ ls=>.str (wy ls))):=by
 refine ok3 T.nD.F sS (hbody:=fun cdv A outer s H E hr=>⟨_,_,(ao (aE (rE (f:="letters") (by rfl) (bv 0) T.dU T.et))),fun Γa Q h hl=>?_⟩);refine AR h ?_;clear h;intro R h w ls hZ;obtain⟨rfl,hls,q⟩:=hZ;walk_at "m4";exact q
theorem pM (T:Txt K mg a):aQ P w K mg base CX0 1 a.gR a.jN ["self"] (sp3 K 1 (zc a fun _ _ _ ls=>.int ls.length)):=by
 refine ok3 T.kf.F pC (hbody:=fun cdv A outer s H E hr=>⟨_,_,(ao (aE (aJ (g6 (by rfl)) (by rfl) T.z_len (by decide +kernel) (aa (P3.opd (rE (f:="letters") (by rfl) (bv 0) T.dU T.et)) af)))),fun Γa Q h hl=>?_⟩);refine AR h ?_;clear h;intro R h w ls hZ;obtain⟨rfl,hls,q⟩:=hZ;walk_at "m4";refine⟨by rw[bu,sizeLine_eq];lia,?_⟩;rw[bu];exact q
def AY (a:Ad):S3:=fun Γ Q=>∃ (R:Rl) (h w:Int) (ls:List Lt) (k:Nat),Γ=[some (.fz (plD a R h w ls)),some (.fz (.int k))]/\ls.length<=10/\k<=ls.length/\Q (.fz (cD (cat h w ls k))) Γ
theorem iC (T:Txt K mg a):aQ P w K mg base CX0 2 a.gv a.iP ["self","step"] (sp3 K 2 (AY a)):=by
 refine ok3 T.gm.F nP (hbody:=fun cdv A outer s H E hr=>⟨_,_,(ag (b9 (cV (cC (av (by rfl) (dW T) hr.dn (by rfl) T.aP.m T.aP.F.kp T.aP.b (aa (P3.opd (p3v 1)) (aa (P3.opd ae) (aa (P3.opd (gz (by rfl) (bv 0) T.dU T.pN (pM T) hr.dn T.kf.b)) af)))))) (ao gx) bD)
   (ao (aE (az (by rfl) (P3.opd (rE (f:="corners") (by rfl) (bv 0) T.dU T.gW)) (bv 1) (fun _ _=>rfl))))),fun Γa Q h hl=>?_⟩)
 refine AQ h ?_;clear h;intro R h w ls k hZ;obtain⟨rfl,hls,hk,q⟩:=hZ;walk_at "m4";refine⟨by decide +kernel,vN R h w ls (ke rfl hls ?_)⟩;walk_at "m4";refine eA _ _ _ (ke rfl rfl ?_);rw[show whD (.int k) 0 (ls.length:Int)=true by simp only[whD,Bool.and_eq_true,decide_eq_true_eq];lia];walk_at "m4";exact bQ.mpr ⟨_,lE hk,q⟩
noncomputable abbrev pD (y x:Int):D:=.tup [.int y,.int x]
def yP:S3:=fun Γ Q=>∃ (y x h w:Int),Γ=[some (.fz (pD y x)),some (.fz (.int h)),some (.fz (.int w))]/\0<=y/\y < h/\0<=x/\x < w/\Q (.fz (.bl true)) Γ
theorem Hb {i lo hi:Int} (h1:lo<=i) (h2:i<=hi):whD (.int i) lo hi=true:=by
 show (decide (lo<=i) && decide (i<=hi))=true;rw[decide_eq_true h1,decide_eq_true h2];rfl
theorem jX (T:Txt K mg a):aQ P w K mg base CX0 2 a.f_ a.fB ["thing","height","width"] (sp3 K 3 yP):=by
 refine ok3 T.cB.F jT (hbody:=fun cdv A outer s H E hr=>⟨_,_,(ag (b9 (P3W.pt (lR (cV (cC (aJ (Ji T.ty) (by rfl) T.z_isinstance (by decide +kernel) (aa (bv 0) (aa (P3.opd (n8 (n:="tuple") (by rfl) T.z_tuple (by decide +kernel))) af))))) (kn (aK (dm (by rfl) hr) (P3.opd (aJ (g6 (by rfl)) (by rfl) T.z_len (by decide +kernel) (aa (bv 0) af))) (P3.opd ae) (aM _))))) (ao (aE iA)) bD)
   (ao (aE (rF (av (by rfl) (dW T) hr.dn (by rfl) T.aP.m T.aP.F.kp T.aP.b (aa (P3.opd (az (by rfl) (bv 0) (P3.opd ae) (fun _ _=>rfl))) (aa (P3.opd ae) (aa (P3.opd (fv (bv 1) (P3.opd ae))) af)))) (lS (av (by rfl) (dW T) hr.dn (by rfl) T.aP.m T.aP.F.kp T.aP.b (aa (P3.opd (az (by rfl) (bv 0) (P3.opd ae) (fun _ _=>rfl))) (aa (P3.opd ae) (aa (P3.opd (fv (bv 2) (P3.opd ae))) af))))))))),fun Γa Q h hl=>?_⟩)
 refine AR h ?_;clear h;intro y x h w hZ;obtain⟨rfl,h1,h2,h3,h4,q⟩:=hZ;walk_at "m4";rw[show (!(((2:Nat):Int) == 2))=false from rfl];walk_at "m4";refine eA _ _ _ (ke rfl rfl ?_);rw[Hb h1 (by lia)];walk_at "m4";refine eA _ _ _ (ke rfl rfl ?_);rw[Hb h3 (by lia)];exact q
def AX (a:Ad):S3:=fun Γ Q=>∃ (R:Rl) (h w:Int) (ls:List Lt) (k:Nat) (y x:Int),Γ=[some (.fz (plD a R h w ls)),some (.fz (.int (k:Int))),some (.fz (pD y x))]/\ls.length<=10/\k<=ls.length/\0<=y/\y < (cat h w ls k).1/\0<=x/\x < (cat h w ls k).2/\Q (.fz .non) Γ
theorem og (T:Txt K mg a):aQ P w K mg base CX0 3 a.jP a.iL ["plan","step","thing"] (sp3 K 3 (AX a)):=by
 refine ok3 T.dM.F e7 (hbody:=fun cdv A outer s H E hr=>⟨_,_,(ag (eR (is:=[3,4]) (by rfl) (wU (by rfl) (bv 0) T.dU T.iF (iC T) hr.dn T.gm.b (aa (P3.opd (p3v 1)) af)) (aq (ay (i:=3) e7.nd rfl (Or.inl rfl)) (aq (ay (i:=4) e7.nd rfl (Or.inl rfl)) aV)) rfl)
   (ao (b9 (cV (cC (av (by rfl) (jX T) hr.dn (by rfl) T.cB.m T.cB.F.kp T.cB.b (aa (P3.opd (p3v 2)) (aa (P3.opd (p3v 3)) (aa (P3.opd (p3v 4)) af)))))) (ao gx) bD))),fun Γa Q h hl=>?_⟩)
 refine GN h ?_;clear h;intro R h w ls k y x hZ;obtain⟨rfl,hls,hk,h1,h2,h3,h4,q⟩:=hZ;walk_at "m4";refine⟨by decide +kernel,vM R h w ls k (pU rfl hls hk ?_)⟩;unfold cD;walk_at "m4";refine vN y x _ _ (hE rfl h1 h2 h3 h4 ?_);walk_at "m4";exact q
noncomputable abbrev piD (q:Int×Int):D:=.tup [.int q.1,.int q.2]
noncomputable def bI (p n:Int):List (Int×Int):=if 2 * p + 1 < n then [(2 * p,1),(2 * p + 1,1)] else [(2 * p,2)]
def Je:S3:=fun Γ Q=>∃ (p n:Int),Γ=[some (.fz (.int p)),some (.fz (.int n))]/\Q (.fr (.lst ((bI p n).map piD))) Γ
theorem cm2 {k:Int}:uK 2 k:=by unfold uK;lia
theorem sl2 {n:Nat} (h:n<=1000):n<=sizeLine:=Nat.le_of_lt (small h)
theorem n_ (T:Txt K mg a):aQ P w K mg base CX0 1 a.ql a.oM ["at","many"] (sp3 K 2 Je):=by
 refine ok3 T.dv.F uT (hbody:=fun cdv A outer s H E hr=>⟨_,_,(ag (b9 (aK ur (P3.opd (aH (P3.opd (bw (P3.opd ae) (bv 0))) (P3.opd ae))) (bv 1) (aM _)) (ao (aE (bH (ab (aL (ab (bw (P3.opd ae) (bv 0)) (ab ae ai))) (ab (aL (ab (aH (P3.opd (bw (P3.opd ae) (bv 0))) (P3.opd ae)) (ab ae ai))) ai))))) bD)
   (ao (aE (bH (ab (aL (ab (bw (P3.opd ae) (bv 0)) (ab ae ai))) ai))))),fun Γa Q h hl=>?_⟩)
 obtain⟨p,n,rfl,q⟩:=h;walk_at "m4";refine⟨cm2,lC (fun e=>?_) (fun e=>?_)⟩
 ·have h:2 * p + 1 < n:=by simpa [rX] using e
  unfold bI at q;rw[if_pos h] at q;walk_at "m4";exact⟨cm2,sl2 (by decide),cm2,sl2 (by decide),sl2 (by decide),q⟩
 ·have h:¬ 2 * p + 1 < n:=by simpa [rX] using e
  unfold bI at q;rw[if_neg h] at q;walk_at "m4";exact⟨cm2,sl2 (by decide),sl2 (by decide),q⟩
noncomputable def cA (l:Lt) (h y:Int):List (Int×Int):=if l=.r then [(y,1)] else bI y h
noncomputable def cb (l:Lt) (w x:Int):List (Int×Int):=if l=.p then [(x,1)] else bI x w
noncomputable def crs (A B:List (Int×Int)):List PM:=A.flatMap fun d=>B.map fun q=>(d.1,q.1,d.2 * q.2)
noncomputable def ja (l:Lt) (c:Int×Int) (y x:Int):List PM:=crs (cA l c.1 y) (cb l c.2 x)
def JU (a:Ad):S3:=fun Γ Q=>∃ (R:Rl) (h w:Int) (ls:List Lt) (k:Nat) (l:Lt) (y x:Int),Γ=[some (.fz (plD a R h w ls)),some (.fz (.int (k:Int))),some (.fz (pD y x))]/\ls.length<=10/\ls[k]?=some l/\Q (.fr (.lst ((ja l (cat h w ls k) y x).map pmD))) Γ
theorem xv {p n:Int}:(bI p n).length<=2:=by unfold bI;split <;> simp
theorem xu {p n:Int} {q:Int×Int} (h:q∈bI p n):q.2=1\/q.2=2:=by
 unfold bI at h;split at h
 ·simp only[List.mem_cons,List.not_mem_nil,or_false] at h;rcases h with rfl | rfl <;> simp
 ·simp only[List.mem_cons,List.not_mem_nil,or_false] at h;subst h;simp
theorem BE {l:Lt} {h y:Int}:(cA l h y).length<=2:=by unfold cA;split;simp;exact xv
theorem BH {l:Lt} {h y:Int}:(cb l h y).length<=2:=by unfold cb;split;simp;exact xv
theorem BD {l:Lt} {h y:Int} {q:Int×Int} (m:q∈cA l h y):q.2=1\/q.2=2:=by
 unfold cA at m;split at m
 ·simp only[List.mem_cons,List.not_mem_nil,or_false] at m;subst m;simp
 ·exact xu m
theorem BG {l:Lt} {h y:Int} {q:Int×Int} (m:q∈cb l h y):q.2=1\/q.2=2:=by
 unfold cb at m;split at m
 ·simp only[List.mem_cons,List.not_mem_nil,or_false] at m;subst m;simp
 ·exact xu m
theorem eC {α:Type} {f:α->D} {l:List α} {k:Nat} {d:D} (h:(l.map f)[k]?=some d):∃ x,l[k]?=some x/\d=f x:=by
 rw[List.getElem?_map] at h;cases q:l[k]? with
 | none=>rw[q] at h;cases h
 | some x=>rw[q] at h;cases h;exact⟨x,rfl,rfl⟩
theorem take_snoc {α:Type} {xs:List α} {k:Nat} {x:α} (h:xs[k]?=some x):xs.take (k + 1)=xs.take k++[x]:=by rw[List.take_succ,h];rfl
theorem jk {α β:Type} {f:α->List β} {xs:List α} {k:Nat} {x:α} (h:xs[k]?=some x):(xs.take (k + 1)).flatMap f=(xs.take k).flatMap f++f x:=by rw[take_snoc h,List.flatMap_append];simp
theorem vJ {α β:Type} {f:α->List β} {c:Nat}:∀ {xs:List α},(∀ x∈xs,(f x).length<=c)->(xs.flatMap f).length<=xs.length * c
 | [],_=>by simp
 | x::r,h=>by
  have h1:=h x (.head _);have h2:=vJ (xs:=r) fun y hy=>h y (.tail _ hy);rw[List.flatMap_cons,List.length_append,List.length_cons,Nat.add_mul,Nat.one_mul];lia
theorem n9 (T:Txt K mg a):aQ P w K mg base CX0 3 a.jO a.iK ["plan","step","place"] (sp3 K 3 (JU a)):=by
 refine ok3 T.dJ.F bC (hbody:=fun cdv A outer s H E hr=>⟨_,_,(ag (eR (is:=[3,4]) (by rfl) (wU (by rfl) (bv 0) T.dU T.iF (iC T) hr.dn T.gm.b (aa (P3.opd (p3v 1)) af)) (aq (ay (i:=3) bC.nd rfl (Or.inl rfl)) (aq (ay (i:=4) bC.nd rfl (Or.inl rfl)) aV)) rfl)
   (ag (aD (i:=5) bC.nd rfl (Or.inl rfl) (az (by rfl) (P3.opd (gz (by rfl) (bv 0) T.dU T.tQ (tK T) hr.dn T.nD.b)) (bv 1) (fun _ _=>rfl)))
   (ag (eR (is:=[6,7]) (by rfl) (p3v 2) (aq (ay (i:=6) bC.nd rfl (Or.inl rfl)) (aq (ay (i:=7) bC.nd rfl (Or.inl rfl)) aV)) rfl)
   (ag (aD (i:=8) bC.nd rfl (Or.inl rfl) (cQ (tG (aK (mQ (by rfl)) (bv 5) (P3.opd (fZ (p:=a.aS) (zs:=["p","b"]) (by rfl) T.cW)) (by with_unfolding_all rfl)) (av (by rfl) (n_ T) hr.dn (by rfl) T.dv.m T.dv.F.kp T.dv.b (aa (P3.opd (p3v 6)) (aa (P3.opd (p3v 3)) af))) (bH (ab (aL (ab (p3v 6) (ab ae ai))) ai)))))
   (ag (aD (i:=9) bC.nd rfl (Or.inr rfl) (cQ (tG (aK (mQ (by rfl)) (bv 5) (P3.opd (fZ (p:=a.bO) (zs:=["r","b"]) (by rfl) T.eT)) (by with_unfolding_all rfl)) (av (by rfl) (n_ T) hr.dn (by rfl) T.dv.m T.dv.F.kp T.dv.b (aa (P3.opd (p3v 7)) (aa (P3.opd (p3v 4)) af))) (bH (ab (aL (ab (p3v 7) (ab ae ai))) ai)))))
   (ao (aE (zY rfl (bP (by rfl) (p3v 8)) b8 (fun _ _ _ _ _=>(dC (is:=[0,1]) (by rfl) (aq (ay (i:=0) b8.nd rfl (Or.inl rfl)) (aq (ay (i:=1) b8.nd rfl (Or.inl rfl)) aV)) rfl)) (fun _ _ _ _ _=>(bP (by rfl) (p3v 4))) (fun _ _ _ _ _=>(dC (is:=[2,3]) (by rfl) (aq (ay (i:=2) b8.nd rfl (Or.inl rfl)) (aq (ay (i:=3) b8.nd rfl (Or.inl rfl)) aV)) rfl)) (fun _ _ _ _ _=>(aL (ab (aL (ab (p3v 0) (ab (p3v 2) ai))) (ab (bw (bv 1) (bv 3)) ai)))))))))))),fun Γa Q h hl=>?_⟩)
 refine KA h ?_;clear h;intro R h w ls k l y x hZ;obtain⟨rfl,hls,hk,q⟩:=hZ;have lk:=dA hk;walk_at "m4";refine⟨by decide +kernel,vM R h w ls k (pU rfl hls (by lia) ?_)⟩;unfold ja at q;generalize cat h w ls k=c at q ⊢;unfold cD;walk_at "m4";refine⟨by decide +kernel,vN R h w ls (ke rfl hls ?_)⟩;walk_at "m4";refine⟨sl2 (by rw[bu];lia),l,atL hk,?_⟩;have yl:=BE (l:=l) (h:=c.1) (y:=y);have y2:∀ q∈cA l c.1 y,q.2=1\/q.2=2:=fun q m=>BD m;have xl:=BH (l:=l) (h:=c.2) (y:=x);have x2:∀ q∈cb l c.2 x,q.2=1\/q.2=2:=fun q m=>BG m;cases l
 case' r=>
  walk_at "m4";refine⟨sl2 (by decide),sl2 (by decide),x,c.2,rfl,?_⟩;rw[show [D.tup [.int y,.int 1]]=(cA .r c.1 y).map piD from rfl,show bI x c.2=cb .r c.2 x from rfl]
 case' p=>
  walk_at "m4";refine⟨y,c.1,rfl,?_⟩;rw[show bI y c.1=cA .p c.1 y from rfl];walk_at "m4";rw[show [D.tup [.int x,.int 1]]=(cb .p c.2 x).map piD from rfl];refine⟨sl2 (by decide),sl2 (by decide),?_⟩
 case' b=>
  walk_at "m4";refine⟨y,c.1,rfl,?_⟩;rw[show bI y c.1=cA .b c.1 y from rfl];walk_at "m4";refine⟨x,c.2,rfl,?_⟩;rw[show bI x c.2=cb .b c.2 x from rfl]
 all_goals
  generalize cA _ c.1 y=Y at q yl y2 ⊢;generalize cb _ c.2 x=Z at q xl x2 ⊢;walk_at "m4";refine gC (fun j ys Γc=>j<=Y.length/\ys=(crs (Y.take j) Z).map pmD/\∃ s1 s2 s3 s4,Γc=[fo s1,fo s2,fo s3,fo s4,some (.fz (.lst (Z.map piD)))]) ⟨Nat.zero_le _,rfl,none,none,none,none,rfl⟩ ?_ ?_
  ·rintro j d ys Γc hd ⟨hj,rfl,s1,s2,s3,s4,rfl⟩;obtain⟨v,hv,rfl⟩:=eC hd;have lt:=dA hv;have v2:=y2 v (List.mem_of_getElem? hv);have l1:(crs (Y.take j) Z).length<=4:=by
    have:=vJ (f:=fun d:Int×Int=>Z.map fun q=>((d.1,q.1,d.2 * q.2):PM)) (c:=2) (xs:=Y.take j) fun x _=>by rw[lM0];exact xl
    rw[List.length_take] at this;unfold crs;lia
   walk_at "m4";refine⟨fun i ys Γc=>ys=(crs (Y.take j) Z++(Z.take i).map fun q=>((v.1,q.1,v.2 * q.2):PM)).map pmD/\i<=Z.length/\∃ s3 s4,Γc=[some (.fz (.int v.1)),some (.fz (.int v.2)),fo s3,fo s4,some (.fz (.lst (Z.map piD)))],⟨by simp,by lia,s3,s4,rfl⟩,?_,?_⟩
   ·rintro i d ys Γc hd ⟨rfl,hi,s3,s4,rfl⟩;obtain⟨u,hu,rfl⟩:=eC hd;have ltu:=dA hu;have u2:=x2 u (List.mem_of_getElem? hu);walk_at "m4";refine⟨small (by rw[lM0,List.length_append,lM0,List.length_take];lia),sl2 (by decide),.inl ⟨by lia,by lia⟩,sl2 (by decide),?_,by lia,⟨some _,rfl⟩,⟨some _,rfl⟩⟩;rw[take_snoc hu];simp only[List.map_append,List.append_assoc];rfl
   ·rintro ys Γc ⟨rfl,hi,s3,s4,rfl⟩;refine⟨lt,?_,some _,some _,s3,s4,rfl⟩;rw[lM0,List.take_length]
    congr 1
    exact(jk hv).symm
  ·rintro ys Γc ⟨hj,rfl,s1,s2,s3,s4,rfl⟩;rw[show Y.take (List.map piD Y).length=Y by rw[lM0,List.take_length]];have l1:(crs Y Z).length<=4:=by
    have:=vJ (f:=fun d:Int×Int=>Z.map fun q=>((d.1,q.1,d.2 * q.2):PM)) (c:=2) (xs:=Y) fun x _=>by rw[lM0];exact xl
    unfold crs;lia
   exact⟨small (by rw[lM0];lia),q⟩
noncomputable def stp (l:Lt) (c:Int×Int) (p:PM):List PM:=(ja l c p.1 p.2.1).map fun q=>(q.1,q.2.1,q.2.2 * p.2.2)
noncomputable def shR (h w:Int):List Lt->Int->Int->List PM
 | [],y,x=>[(y,x,1)]
 | l::ls,y,x=>(shR (nh l h) (nw l w) ls y x).flatMap (stp l (h,w))
noncomputable def ayR (h:Int):List Lt->Int->List (Int×Int)
 | [],y=>[(y,1)]
 | l::ls,y=>(ayR (nh l h) ls y).flatMap fun d=>(cA l h d.1).map fun c=>(c.1,c.2 * d.2)
noncomputable def axR (w:Int):List Lt->Int->List (Int×Int)
 | [],x=>[(x,1)]
 | l::ls,x=>(axR (nw l w) ls x).flatMap fun d=>(cb l w d.1).map fun c=>(c.1,c.2 * d.2)
theorem AL {α β:Type} {f g:α->List β}:∀ B:List α,(B.flatMap fun c=>f c++g c).Perm (B.flatMap f++B.flatMap g)
 | []=>List.Perm.refl _
 | c::B=>by
  simp only[List.flatMap_cons];refine((AL B).append_left (f c++g c)).trans ?_;simp only[List.append_assoc];refine List.Perm.append_left _ ?_;rw[<- List.append_assoc,<- List.append_assoc];exact List.perm_append_comm.append_right _
theorem xk {α β γ:Type} {g:α->β->List γ} {B:List β}:∀ A:List α,(A.flatMap fun q=>B.flatMap fun c=>g q c).Perm (B.flatMap fun c=>A.flatMap fun q=>g q c)
 | []=>by simp
 | q::A=>by
  simp only[List.flatMap_cons];exact((xk A).append_left _).trans (AL B).symm
theorem xn {α β:Type} {f g:α->List β}:∀ {A:List α},(∀ x∈A,(f x).Perm (g x))->(A.flatMap f).Perm (A.flatMap g)
 | [],_=>List.Perm.refl _
 | x::A,h=>by
  simp only[List.flatMap_cons];exact(h x (.head _)).append (xn fun y hy=>h y (.tail _ hy))
theorem nc:∀ (ls:List Lt) (h w y x:Int),(shR h w ls y x).Perm (crs (ayR h ls y) (axR w ls x))
 | [],_,_,_,_=>List.Perm.refl _
 | l::ls,h,w,y,x=>by
  refine(List.Perm.flatMap_right (stp l (h,w)) (nc ls (nh l h) (nw l w) y x)).trans ?_;have e:(crs (ayR (nh l h) ls y) (axR (nw l w) ls x)).flatMap (stp l (h,w))=(ayR (nh l h) ls y).flatMap fun d=>(axR (nw l w) ls x).flatMap fun q=>(cA l h d.1).flatMap fun c=>(cb l w q.1).map fun e=>((c.1,e.1,c.2 * d.2 * (e.2 * q.2)):PM):=by
   unfold crs;rw[List.flatMap_assoc]
   congr 1;funext d
   rw[List.flatMap_map]
   congr 1;funext q
   unfold stp ja crs;rw[List.map_flatMap]
   congr 1;funext c
   rw[List.map_map]
   congr 1;funext e
   simp only[Function.comp,Prod.mk.injEq,true_and];simp only[Int.mul_assoc,Int.mul_left_comm,Int.mul_comm]
  have e2:crs (ayR h (l::ls) y) (axR w (l::ls) x)=(ayR (nh l h) ls y).flatMap fun d=>(cA l h d.1).flatMap fun c=>(axR (nw l w) ls x).flatMap fun q=>(cb l w q.1).map fun e=>((c.1,e.1,c.2 * d.2 * (e.2 * q.2)):PM):=by
   unfold crs;simp only[ayR,axR];rw[List.flatMap_assoc]
   congr 1;funext d
   rw[List.flatMap_map]
   congr 1;funext c
   rw[List.map_flatMap]
   congr 1;funext q
   rw[List.map_map]
   rfl
  rw[e,e2];exact xn fun d _=>xk _
structure Ri (n M:Int) (L:List (Int×Int)):Prop where
 up:L.Pairwise fun a b=>a.1 < b.1
 lo:∀ p∈L,0<=p.1/\p.1 < n/\1<=p.2/\p.2<=M
theorem sX:∀ {L:List (Int×Int)} {lo hi:Int},(L.Pairwise fun a b=>a.1 < b.1)->(∀ p∈L,lo<=p.1/\p.1 < hi)->lo<=hi->(L.length:Int)<=hi - lo
 | [],_,_,_,_,h=>by simpa using h
 | p::L,lo,hi,h,hb,_=>by
  obtain⟨h1,h2⟩:=List.pairwise_cons.mp h;have b:=hb p (.head _);have:=sX (lo:=p.1 + 1) (hi:=hi) h2 (fun q hq=>⟨by have:=h1 q hq;lia,(hb q (.tail _ hq)).2⟩) (by lia);simp only[List.length_cons];lia
theorem Ri.len {n M:Int} {L:List (Int×Int)} (h:Ri n M L) (h0:0<=n):L.length<=n.toNat:=by
 have:=sX (lo:=0) (hi:=n) h.up (fun p hp=>⟨(h.lo p hp).1,(h.lo p hp).2.1⟩) h0;lia
theorem Ri.step {n m M:Int} {L:List (Int×Int)} {f:Int->List (Int×Int)} (h:Ri m M L) (hM:0<=M) (hf:(∀ p,f p=[(p,1)])/\m=n\/(∀ p,f p=bI p n)/\m=(n + 1) / 2) :
  Ri n (2 * M) (L.flatMap fun d=>(f d.1).map fun c=>(c.1,c.2 * d.2)):=by
 rcases hf with ⟨hf,rfl⟩ | ⟨hf,rfl⟩
 ·refine⟨List.pairwise_flatMap.mpr ⟨fun d _=>?_,h.up.imp ?_⟩,fun p hp=>?_⟩
  ·rw[hf];simp
  ·intro a b hab x hx y hy;rw[hf] at hx hy;simp at hx hy;subst hx hy;exact hab
  ·obtain⟨d,hd,hp⟩:=List.mem_flatMap.mp hp;rw[hf] at hp;simp at hp;subst hp;have:=h.lo d hd;simp only[Int.one_mul];lia
 ·refine⟨List.pairwise_flatMap.mpr ⟨fun d _=>?_,h.up.imp ?_⟩,fun p hp=>?_⟩
  ·rw[hf];unfold bI;split <;> simp;lia
  ·intro a b hab x hx y hy;rw[hf] at hx hy;unfold bI at hx hy;split at hx <;> split at hy <;> simp at hx hy
   ·rcases hx with rfl | rfl <;> rcases hy with rfl | rfl <;> simp only <;> lia
   ·rcases hx with rfl | rfl <;> subst hy <;> simp only <;> lia
   ·rcases hy with rfl | rfl <;> subst hx <;> simp only <;> lia
   ·subst hx hy;simp only;lia
  ·obtain⟨d,hd,hp⟩:=List.mem_flatMap.mp hp;have:=h.lo d hd;rw[hf] at hp;unfold bI at hp;split at hp <;> simp at hp
   ·rcases hp with rfl | rfl <;> simp only <;> lia
   ·subst hp;simp only;lia
theorem yT (n:Nat):(1:Int)<=2 ^ n:=by
 induction n with
 | zero=>decide
 | succ n ih=>rw[Int.pow_succ];lia
noncomputable def fh (h:Int):List Lt->Int
 | []=>h
 | l::ls=>fh (nh l h) ls
noncomputable def fwd (w:Int):List Lt->Int
 | []=>w
 | l::ls=>fwd (nw l w) ls
theorem xF:∀ (ls:List Lt) (h y:Int),0<=y->y < fh h ls->Ri h (2 ^ ls.length) (ayR h ls y)
 | [],h,y,h0,h1=>⟨by simp [ayR],by simp only[ayR,List.mem_cons,List.not_mem_nil,or_false];rintro p rfl;exact⟨h0,h1,Int.le_refl _,Int.le_refl _⟩⟩
 | l::ls,h,y,h0,h1=>by
  have:=xF ls (nh l h) y h0 h1;rw[List.length_cons,Int.pow_succ,Int.mul_comm];refine this.step (Int.le_trans (by decide) (yT _)) ?_;by_cases e:l=.r
  ·exact .inl ⟨fun p=>by unfold cA;rw[if_pos e],by unfold nh;rw[if_pos e]⟩
  ·exact .inr ⟨fun p=>by unfold cA;rw[if_neg e],by unfold nh;rw[if_neg e]⟩
theorem xG:∀ (ls:List Lt) (h y:Int),0<=y->y < fwd h ls->Ri h (2 ^ ls.length) (axR h ls y)
 | [],h,y,h0,h1=>⟨by simp [axR],by simp only[axR,List.mem_cons,List.not_mem_nil,or_false];rintro p rfl;exact⟨h0,h1,Int.le_refl _,Int.le_refl _⟩⟩
 | l::ls,h,y,h0,h1=>by
  have:=xG ls (nw l h) y h0 h1;rw[List.length_cons,Int.pow_succ,Int.mul_comm];refine this.step (Int.le_trans (by decide) (yT _)) ?_;by_cases e:l=.p
  ·exact .inl ⟨fun p=>by unfold cb;rw[if_pos e],by unfold nw;rw[if_pos e]⟩
  ·exact .inr ⟨fun p=>by unfold cb;rw[if_neg e],by unfold nw;rw[if_neg e]⟩
theorem GR {n m M N:Int} {A B:List (Int×Int)} (ha:Ri n M A) (hb:Ri m N B):(crs A B).Pairwise pmL:=by
 refine List.pairwise_flatMap.mpr ⟨fun d _=>List.pairwise_map.mpr (hb.up.imp fun h=>.inr ⟨rfl,.inl h⟩),ha.up.imp ?_⟩;intro a b hab x hx y hy;obtain⟨_,_,rfl⟩:=List.mem_map.mp hx;obtain⟨_,_,rfl⟩:=List.mem_map.mp hy;exact .inl hab
theorem Cj {a b:PM} (h1:pmL a b) (h2:pmL b a):a=b:=by
 obtain⟨a1,a2,a3⟩:=a;obtain⟨b1,b2,b3⟩:=b;unfold pmL at h1 h2;simp only at h1 h2;simp only[Prod.mk.injEq];lia
theorem GS {n m M N:Int} {A B:List (Int×Int)} (ha:Ri n M A) (hb:Ri m N B) (hM:M<=2048) (hN:N<=2048) (hn:n<=64) (hm:m<=64):∀ p∈crs A B,pmB p:=by
 intro p hp;obtain⟨d,hd,hp⟩:=List.mem_flatMap.mp hp;obtain⟨q,hq,rfl⟩:=List.mem_map.mp hp;have h1:=ha.lo d hd;have h2:=hb.lo q hq;have:d.2 * q.2<=2048 * 2048:=Int.mul_le_mul (by lia) (by lia) (by lia) (by decide);have h3:0<=d.2 * q.2:=Int.mul_nonneg (by lia) (by lia);exact⟨h1.1,Int.lt_of_lt_of_le h1.2.1 (by lia),h2.1,Int.lt_of_lt_of_le h2.2.1 (by lia),h3,Int.lt_of_le_of_lt this (by decide)⟩
theorem nz {A B:List (Int×Int)}:(crs A B).length=A.length * B.length:=by
 unfold crs
 induction A with
 | nil=>simp
 | cons a A ih=>rw[List.flatMap_cons,List.length_append,ih,lM0,List.length_cons,Nat.add_mul];lia
theorem vV:∀ {ls:List Lt} {h w:Int} {k:Nat},k<=ls.length->fh h (ls.take k)=(cat h w ls k).1/\fwd w (ls.take k)=(cat h w ls k).2
 | ls,h,w,0,_=>by rw[fH];exact⟨rfl,rfl⟩
 | [],_,_,k + 1,hk=>by simp at hk
 | l::ls,h,w,k + 1,hk=>by
  rw[la];exact vV (ls:=ls) (h:=nh l h) (w:=nw l w) (k:=k) (by simpa using hk)
theorem A8:∀ {ls:List Lt} {h w:Int} {k i:Nat},i<=k->k<=ls.length->fh (cat h w ls i).1 ((ls.take k).drop i)=(cat h w ls k).1/\fwd (cat h w ls i).2 ((ls.take k).drop i)=(cat h w ls k).2
 | ls,h,w,k,0,_,hk=>by rw[fH,List.drop_zero];exact vV hk
 | [],_,_,k,i + 1,hi,hk=>by simp at hk;lia
 | l::ls,h,w,k + 1,i + 1,hi,hk=>by
  rw[la,la];exact A8 (ls:=ls) (h:=nh l h) (w:=nw l w) (k:=k) (i:=i) (by lia) (by simpa using hk)
 | l::ls,_,_,0,i + 1,hi,_=>by lia
noncomputable def shK (h w:Int) (ls:List Lt) (k i:Nat) (y x:Int):List PM:=shR (cat h w ls i).1 (cat h w ls i).2 ((ls.take k).drop i) y x
theorem Hw {h w:Int} {ls:List Lt} {k i:Nat} {y x:Int} {l:Lt} (hl:ls[i]?=some l) (hi:i < k):shK h w ls k i y x=(shK h w ls k (i + 1) y x).flatMap (stp l (cat h w ls i)):=by
 have e:(ls.take k).drop i=l::(ls.take k).drop (i + 1):=by
  have h1:(ls.take k)[i]?=some l:=by rw[List.getElem?_take_of_lt hi];exact hl
  obtain⟨lt,e⟩:=gS0 h1;rw[List.drop_eq_getElem_cons lt,e]
 unfold shK;rw[e,k_ hl]
 rfl
theorem Hx {h w:Int} {ls:List Lt} {k:Nat} {y x:Int}:shK h w ls k k y x=[(y,x,1)]:=by
 unfold shK;rw[List.drop_of_length_le (by rw[List.length_take];lia)];rfl
theorem DG {h w:Int} {ls:List Lt} {k:Nat} {y x:Int}:shK h w ls k 0 y x=shR h w (ls.take k) y x:=by
 unfold shK;rw[fH,List.drop_zero]
structure InC (h w:Int) (ls:List Lt) (k:Nat) (y x:Int):Prop where
 y0:0<=y
 y1:y < (cat h w ls k).1
 x0:0<=x
 x1:x < (cat h w ls k).2
theorem lL {h w:Int} {ls:List Lt} {k i:Nat} {y x:Int} (hi:i<=k) (hk:k<=ls.length) (c:InC h w ls k y x) :
  Ri (cat h w ls i).1 (2 ^ ((ls.take k).drop i).length) (ayR (cat h w ls i).1 ((ls.take k).drop i) y)/\Ri (cat h w ls i).2 (2 ^ ((ls.take k).drop i).length) (axR (cat h w ls i).2 ((ls.take k).drop i) x):=by
 obtain⟨e1,e2⟩:=A8 (ls:=ls) (h:=h) (w:=w) hi hk;exact⟨xF _ _ _ c.y0 (by rw[e1];exact c.y1),xG _ _ _ c.x0 (by rw[e2];exact c.x1)⟩
theorem wx {h w:Int} {ls:List Lt} {k i:Nat} {y x:Int} (sz:hU h w) (g:Good h w ls) (hi:i<=k) (hk:k<=ls.length) (c:InC h w ls k y x):(shK h w ls k i y x).length<=4096:=by
 obtain⟨r1,r2⟩:=lL hi hk c;have p:=(nc ((ls.take k).drop i) (cat h w ls i).1 (cat h w ls i).2 y x).length_eq;obtain⟨c1,c2,c3,c4⟩:=lg (k:=i) g sz.h1 sz.w1 (by lia);have h2:=sz.h2;have w2:=sz.w2;have l1:=r1.len (by lia);have l2:=r2.len (by lia);unfold shK;rw[p,nz];have l3:_<=64:=Nat.le_trans l1 (by lia);have l4:_<=64:=Nat.le_trans l2 (by lia);exact Nat.mul_le_mul l3 l4
noncomputable def shF (h w:Int) (ls:List Lt) (k:Nat) (y x:Int):List PM:=crs (ayR h (ls.take k) y) (axR w (ls.take k) x)
theorem yU {n:Nat} (h:n<=10):(2:Int) ^ n<=2048:=by
 have:∀ m:Nat,m<=10->(2:Int) ^ m<=2048:=by decide
 exact this n h
theorem xU {h w:Int} {ls:List Lt} {k:Nat} {y x:Int} {L:List PM} (hk:k<=ls.length) (c:InC h w ls k y x) (p:(shK h w ls k 0 y x).Perm L) (s:L.Pairwise pmL):L=shF h w ls k y x:=by
 obtain⟨r1,r2⟩:=lL (Nat.zero_le k) hk c;rw[DG] at p;rw[fH,List.drop_zero] at r1 r2;exact List.Perm.eq_of_pairwise (fun a b _ _=>Cj) s (GR r1 r2) (p.symm.trans (nc _ _ _ _ _))
theorem Hv {h w:Int} {ls:List Lt} {k:Nat} {y x:Int} (sz:hU h w) (hls:ls.length<=10) (hk:k<=ls.length) (c:InC h w ls k y x):∀ p∈shK h w ls k 0 y x,pmB p:=by
 obtain⟨r1,r2⟩:=lL (Nat.zero_le k) hk c;rw[DG];rw[fH,List.drop_zero] at r1 r2;intro p hp;have e:=yU (n:=(ls.take k).length) (by rw[List.length_take];lia);exact GS r1 r2 e e sz.h2 sz.w2 p ((nc _ _ _ _ _).mem_iff.mp hp)
theorem BC {l:Lt} {c:Int×Int} {y x:Int} {q:PM} (h:q∈ja l c y x):1<=q.2.2/\q.2.2<=4:=by
 obtain⟨d,hd,hp⟩:=List.mem_flatMap.mp h;obtain⟨e,he,rfl⟩:=List.mem_map.mp hp;rcases BD hd with h1 | h1 <;> rcases BG he with h2 | h2 <;> simp only[h1,h2] <;> lia
theorem yK {l:Lt} {c:Int×Int} {y x:Int}:(ja l c y x).length<=4:=by
 unfold ja;rw[nz];exact Nat.mul_le_mul (BE (l:=l) (h:=c.1) (y:=y)) (BH (l:=l) (h:=c.2) (y:=x))
theorem zm {lo c:Int} {n k:Nat} {d:D} (h:(pE lo c n)[k]?=some d):k < n/\d=.int (lo + (k:Int) * c):=by
 unfold pE at h;exact nu h
theorem zj (lo c:Int) (n:Nat):(pE lo c n).length=n:=by simp [pE]
def BW (a:Ad):S3:=fun Γ Q=>∃ (R:Rl) (h w:Int) (ls:List Lt) (k:Nat) (y x:Int),Γ=[some (.fz (plD a R h w ls)),some (.fz (.int (k:Int))),some (.fz (pD y x))]/\hU h w/\Good h w ls/\ls.length<=10/\k<=ls.length/\InC h w ls k y x/\Q (.fr (.lst ((shF h w ls k y x).map pmD))) Γ
theorem tI (T:Txt K mg a):aQ P w K mg base CX0 4 a.xo a.uf ["plan","step","place"] (sp3 K 3 (BW a)):=by
 refine ok3 T.gH.F kh (hbody:=fun cdv A outer s H E hr=>⟨_,_,(ag (gO (av (by rfl) (og T) hr.dn (by rfl) T.dM.m T.dM.F.kp T.dM.b (aa (P3.opd (p3v 0)) (aa (P3.opd (p3v 1)) (aa (P3.opd (p3v 2)) af)))))
   (ag (aD (i:=3) kh.nd rfl (Or.inl rfl) (cQ (bH (ab (aL (ab (p3v 2) (ab ae ai))) ai))))
   (ag (fg PassesOwn.never rfl (Gs (by rfl) T.z_reversed (by rfl) T.z_range (ab (p3v 1) ai)) (aT (i:=4) kh.nd rfl (Or.inr rfl))
   (ao (qU (i:=3) kh.nd rfl rfl rfl (bP (by rfl) (p3v 3)) dX (fun _ _ _ _ _=>(dC (is:=[0,1]) (by rfl) (aq (ay (i:=0) dX.nd rfl (Or.inl rfl)) (aq (ay (i:=1) dX.nd rfl (Or.inl rfl)) aV)) rfl)) (fun _ _ _ _ _=>(bP (by rfl) (av (by rfl) (n9 T) hr.dn (by rfl) T.dJ.m T.dJ.F.kp T.dJ.b (aa (P3.opd (p3v 5)) (aa (P3.opd (p3v 4)) (aa (P3.opd (p3v 0)) af)))))) (fun _ _ _ _ _=>(dC (is:=[2,3]) (by rfl) (aq (ay (i:=2) dX.nd rfl (Or.inl rfl)) (aq (ay (i:=3) dX.nd rfl (Or.inl rfl)) aV)) rfl)) (fun _ _ _ _ _=>(aL (ab (p3v 2) (ab (bw (bv 3) (bv 1)) ai)))))))
   (ao (aE (aJ (Jh hr) (by rfl) T.z_sorted (by decide +kernel) (aa (bv 3) af))))))),fun Γa Q h hl=>?_⟩)
 refine GN h ?_;clear h;intro R h w ls k y x hZ;obtain⟨rfl,sz,g,hls,hk,c,q⟩:=hZ;walk_at "m4";refine Dc R h w ls k y x (KJ rfl hls hk c.y0 c.y1 c.x0 c.x1 ?_);walk_at "m4";refine⟨sl2 (by decide),sl2 (by decide),?_⟩;refine⟨by lia,by lia,cJ (fun j Γ=>j<=k/\∃ s,Γ=[some (.fz (plD a R h w ls)),some (.fz (.int (k:Int))),some (.fz (pD y x)),some (.fz (.lst ((shK h w ls k (k - j) y x).map pmD))),fo s]) ⟨Nat.zero_le _,none,?_⟩ ?_ ?_⟩
 ·rw[Nat.sub_zero,Hx];rfl
 ·rintro j d Γ hd ⟨hj,s,rfl⟩;obtain⟨lt,rfl⟩:=zm hd;have lt:j < k:=by lia
  obtain⟨i,hi⟩:∃ i,k - j=i + 1:=⟨k - j - 1,by lia⟩;have e1:(k:Int) - 1 + (j:Int) * -1=(i:Int):=by lia
  rw[e1,hi];have e2:k - (j + 1)=i:=by lia
  have il:i < ls.length:=by lia
  obtain⟨l,hl⟩:∃ l,ls[i]?=some l:=⟨_,gE0 il⟩;have st:=Hw (h:=h) (w:=w) (y:=y) (x:=x) hl (show i < k by lia);have ln:=wx (i:=i) sz g (by lia) hk c;rw[st] at ln;generalize shK h w ls k (i + 1) y x=L at st ln ⊢;walk_at "m4";refine gC (fun j ys Γc=>j<=L.length/\ys=((L.take j).flatMap (stp l (cat h w ls i))).map pmD/\∃ s1 s2 s3 s4,Γc=[fo s1,fo s2,fo s3,fo s4,some (.fz (.int (i:Int))),some (.fz (plD a R h w ls))]) ⟨Nat.zero_le _,rfl,none,none,none,none,rfl⟩ ?_ ?_
  ·rintro m d ys Γc hd ⟨hm,rfl,s1,s2,s3,s4,rfl⟩;obtain⟨v,hv,rfl⟩:=eC hd;have ltv:=dA hv;walk_at "m4";refine Kx R h w ls i l v.1 v.2.1 (pU rfl hls hl ?_);have tk:((L.take (m + 1)).flatMap (stp l (cat h w ls i))).length<=4096:=by
    have e:=congrArg List.length (congrArg (List.flatMap (stp l (cat h w ls i))) (List.take_append_drop (m + 1) L));rw[List.flatMap_append,List.length_append] at e;lia
   rw[jk hv,List.length_append] at tk;generalize hA:ja l (cat h w ls i) v.1 v.2.1=A;have cp:∀ q∈A,1<=q.2.2/\q.2.2<=4:=fun q hq=>BC (hA ▸ hq);have al:A.length<=4:=hA ▸ yK;have sv:stp l (cat h w ls i) v=A.map fun q=>(q.1,q.2.1,q.2.2 * v.2.2):=by unfold stp;rw[hA]
   walk_at "m4";refine⟨fun n ys Γc=>ys=((L.take m).flatMap (stp l (cat h w ls i))++(A.take n).map fun q=>((q.1,q.2.1,q.2.2 * v.2.2):PM)).map pmD/\n<=A.length/\∃ s3 s4,Γc=[some (.fz (pD v.1 v.2.1)),some (.fz (.int v.2.2)),fo s3,fo s4,some (.fz (.int (i:Int))),some (.fz (plD a R h w ls))],⟨by simp,by lia,s3,s4,rfl⟩,?_,?_⟩
   ·rintro n d ys Γc hd ⟨rfl,hn,s3,s4,rfl⟩;obtain⟨u,hu,rfl⟩:=eC hd;have ltu:=dA hu;have u2:=cp u (List.mem_of_getElem? hu);walk_at "m4";have s2:=congrArg List.length sv;rw[lM0] at s2;refine⟨by rw[lM0,List.length_append,lM0,List.length_take,sizeLine_eq];lia,.inl ⟨by lia,by lia⟩,sl2 (by decide),?_,ltu,⟨some _,rfl⟩,⟨some _,rfl⟩⟩;rw[take_snoc hu];simp only[List.map_append,List.append_assoc];rfl
   ·rintro ys Γc ⟨rfl,hn,s3,s4,rfl⟩;refine⟨ltv,?_,some _,some _,s3,s4,rfl⟩;rw[lM0,List.take_length,jk hv,sv]
  ·rintro ys Γc ⟨hm,rfl,s1,s2,s3,s4,rfl⟩;rw[show L.take (List.map pmD L).length=L by rw[lM0,List.take_length],<- st];rw[<- st] at ln;walk_at "m4";refine⟨by rw[lM0,sizeLine_eq];lia,lt,some (.int (i:Int)),?_⟩;rw[e2];rfl
 ·rintro Γ ⟨hj,s,rfl⟩;walk_at "m4";rw[zj,show k - ((k:Int)).toNat=0 by lia];have ln:=wx (i:=0) sz g (Nat.zero_le _) hk c;refine Ky _ (pU rfl (by lia) (Hv sz hls hk c) (fun L p s=>?_));rw[xU hk c p s];exact q
def Box (c:Int) (d:D):Prop:=∃ x m k:Int,d=.lst [.int x,.int m,.int k]/\0<=x/\0<=m/\m < 2147483647/\0<=k/\k<=c
theorem Box.up {c c':Int} {d:D} (b:Box c d) (h:c<=c'):Box c' d:=by
 obtain⟨x,m,k,e,h1,h2,h3,h4,h5⟩:=b;exact⟨x,m,k,e,h1,h2,h3,h4,Int.le_trans h5 h⟩
def GW:S3:=fun Γ Q=>∃ (ns:Li) (k:Int),Γ=[some (.fz (.scr ns)),some (.fz (.int k))]/\0<=k/\∀ r,Q (.fz (.int r)) Γ
theorem rN (T:Txt K mg a):aQ P w K mg base CX0 1 a.mJ a.kR ["_law_script","_law_k"] (sp3 K 2 GW):=by
 refine ok3 T.fU.F qR (hbody:=fun cdv A outer s H E hr=>⟨_,_,(ag (b9 (aK ur (bv 1) (P3.opd (aJ (g6 (by rfl)) (by rfl) T.z_len (by decide +kernel) (aa (bv 0) af))) (aM _)) (ao (aE (az (by rfl) (bv 0) (bv 1) (fun _ _=>rfl)))) bD)
   (ao (aE (aH (P3.opd (bw (P3.opd ae) (bv 1))) (P3.opd ae))))),fun Γa Q h hl=>?_⟩)
 obtain⟨ns,k,rfl,hk,q⟩:=h;walk_at "m4";refine lC (fun h=>?_) (fun h=>?_)
 ·walk_at "m4";exact⟨_,Dm hk (of_decide_eq_true h),q _⟩
 ·walk_at "m4";exact⟨.inl ⟨by decide,by decide⟩,q _⟩
def Jl:S3:=fun Γ Q=>∃ (x:Int),Γ=[some (.fz (.int x))]/\∀ d,Box 0 d->Q (.fr d) Γ
theorem oh (T:Txt K mg a):aQ P w K mg base CX0 1 a.jQ a.iM ["_law_cell_here"] (sp3 K 1 Jl):=by
 refine ok3 T.dN.F nO (hbody:=fun cdv A outer s H E hr=>⟨_,_,(ao (aE (bH (ab (aJ (El rfl) (by rfl) T.z_max (by decide +kernel) (aa (P3.opd ae) (aa (P3.opd (fv (bv 0) (P3.opd (zV (v:=1000000000000000000) (by decide +kernel) ⟨by decide,by decide,by decide⟩)))) af))) (ab (lT (bv 0) (P3.opd ae)) (ab ae ai)))))),fun Γa Q h hl=>?_⟩);obtain⟨x,rfl,q⟩:=h;walk_at "m4";exact⟨by decide,by rw[sizeLine_eq];lia,q _ ⟨_,_,_,rfl,by unfold fmax;split <;> lia,Int.emod_nonneg _ (by decide),Int.emod_lt_of_pos _ (by decide),by decide,by decide⟩⟩
theorem A7 {i j m:Int} (h:0 < m) (h2:m < 2 ^ 64):uK (i % m) j:=.inl ⟨by have:=Int.emod_nonneg i (show m≠0 by lia);lia,by have:=Int.emod_lt_of_pos i h;lia⟩
def yY:S3:=fun Γ Q=>∃ (d:D) (c n:Int),Γ=[some (.ln d),some (.fz (.int n))]/\Box c d/\c<=1000000/\0 < n/\n<=1000000000/\∀ r d',0<=r->r < n->Box (c + 1) d'->Q (.fz (.int r)) [some (.ln d'),some (.fz (.int n))]
theorem aO (T:Txt K mg a):aQ P w K mg base CX0 1 a.mD a.kM ["_law_stream_here","_law_many"] (sp3 K 2 yY):=by
 refine ok3 T.ak.F eN (hbody:=fun cdv A outer s H E hr=>⟨_,_,(ag (sT 0 (bv 0) (P3.opd ae) (aH (P3.opd (az (by rfl) (bv 0) (P3.opd ae) (fun _ _=>rfl))) (P3.opd ae)))
   (ag (b9 (aK uv (P3.opd (az (by rfl) (bv 0) (P3.opd ae) (fun _ _=>rfl))) (P3.opd ae) (aM _)) (ag (aD (i:=2) eN.nd rfl (Or.inl rfl) (lT (P3.opd (az (by rfl) (bv 0) (P3.opd ae) (fun _ _=>rfl))) (bv 1)))
   (ag (sT 0 (bv 0) (P3.opd ae) (cE (P3.opd (az (by rfl) (bv 0) (P3.opd ae) (fun _ _=>rfl))) (bv 1)))
   (ao (aE (u_ 2))))) bD)
   (ag (aD (i:=3) eN.nd rfl (Or.inl rfl) (lT (P3.opd (bw (P3.opd (aH (P3.opd (az (by rfl) (bv 0) (P3.opd ae) (fun _ _=>rfl))) (P3.opd (bw (P3.opd ae) (P3.opd (az (by rfl) (bv 0) (P3.opd ae) (fun _ _=>rfl))))))) (P3.opd ae))) (P3.opd ae)))
   (ag (aD (i:=3) eN.nd rfl (Or.inl rfl) (lT (P3.opd (bw (bv 3) (bv 3))) (P3.opd ae)))
   (ao (aE (lT (P3.opd (cE (P3.opd (lT (P3.opd (aH (P3.opd (bw (bv 3) (P3.opd (aH (bv 3) (P3.opd ae))))) (P3.opd (bw (P3.opd ae) (P3.opd (az (by rfl) (bv 0) (P3.opd ae) (fun _ _=>rfl))))))) (P3.opd ae))) (P3.opd ae))) (bv 1)))))))),fun Γa Q h hl=>?_⟩)
 obtain⟨_,c,n,rfl,⟨x,m,k,rfl,hx,hm,hm2,hk,hk2⟩,hc,hn,hn2,q⟩:=h;walk_at "m4";refine lC (fun e=>?_) (fun e=>?_)
 ·walk_at "m4";exact⟨hn,⟨hn,by lia⟩,q _ _ (Int.emod_nonneg _ (by lia)) (Int.emod_lt_of_pos _ hn) ⟨_,_,_,rfl,Int.ediv_nonneg hx (by lia),hm,hm2,by lia,by lia⟩⟩
 ·walk_at "m4";exact⟨.inl ⟨by decide,by decide⟩,.inr ⟨by decide,by decide⟩,by decide,A7 (by decide) (by decide),by decide,A7 (by decide) (by decide),.inl ⟨by decide,by decide⟩,by decide,⟨by decide,by decide⟩,hn,q _ _ (Int.emod_nonneg _ (by lia)) (Int.emod_lt_of_pos _ hn) ⟨_,_,_,rfl,hx,hm,hm2,by lia,by lia⟩⟩
theorem pick {p:D->Prop} {xs:List D} {r:Int} {k:D->Prop} {t:Tag k} (h0:0<=r) (h1:r < (xs.length:Int)) (hp:∀ x∈xs,p x) (q:∀ v,p v->k v):m1 (atI xs r) k t:=by
 obtain⟨d,h2,h3⟩:=Dq h0 h1;exact bQ.mpr ⟨d,h2,q d (hp d h3)⟩
theorem BP {ls:List Lt} {i:Int} {l:Lt} {k:Lt->Prop} {t:Tag k} (z:(wy ls).length<=sizeLine) (h:atI ls i=some l) (q:k l):Ex ls i k t:=⟨z,l,h,q⟩
theorem z1:1<=sizeLine:=by rw[sizeLine_eq];decide
theorem z2:2<=sizeLine:=by rw[sizeLine_eq];decide
theorem z3:3<=sizeLine:=by rw[sizeLine_eq];decide
theorem z0:0 < sizeLine:=by rw[sizeLine_eq];decide
theorem z4:4<=sizeLine:=by rw[sizeLine_eq];decide
theorem z6:6<=sizeLine:=by rw[sizeLine_eq];decide
theorem size_of {x y:Int} (h1:0<=x) (h2:x < 64) (h3:0<=y) (h4:y < fmin 64 (512 / (1 + x))):hU (1 + x) (1 + y):=by
 have e:fmin 64 (512 / (1 + x))<=64/\fmin 64 (512 / (1 + x))<=512 / (1 + x):=by unfold fmin;split <;> lia
 have e2:(1 + x) * (1 + y)<=(1 + x) * (512 / (1 + x)):=Int.mul_le_mul_of_nonneg_left (by lia) (by lia);have e3:(1 + x) * (512 / (1 + x))<=512:=Int.mul_ediv_self_le (by lia);exact⟨by lia,by lia,by lia,by lia,by lia⟩
theorem Hr {x y:Int} (h1:0<=x) (h2:x < 9) (h3:0<=y) (h4:y < 9):hU (1 + x) (1 + y):=by
 have e2:(1 + x) * (1 + y)<=9 * 9:=Int.mul_le_mul (by lia) (by lia) (by lia) (by lia);exact⟨by lia,by lia,by lia,by lia,by lia⟩
theorem nine {r:Int} {v:D} (h:v∈[D.tup [.int 1,.int 2],.tup [.int 2,.int 2],.tup [.int 3,.int 3],.tup [.int 2,.int 1],.tup [.int 64,.int 8],.tup [.int 8,.int 64],.tup [.int 1,.int 64],.tup [.int 64,.int 1],.tup [.int 22,.int 23]]):∃ h w,v=pD h w/\hU h w:=by
 simp only[List.mem_cons,List.not_mem_nil,or_false] at h;rcases h with rfl | rfl | rfl | rfl | rfl | rfl | rfl | rfl | rfl <;> exact⟨_,_,rfl,by decide,by decide,by decide,by decide,by decide⟩
def BV:S3:=fun Γ Q=>∃ (d:D),Γ=[some (.ln d),some (.fz (.bl true))]/\Box 510 d/\∀ h w d',hU h w->Box 520 d'->Q (.fz (pD h w)) [some (.ln d'),some (.fz (.bl true))]
theorem rJ (T:Txt K mg a):aQ P w K mg base CX0 2 a.mE a.kN ["_law_stream_here","_law_far"] (sp3 K 2 BV):=by
 refine ok3 T.fQ.F eO (hbody:=fun cdv A outer s H E hr=>⟨_,_,(ag (aD (i:=2) eO.nd rfl (Or.inl rfl) (av (by rfl) (aO T) hr.dn (by rfl) T.ak.m T.ak.F.kp T.ak.b (aa (bv 0) (aa (P3.opd ae) af))))
   (ag (b9 (aK (fI (by rfl) hr) (bv 2) (P3.opd ae) (aM _)) (ag (aD (i:=3) eO.nd rfl (Or.inl rfl) (bH (ab (aL (ab ae (ab ae ai))) (ab (aL (ab ae (ab ae ai))) (ab (aL (ab ae (ab ae ai))) (ab (aL (ab ae (ab ae ai))) (ab (aL (ab ae (ab ae ai))) (ab (aL (ab ae (ab ae ai))) (ab (aL (ab ae (ab ae ai))) (ab (aL (ab ae (ab ae ai))) (ab (aL (ab ae (ab ae ai))) ai)))))))))))
   (ao (aE (az (by rfl) (bv 3) (P3.opd (av (by rfl) (aO T) hr.dn (by rfl) T.ak.m T.ak.F.kp T.ak.b (aa (bv 0) (aa (P3.opd (az (by rfl) (P3.opd (bH (ab ae (ab ae ai)))) (P3.opd (bU lB (by rfl) T.z_int (by decide +kernel) (aa (bv 1) af))) (fun _ _=>rfl))) af)))) (fun _ _=>rfl))))) bD)
   (ag (b9 (P3W.pt (ko (aK (fI (by rfl) hr) (bv 2) (P3.opd ae) (aM _)) (iz (cC (p3v 1))))) (ag (aD (i:=4) eO.nd rfl (Or.inl rfl) (aH (P3.opd ae) (P3.opd (av (by rfl) (aO T) hr.dn (by rfl) T.ak.m T.ak.F.kp T.ak.b (aa (bv 0) (aa (P3.opd ae) af))))))
   (ao (aE (aL (ab (p3v 4) (ab (aH (P3.opd ae) (P3.opd (av (by rfl) (aO T) hr.dn (by rfl) T.ak.m T.ak.F.kp T.ak.b (aa (bv 0) (aa (P3.opd (aJ (Ek rfl) (by rfl) T.z_min (by decide +kernel) (aa (P3.opd ae) (aa (P3.opd (cE (P3.opd ae) (bv 4))) af)))) af))))) ai)))))) bD)
   (ao (aE (aL (ab (aH (P3.opd ae) (P3.opd (av (by rfl) (aO T) hr.dn (by rfl) T.ak.m T.ak.F.kp T.ak.b (aa (bv 0) (aa (P3.opd ae) af))))) (ab (aH (P3.opd ae) (P3.opd (av (by rfl) (aO T) hr.dn (by rfl) T.ak.m T.ak.F.kp T.ak.b (aa (bv 0) (aa (P3.opd ae) af))))) ai)))))))),fun Γa Q h hl=>?_⟩)
 obtain⟨d,rfl,hb,q⟩:=h;walk_at "m4";refine eA _ _ 10 (hE rfl hb (by decide) (by decide) (by decide) (fun r1 d1 l1 u1 b1=>?_));walk_at "m4";refine lC (fun h=>?_) (fun h=>?_)
 ·walk_at "m4";refine⟨z2,z2,z2,z2,z2,z2,z2,z2,z2,sl2 (by decide),z2,_,_,9,rfl,b1,by decide,by decide,by decide,fun r2 d2 l2 u2 b2=>?_⟩;walk_at "m4";refine pick (p:=fun v=>∃ h w,v=pD h w/\hU h w) l2 u2 (fun v hv=>nine (r:=0) hv) (fun v hv=>?_);obtain⟨h,w,rfl,sz⟩:=hv;walk_at "m4";exact q _ _ _ sz (b2.up (by decide))
 ·walk_at "m4";refine Jn (fun h=>?_) (fun h=>?_)
  ·walk_at "m4";refine eA _ _ 64 (hE rfl b1 (by decide) (by decide) (by decide) (fun r2 d2 l2 u2 b2=>?_));walk_at "m4";have p:1<=512 / (1 + r2):=Int.le_ediv_of_mul_le (by lia) (by lia);refine⟨⟨by lia,by lia⟩,eA _ _ _ (hE rfl b2 (by decide) (by unfold fmin;split <;> lia) (by unfold fmin;split <;> lia) (fun r3 d3 l3 u3 b3=>?_))⟩;walk_at "m4";exact⟨z2,q _ _ _ (size_of l2 u2 l3 u3) (b3.up (by decide))⟩
  ·walk_at "m4";refine eA _ _ 9 (hE rfl b1 (by decide) (by decide) (by decide) (fun r2 d2 l2 u2 b2=>?_));walk_at "m4";refine eA _ _ 9 (hE rfl b2 (by decide) (by decide) (by decide) (fun r3 d3 l3 u3 b3=>?_));walk_at "m4";exact⟨z2,q _ _ _ (Hr l2 u2 l3 u3) (b3.up (by decide))⟩
theorem zo {n k:Nat} {i:Int} {d:D} (h:(rng i n)[k]?=some d):k < n/\d=.int (i + k):=by
 unfold rng at h;exact nu h
theorem xM:Str.ofString "r"++Str.ofString "p"++Str.ofString "b"=wy [.r,.p,.b]:=by decide +kernel
theorem S_r:Str.ofString "r"++Str.empty++Str.empty=wy [.r]:=by decide +kernel
theorem S_p:Str.empty++Str.ofString "p"++Str.empty=wy [.p]:=by decide +kernel
theorem S_0:Str.empty++Str.empty++Str.empty=wy []:=by decide +kernel
theorem xK:(wy [.r,.p,.b] == Str.ofString "")=false:=by decide +kernel
theorem V_r:(wy [.r] == Str.ofString "")=false:=by decide +kernel
theorem V_p:(wy [.p] == Str.ofString "")=false:=by decide +kernel
theorem V_0:(wy [] == Str.ofString "")=true:=by decide +kernel
def Hc:S3:=fun Γ Q=>∃ (d:D) (h w:Int),Γ=[some (.ln d),some (.fz (.int h)),some (.fz (.int w)),some (.fz (.int 10))]/\hU h w/\Box 520 d/\∀ ls d',ls.length<=10->Good h w ls->Box 540 d'->Q (.fz (.str (wy ls))) [some (.ln d'),some (.fz (.int h)),some (.fz (.int w)),some (.fz (.int 10))]
theorem zN {ls:List Lt} {r:Int} {k:Lt->Prop} {t:Tag k} (h0:0<=r) (h1:r < (ls.length:Int)) (z:ls.length<=sizeLine) (q:∀ l∈ls,k l):Ex ls r k t:=by
 refine BP (l:=ls[r.toNat]) (by rw[bu];exact z) (cn h0 (gE0 (by lia))) (q _ (List.getElem_mem _))
theorem qG (ls:List Lt) (l:Lt):wy ls++l.s=wy (ls++[l]):=by
 show (⟨(wy ls).cps++l.s.cps⟩:Str)=_;unfold wy
 congr 1
 rw[List.map_append];cases l <;> simp [Lt.s,sgn]
theorem qh:∀ {ls:List Lt} {h w:Int} {l:Lt},Good h w ls->Can l (cat h w ls ls.length).1 (cat h w ls ls.length).2->Good h w (ls++[l])/\cat h w (ls++[l]) (ls++[l]).length=(nh l (cat h w ls ls.length).1,nw l (cat h w ls ls.length).2)
 | [],h,w,l,_,c=>⟨⟨c,trivial⟩,rfl⟩
 | m::ls,h,w,l,g,c=>by
  obtain⟨i1,i2⟩:=qh (ls:=ls) (h:=nh m h) (w:=nw m w) (l:=l) g.2 c;exact⟨⟨g.1,i1⟩,i2⟩
theorem tJ (T:Txt K mg a):aQ P w K mg base CX0 2 a.oO a.mw ["_law_stream_here","_law_height","_law_width","_law_most"] (sp3 K 4 Hc):=by
 refine ok3 T.gI.F cf (hbody:=fun cdv A outer s H E hr=>⟨_,_,(ag (aD (i:=4) cf.nd rfl (Or.inl rfl) bE)
   (ag (fg PassesOwn.never rfl (a8 (by rfl) T.z_range (ab (av (by rfl) (aO T) hr.dn (by rfl) T.ak.m T.ak.F.kp T.ak.b (aa (bv 0) (aa (P3.opd (aH (bv 3) (P3.opd ae))) af))) ai)) (aT (i:=5) cf.nd rfl (Or.inl rfl))
   (ag (aD (i:=6) cf.nd rfl (Or.inl rfl) (aH (P3.opd (aH (P3.opd (rB (P3.opd bE) (P3.opd (bU lB (by rfl) T.z_int (by decide +kernel) (aa (P3.opd (cZ uv (bv 2) (P3.opd ae) (aM _))) af))))) (P3.opd (rB (P3.opd bE) (P3.opd (bU lB (by rfl) T.z_int (by decide +kernel) (aa (P3.opd (cZ uv (bv 1) (P3.opd ae) (aM _))) af))))))) (P3.opd (rB (P3.opd bE) (P3.opd (bU lB (by rfl) T.z_int (by decide +kernel) (aa (P3.opd (rF (cZ uv (bv 2) (P3.opd ae) (aM _)) (lS (cZ uv (bv 1) (P3.opd ae) (aM _))))) af)))))))
   (ao (b9 (aK (dm (by rfl) hr) (bv 6) (P3.opd bE) (aM _)) (ag (aD (i:=7) cf.nd rfl (Or.inl rfl) (az (by rfl) (bv 6) (P3.opd (av (by rfl) (aO T) hr.dn (by rfl) T.ak.m T.ak.F.kp T.ak.b (aa (bv 0) (aa (P3.opd (aJ (g6 (by rfl)) (by rfl) T.z_len (by decide +kernel) (aa (bv 6) af))) af)))) (fun _ _=>rfl)))
   (ag (aD (i:=4) cf.nd rfl (Or.inl rfl) (aH (bv 4) (bv 7)))
   (ag (aD (i:=2) cf.nd rfl (Or.inl rfl) (az (by rfl) (P3.opd (bH (ab (p3v 2) (ab (cE (P3.opd (aH (bv 2) (P3.opd ae))) (P3.opd ae)) ai)))) (P3.opd (bU lB (by rfl) T.z_int (by decide +kernel) (aa (P3.opd (cZ (dm (by rfl) hr) (bv 7) (P3.opd bE) (aM _))) af))) (fun _ _=>rfl)))
   (ao (aD (i:=1) cf.nd rfl (Or.inl rfl) (az (by rfl) (P3.opd (bH (ab (p3v 1) (ab (cE (P3.opd (aH (bv 1) (P3.opd ae))) (P3.opd ae)) ai)))) (P3.opd (bU lB (by rfl) T.z_int (by decide +kernel) (aa (P3.opd (cZ (dm (by rfl) hr) (bv 7) (P3.opd bE) (aM _))) af))) (fun _ _=>rfl))))))) bD))))
   (ao (aE (u_ 4))))),fun Γa Q h hl=>?_⟩)
 refine De h ?_;clear h;intro d h w hZ;obtain⟨rfl,sz,hb,q⟩:=hZ;walk_at "m4";refine eA _ _ 11 (hE rfl hb (by decide) (by decide) (by decide) (fun r1 d1 l1 u1 b1=>?_));walk_at "m4";refine⟨by lia,by lia,cJ (fun k Γ=>∃ ls d s5 s6 s7,ls.length<=k/\Good h w ls/\Box (521 + k) d/\Γ=[some (.ln d),some (.fz (.int (cat h w ls ls.length).1)),some (.fz (.int (cat h w ls ls.length).2)),some (.fz (.int 10)),some (.fz (.str (wy ls))),fo s5,fo s6,fo s7]) ⟨[],d1,none,none,none,Nat.le_refl _,trivial,b1.up (by decide),rfl⟩ ?_ ?_⟩
 ·rintro k d Γ hd ⟨ls,d,s5,s6,s7,hk,g,hb,rfl⟩;obtain⟨lk,rfl⟩:=zo hd;obtain⟨p1,p2,_,_⟩:=lg (k:=ls.length) g sz.h1 sz.w1 (Nat.le_refl _);have hsn:∀ l,Can l (cat h w ls ls.length).1 (cat h w ls ls.length).2->Good h w (ls++[l])/\cat h w (ls++[l]) (ls++[l]).length=(nh l (cat h w ls ls.length).1,nw l (cat h w ls ls.length).2):=fun l c=>qh g c;generalize hc:cat h w ls ls.length=c at p1 p2 hsn ⊢;obtain⟨H,W⟩:=c;dsimp only at p1 p2 hsn ⊢;cases eW:C_ W 1
  ·cases eH:C_ H 1
   ·simp -dsimp only[tgN,j6,j7,↓t9,↓t8,↓nI,↓ub,↓h_c,↓lA,↓kG,↓ua,Gat,List.set_cons_succ,List.set_cons_zero,List.getElem?_cons_succ,List.getElem?_cons_zero,Option.some.injEq,exists_eq',Bo.at,kB,RV.d,um,i2',↓oF,ats,eW,kA,vC,if_pos,mm,Int.reduceEq,or_true,eH,Bool.false_eq_true,if_false,or_false,uC,qE,↓t_,↓Bv,↓Bw,↓t7,RV.sl,S_0,S_r,S_p,xM,uj,Nat.reduceAdd,uh,V_0,V_r,V_p,xK,Bool.true_xor,exists_eq_left',Bool.not_false,Bool.not_true,↓Bt,↓Bu,↓oG,↓lu,vv,List.length_cons,List.length_nil,Nat.zero_add,cR,List.nodup_cons,List.not_mem_nil,not_false_eq_true,List.nodup_nil,and_true,c7,List.map_cons,List.map_nil,Option.bind_some,l9,eF,true_and];exact⟨by rw[sizeLine_eq];decide +kernel,by rw[sizeLine_eq];decide +kernel,by rw[sizeLine_eq];decide +kernel,by rw[sizeLine_eq];decide +kernel,by rw[sizeLine_eq];decide +kernel,ls,d,some _,some _,s7,by lia,g,hb.up (by lia),by rw[hc];rfl⟩
   ·simp -dsimp only[tgN,j6,j7,↓t9,↓t8,↓nI,↓ub,↓h_c,↓lA,↓kG,↓ua,Gat,List.set_cons_succ,List.set_cons_zero,List.getElem?_cons_succ,List.getElem?_cons_zero,Option.some.injEq,exists_eq',Bo.at,kB,RV.d,um,i2',↓oF,ats,eW,kA,vC,if_pos,mm,Int.reduceEq,or_true,eH,Bool.false_eq_true,if_false,or_false,uC,qE,↓t_,↓Bv,↓Bw,↓t7,RV.sl,S_0,S_r,S_p,xM,uj,Nat.reduceAdd,uh,V_0,V_r,V_p,xK,Bool.true_xor,exists_eq_left',Bool.not_false,Bool.not_true,↓Bt,↓Bu,↓oG,↓lu,vv,List.length_cons,List.length_nil,Nat.zero_add,cR,List.nodup_cons,List.not_mem_nil,not_false_eq_true,List.nodup_nil,and_true,c7,List.map_cons,List.map_nil,Option.bind_some,l9,eF,true_and];refine⟨by rw[sizeLine_eq];decide +kernel,by rw[sizeLine_eq];decide +kernel,by rw[sizeLine_eq];decide +kernel,by rw[sizeLine_eq];decide +kernel,by rw[sizeLine_eq];decide +kernel,by rw[bu,sizeLine_eq];decide,eA _ _ _ (hE rfl hb (by lia) (by rw[bu];decide) (by rw[bu];decide) (fun r2 d2 l2 u2 b2=>?_))⟩;rw[bu] at u2;walk_at "m4";refine zN l2 u2 (by rw[sizeLine_eq];decide) (fun l hl=>?_);obtain⟨g2,c2⟩:=hsn l (by have e:=of_decide_eq_true eH;rw[List.mem_singleton.mp hl];exact⟨fun n=>absurd rfl n,fun _=>by lia⟩);walk_at "m4";exact⟨by rw[bu,show l.s.length=1 by cases l <;> decide +kernel,sizeLine_eq];lia,⟨by decide,by decide⟩,z2,⟨by decide,by decide⟩,z2,ls++[l],d2,some _,some _,some (.str l.s),by rw[List.length_append];simp only[List.length_cons,List.length_nil];lia,g2,b2.up (by lia),by rw[c2,qG];cases l <;> rfl⟩
  ·cases eH:C_ H 1
   ·simp -dsimp only[tgN,j6,j7,↓t9,↓t8,↓nI,↓ub,↓h_c,↓lA,↓kG,↓ua,Gat,List.set_cons_succ,List.set_cons_zero,List.getElem?_cons_succ,List.getElem?_cons_zero,Option.some.injEq,exists_eq',Bo.at,kB,RV.d,um,i2',↓oF,ats,eW,kA,vC,if_pos,mm,Int.reduceEq,or_true,eH,Bool.false_eq_true,if_false,or_false,uC,qE,↓t_,↓Bv,↓Bw,↓t7,RV.sl,S_0,S_r,S_p,xM,uj,Nat.reduceAdd,uh,V_0,V_r,V_p,xK,Bool.true_xor,exists_eq_left',Bool.not_false,Bool.not_true,↓Bt,↓Bu,↓oG,↓lu,vv,List.length_cons,List.length_nil,Nat.zero_add,cR,List.nodup_cons,List.not_mem_nil,not_false_eq_true,List.nodup_nil,and_true,c7,List.map_cons,List.map_nil,Option.bind_some,l9,eF,true_and];refine⟨by rw[sizeLine_eq];decide +kernel,by rw[sizeLine_eq];decide +kernel,by rw[sizeLine_eq];decide +kernel,by rw[sizeLine_eq];decide +kernel,by rw[sizeLine_eq];decide +kernel,by rw[bu,sizeLine_eq];decide,eA _ _ _ (hE rfl hb (by lia) (by rw[bu];decide) (by rw[bu];decide) (fun r2 d2 l2 u2 b2=>?_))⟩;rw[bu] at u2;walk_at "m4";refine zN l2 u2 (by rw[sizeLine_eq];decide) (fun l hl=>?_);obtain⟨g2,c2⟩:=hsn l (by have e:=of_decide_eq_true eW;rw[List.mem_singleton.mp hl];exact⟨fun _=>by lia,fun n=>absurd rfl n⟩);walk_at "m4";exact⟨by rw[bu,show l.s.length=1 by cases l <;> decide +kernel,sizeLine_eq];lia,⟨by decide,by decide⟩,z2,⟨by decide,by decide⟩,z2,ls++[l],d2,some _,some _,some (.str l.s),by rw[List.length_append];simp only[List.length_cons,List.length_nil];lia,g2,b2.up (by lia),by rw[c2,qG];cases l <;> rfl⟩
   ·simp -dsimp only[tgN,j6,j7,↓t9,↓t8,↓nI,↓ub,↓h_c,↓lA,↓kG,↓ua,Gat,List.set_cons_succ,List.set_cons_zero,List.getElem?_cons_succ,List.getElem?_cons_zero,Option.some.injEq,exists_eq',Bo.at,kB,RV.d,um,i2',↓oF,ats,eW,kA,vC,if_pos,mm,Int.reduceEq,or_true,eH,Bool.false_eq_true,if_false,or_false,uC,qE,↓t_,↓Bv,↓Bw,↓t7,RV.sl,S_0,S_r,S_p,xM,uj,Nat.reduceAdd,uh,V_0,V_r,V_p,xK,Bool.true_xor,exists_eq_left',Bool.not_false,Bool.not_true,↓Bt,↓Bu,↓oG,↓lu,vv,List.length_cons,List.length_nil,Nat.zero_add,cR,List.nodup_cons,List.not_mem_nil,not_false_eq_true,List.nodup_nil,and_true,c7,List.map_cons,List.map_nil,Option.bind_some,l9,eF,true_and];refine⟨by rw[sizeLine_eq];decide +kernel,by rw[sizeLine_eq];decide +kernel,by rw[sizeLine_eq];decide +kernel,by rw[sizeLine_eq];decide +kernel,by rw[sizeLine_eq];decide +kernel,by rw[bu,sizeLine_eq];decide,eA _ _ _ (hE rfl hb (by lia) (by rw[bu];decide) (by rw[bu];decide) (fun r2 d2 l2 u2 b2=>?_))⟩;rw[bu] at u2;walk_at "m4";refine zN l2 u2 (by rw[sizeLine_eq];decide) (fun l hl=>?_);obtain⟨g2,c2⟩:=hsn l (by have e:=of_decide_eq_true eW;have e2:=of_decide_eq_true eH;exact⟨fun _=>by lia,fun _=>by lia⟩);walk_at "m4";exact⟨by rw[bu,show l.s.length=1 by cases l <;> decide +kernel,sizeLine_eq];lia,⟨by decide,by decide⟩,z2,⟨by decide,by decide⟩,z2,ls++[l],d2,some _,some _,some (.str l.s),by rw[List.length_append];simp only[List.length_cons,List.length_nil];lia,g2,b2.up (by lia),by rw[c2,qG];cases l <;> rfl⟩
 ·rintro Γ ⟨ls,d,s5,s6,s7,hk,g,hb,rfl⟩;rw[bz] at hk hb;walk_at "m4";exact q _ _ (by lia) g (hb.up (by lia))
noncomputable def g9 (R:Rl) (h w:Int) (ls:List Lt):D:=.tup [.int h,.int w,.str R.word,.str (wy ls)]
def Ck:S3:=fun Γ Q=>∃ (d:D),Γ=[some (.ln d),some (.fz (.bl true))]/\Box 500 d/\∀ R h w ls d',hU h w->Good h w ls->ls.length<=10->Box 560 d'->Q (.fz (g9 R h w ls)) [some (.ln d'),some (.fz (.bl true))]
theorem four {v:D} (h:v∈[D.str (Str.ofString "sum"),.str (Str.ofString "half"),.str (Str.ofString "guess"),.str (Str.ofString "lean")]):∃ R:Rl,v=.str R.word:=by
 simp only[List.mem_cons,List.not_mem_nil,or_false] at h;rcases h with rfl | rfl | rfl | rfl
 ·exact⟨.sum,rfl⟩
 ·exact⟨.half,rfl⟩
 ·exact⟨.guess,rfl⟩
 ·exact⟨.lean,rfl⟩
theorem rM (T:Txt K mg a):aQ P w K mg base CX0 3 a.mG a.kP ["_law_stream_here","_law_far"] (sp3 K 2 Ck):=by
 refine ok3 T.fT.F eP (hbody:=fun cdv A outer s H E hr=>⟨_,_,(ag (aD (i:=2) eP.nd rfl (Or.inl rfl) (az (by rfl) (P3.opd (bH (ab bE (ab bE (ab bE (ab bE ai)))))) (P3.opd (av (by rfl) (aO T) hr.dn (by rfl) T.ak.m T.ak.F.kp T.ak.b (aa (bv 0) (aa (P3.opd ae) af)))) (fun _ _=>rfl)))
   (ag (eR (is:=[3,4]) (by rfl) (av (by rfl) (rJ T) hr.dn (by rfl) T.fQ.m T.fQ.F.kp T.fQ.b (aa (bv 0) (aa (P3.opd (p3v 1)) af))) (aq (ay (i:=3) eP.nd rfl (Or.inl rfl)) (aq (ay (i:=4) eP.nd rfl (Or.inl rfl)) aV)) rfl)
   (ao (aE (aL (ab (p3v 3) (ab (p3v 4) (ab (p3v 2) (ab (av (by rfl) (tJ T) hr.dn (by rfl) T.gI.m T.gI.F.kp T.gI.b (aa (bv 0) (aa (P3.opd (p3v 3)) (aa (P3.opd (p3v 4)) (aa (P3.opd ae) af))))) ai))))))))),fun Γa Q h hl=>?_⟩)
 obtain⟨d,rfl,hb,q⟩:=h;walk_at "m4";refine⟨sl2 (by decide),eA _ _ 4 (hE rfl hb (by decide) (by decide) (by decide) (fun r1 d1 l1 u1 b1=>?_))⟩;walk_at "m4";refine pick (p:=fun v=>∃ R:Rl,v=.str R.word) l1 u1 (fun v hv=>four hv) (fun v hv=>?_);obtain⟨R,rfl⟩:=hv;walk_at "m4";refine⟨_,rfl,b1.up (by decide),fun h w d2 sz b2=>?_⟩;walk_at "m4";refine eA _ h w (pU rfl sz b2 (fun ls d3 hls g b3=>?_));walk_at "m4";exact⟨sl2 (by decide),q R h w ls _ sz g hls (b3.up (by decide))⟩
theorem Jd {a b c d:D}:cut [a,b,c,d] none (some 2)=[a,b]:=rfl
def F_:S3:=fun Γ Q=>∃ (R:Rl) (h w:Int) (ls:List Lt),Γ=[some (.fz (g9 R h w ls))]/\ls.length<=10/\Q (.fr (.lst ((fG h w ls).map cD))) Γ
theorem er (T:Txt K mg a):aQ P w K mg base CX0 1 a.iT a.gZ ["_law_told"] (sp3 K 1 F_):=by
 refine ok3 T.aR.F bJ (hbody:=fun cdv A outer s H E hr=>⟨_,_,(ag (eR (is:=[1,2]) (by rfl) (ye (by rfl) (bv 0) bV (b_ (P3.opd ae))) (aq (ay (i:=1) bJ.nd rfl (Or.inl rfl)) (aq (ay (i:=2) bJ.nd rfl (Or.inl rfl)) aV)) rfl)
   (ag (aD (i:=3) bJ.nd rfl (Or.inl rfl) (bH (ab (aL (ab (p3v 1) (ab (p3v 2) ai))) ai)))
   (ag (fg PassesOwn.never rfl (Az (az (by rfl) (bv 0) (P3.opd ae) (fun _ _=>rfl))) (aT (i:=4) bJ.nd rfl (Or.inl rfl))
   (ag (aD (i:=2) bJ.nd rfl (Or.inl rfl) (az (by rfl) (P3.opd (bH (ab (p3v 2) (ab (cE (P3.opd (aH (bv 2) (P3.opd ae))) (P3.opd ae)) ai)))) (P3.opd (bU lB (by rfl) T.z_int (by decide +kernel) (aa (P3.opd (cZ (dm (by rfl) hr) (bv 4) (P3.opd bE) (aM _))) af))) (fun _ _=>rfl)))
   (ag (aD (i:=1) bJ.nd rfl (Or.inl rfl) (az (by rfl) (P3.opd (bH (ab (p3v 1) (ab (cE (P3.opd (aH (bv 1) (P3.opd ae))) (P3.opd ae)) ai)))) (P3.opd (bU lB (by rfl) T.z_int (by decide +kernel) (aa (P3.opd (cZ (dm (by rfl) hr) (bv 4) (P3.opd bE) (aM _))) af))) (fun _ _=>rfl)))
   (ao (gO (lU 3 (by rfl) (bv 3) (aL (ab (p3v 1) (ab (p3v 2) ai)))))))))
   (ao (aE (u_ 3)))))),fun Γa Q h hl=>?_⟩)
 refine AR h ?_;clear h;intro R h w ls hZ;obtain⟨rfl,hls,q⟩:=hZ;unfold g9 at q ⊢;walk_at "m4";rw[Jd];walk_at "m4";refine⟨by decide,sl2 (by decide),sl2 (by decide),yO ls,cJ (fun k Γ=>k<=ls.length/\∃ s,Γ=[some (.fz (.tup [.int h,.int w,.str R.word,.str (wy ls)])),some (.fz (.int (cat h w ls k).1)),some (.fz (.int (cat h w ls k).2)),some (.ow (.lst (((fG h w ls).take (k + 1)).map cD))),fo s]) ⟨Nat.zero_le _,none,by rw[fH];cases ls <;> rfl⟩ ?_ ?_⟩
 ·rintro k d Γ hd ⟨hk,s,rfl⟩;rw[kg] at hd;obtain⟨l,hl,rfl⟩:=w5 hd;have lt:=dA hl;have st:=k_ (h:=h) (w:=w) hl;have tk:((fG h w ls).take (k + 1)).length<=11:=by rw[List.length_take,gB];lia
  have ct:=jm (h:=h) (w:=w) lt;rw[st] at ct;walk_at "m4";refine⟨⟨by decide,by decide⟩,sl2 (by decide),⟨by decide,by decide⟩,sl2 (by decide),sl2 (by decide),small (by rw[lM0];lia),lt,some (.str l.s),?_⟩;rw[<- ct,st];cases l <;> rfl
 ·rintro Γ ⟨hk,s,rfl⟩;walk_at "m4";rw[kg,lM0,List.take_of_length_le (by rw[gB];lia)];exact q
noncomputable abbrev il (ns:Li):D:=.lst (ns.map .int)
noncomputable def lax:Li->Int->List (Int×Int)
 | [],p=>[(p,1)]
 | n::ns,p=>(lax ns p).flatMap fun d=>(bI d.1 n).map fun c=>(c.1,c.2 * d.2)
def C1:S3:=fun Γ Q=>∃ (ns:Li) (p:Int),Γ=[some (.fz (il ns)),some (.fz (.int p))]/\(∀ i,i<=ns.length->(lax (ns.drop i) p).length<=64)/\Q (.fz (.lst ((lax ns p).map piD))) Γ
theorem kx (T:Txt K mg a):aQ P w K mg base CX0 1 a.mK a.kS ["_law_sizes_here","_law_at"] (sp3 K 2 C1):=by
 refine ok3 T.cI.F cj (hbody:=fun cdv A outer s H E hr=>⟨_,_,(ag (aD (i:=2) cj.nd rfl (Or.inl rfl) (cQ (bH (ab (aL (ab (p3v 1) (ab ae ai))) ai))))
   (ag (fg PassesOwn.never rfl (C5 (by rfl) (by rfl) T.z_reversed (ab (p3v 0) ai)) (aT (i:=3) cj.nd rfl (Or.inl rfl))
   (ag (aD (i:=4) cj.nd rfl (Or.inl rfl) (bH ai))
   (ag (fg PassesOwn.never rfl (bP (by rfl) (p3v 2)) (dC (is:=[5,6]) (by rfl) (aq (ay (i:=5) cj.nd rfl (Or.inl rfl)) (aq (ay (i:=6) cj.nd rfl (Or.inl rfl)) aV)) rfl)
   (ao (b9 (aK ur (P3.opd (aH (P3.opd (bw (P3.opd ae) (bv 5))) (P3.opd ae))) (bv 3) (aM _)) (ao (gO (p_ 4 (by rfl) (bv 4) (P3.opd (bH (ab (aL (ab (bw (P3.opd ae) (bv 5)) (ab (p3v 6) ai))) (ab (aL (ab (aH (P3.opd (bw (P3.opd ae) (bv 5))) (P3.opd ae)) (ab (p3v 6) ai))) ai))))))) (ao (gO (lU 4 (by rfl) (bv 4) (aL (ab (bw (P3.opd ae) (bv 5)) (ab (bw (P3.opd ae) (bv 6)) ai)))))))))
   (ao (aD (i:=2) cj.nd rfl (Or.inl rfl) (cQ (u_ 4)))))))
   (ao (aE (u_ 2))))),fun Γa Q h hl=>?_⟩)
 obtain⟨ns,p,rfl,hb,q⟩:=h;walk_at "m4";refine⟨sl2 (by decide),sl2 (by decide),cJ (fun j Γ=>j<=ns.length/\∃ s3 s4 s5 s6,Γ=[some (.fz (il ns)),some (.fz (.int p)),some (.fz (.lst ((lax (ns.drop (ns.length - j)) p).map piD))),fo s3,fo s4,fo s5,fo s6]) ⟨Nat.zero_le _,none,none,none,none,?_⟩ ?_ ?_⟩
 ·rw[Nat.sub_zero,List.drop_length];rfl
 ·rintro j d Γ hd ⟨hj,s3,s4,s5,s6,rfl⟩;have lj:j < ns.length:=by have:=dA hd;rw[List.length_reverse,lM0] at this;exact this
  obtain⟨i,hi⟩:∃ i,ns.length - j=i + 1:=⟨ns.length - j - 1,by lia⟩;have li:i < ns.length:=by lia
  have hd:d=.int ns[i]:=by
   rw[List.getElem?_reverse (by rw[lM0];exact lj),lM0,show ns.length - 1 - j=i by lia,List.getElem?_map,gE0 li] at hd;exact(Option.some.inj hd).symm
  subst hd;have e2:ns.length - (j + 1)=i:=by lia
  have st:lax (ns.drop i) p=(lax (ns.drop (i + 1)) p).flatMap fun d=>(bI d.1 ns[i]).map fun c=>(c.1,c.2 * d.2):=by
   rw[List.drop_eq_getElem_cons li];rfl
  have ln:=hb i (by lia);rw[st] at ln;rw[hi];generalize lax (ns.drop (i + 1)) p=L at st ln ⊢;generalize ns[i]=n at st ln ⊢;walk_at "m4";refine⟨Nat.zero_le _,cJ (fun m Γ=>m<=L.length/\∃ s5 s6,Γ=[some (.fz (il ns)),some (.fz (.int p)),some (.fz (.lst (L.map piD))),some (.fz (.int n)),some (.ow (.lst (((L.take m).flatMap fun d=>(bI d.1 n).map fun c=>(c.1,c.2 * d.2)).map piD))),fo s5,fo s6]) ⟨Nat.zero_le _,s5,s6,rfl⟩ ?_ ?_⟩
  ·rintro m d Γ hd ⟨hm,s5,s6,rfl⟩;obtain⟨v,hv,rfl⟩:=eC hd;have ltv:=dA hv;have tk:((L.take (m + 1)).flatMap fun d=>(bI d.1 n).map fun c=>(c.1,c.2 * d.2)).length<=64:=by
    have e:=congrArg List.length (congrArg (List.flatMap fun d:Int×Int=>(bI d.1 n).map fun c=>(c.1,c.2 * d.2)) (List.take_append_drop (m + 1) L));rw[List.flatMap_append,List.length_append] at e;lia
   rw[jk hv,List.length_append,lM0] at tk;have ft:=jk (f:=fun d:Int×Int=>(bI d.1 n).map fun c=>(c.1,c.2 * d.2)) hv;walk_at "m4";refine⟨cm2,lC (fun e=>?_) (fun e=>?_)⟩
   ·have h:2 * v.1 + 1 < n:=by simpa [rX] using e
    have ce:bI v.1 n=[(2 * v.1,1),(2 * v.1 + 1,1)]:=by unfold bI;rw[if_pos h]
    rw[ce] at ft tk;walk_at "m4";refine⟨cm2,sl2 (by decide),cm2,sl2 (by decide),sl2 (by decide),by rw[lM0,sizeLine_eq];lia,ltv,some (.int v.1),some (.int v.2),?_⟩;rw[ft,List.map_append];simp only[List.map_cons,List.map_nil,Int.one_mul];rfl
   ·have h:¬ 2 * v.1 + 1 < n:=by simpa [rX] using e
    have ce:bI v.1 n=[(2 * v.1,2)]:=by unfold bI;rw[if_neg h]
    rw[ce] at ft tk;walk_at "m4";refine⟨cm2,cm2,sl2 (by decide),by rw[lM0,sizeLine_eq];lia,ltv,some (.int v.1),some (.int v.2),?_⟩;rw[ft,List.map_append];rfl
  ·rintro Γ ⟨hm,s5,s6,rfl⟩;walk_at "m4";rw[show L.take (List.map piD L).length=L by rw[lM0,List.take_length],<- st];refine⟨lj,some (.int n),none,s5,s6,?_⟩;rw[e2];rfl
 ·rintro Γ ⟨hj,s3,s4,s5,s6,rfl⟩;walk_at "m4";rw[List.length_reverse,lM0,Nat.sub_self];exact q
noncomputable def hs (h w:Int) (ls:List Lt) (k:Nat):Li:=((List.range k).filter fun i=>ls[i]? != some .r).map fun i=>(cat h w ls i).1
noncomputable def ws (h w:Int) (ls:List Lt) (k:Nat):Li:=((List.range k).filter fun i=>ls[i]? != some .p).map fun i=>(cat h w ls i).2
theorem I0 {p:Nat->Bool} {f:Nat->Int} {k:Nat}:((List.range (k + 1)).filter p).map f=((List.range k).filter p).map f++(if p k=true then [f k] else []):=by
 rw[List.range_succ,List.filter_append,List.map_append]
 congr 1
 by_cases h:p k=true <;> simp [h]
theorem iJ {p:Nat->Bool} {f:Nat->Int} {k:Nat}:(((List.range k).filter p).map f).length<=k:=by
 rw[lM0];exact Nat.le_trans (List.length_filter_le _ _) (by simp)
def As:S3:=fun Γ Q=>∃ (R:Rl) (h w:Int) (ls:List Lt) (k:Nat),Γ=[some (.fz (g9 R h w ls)),some (.fz (.int (k:Int)))]/\ls.length<=10/\k<=ls.length/\Q (.fz (.tup [il (hs h w ls k),il (ws h w ls k)])) Γ
theorem jF (T:Txt K mg a):aQ P w K mg base CX0 2 a.kX a.jK ["_law_told","_law_step"] (sp3 K 2 As):=by
 refine ok3 T.cg.F dP (hbody:=fun cdv A outer s H E hr=>⟨_,_,(ag (aD (i:=2) dP.nd rfl (Or.inr rfl) (cQ (av (by rfl) (er T) hr.dn (by rfl) T.aR.m T.aR.F.kp T.aR.b (aa (P3.opd (p3v 0)) af))))
   (ag (kj (i:=3) dP.nd rfl rfl rfl (a8 (by rfl) T.z_range (ab (p3v 1) ai)) gD (fun _ _ _ _ _=>(aT (i:=0) gD.nd rfl (Or.inl rfl))) (fun _ _ _ _ _=>(aK (dm (by rfl) hr) (P3.opd (az (by rfl) (P3.opd (az (by rfl) (bv 2) (P3.opd ae) (fun _ _=>rfl))) (bv 0) (fun _ _=>rfl))) (P3.opd bE) (aM _))) (fun _ _ _ _ _=>(az (by rfl) (P3.opd (az (by rfl) (bv 1) (bv 0) (fun _ _=>rfl))) (P3.opd ae) (fun _ _=>rfl))))
   (ag (kj (i:=4) dP.nd rfl rfl rfl (a8 (by rfl) T.z_range (ab (p3v 1) ai)) gE (fun _ _ _ _ _=>(aT (i:=0) gE.nd rfl (Or.inl rfl))) (fun _ _ _ _ _=>(aK (dm (by rfl) hr) (P3.opd (az (by rfl) (P3.opd (az (by rfl) (bv 2) (P3.opd ae) (fun _ _=>rfl))) (bv 0) (fun _ _=>rfl))) (P3.opd bE) (aM _))) (fun _ _ _ _ _=>(az (by rfl) (P3.opd (az (by rfl) (bv 1) (bv 0) (fun _ _=>rfl))) (P3.opd ae) (fun _ _=>rfl))))
   (ao (aE (aL (ab (p3v 3) (ab (p3v 4) ai)))))))),fun Γa Q h hl=>?_⟩)
 refine AQ h ?_;clear h;intro R h w ls k hZ;obtain⟨rfl,hls,hk,q⟩:=hZ;unfold g9 at q ⊢;walk_at "m4";refine vN R h w ls (ke rfl hls ?_);walk_at "m4";refine⟨by lia,by lia,gC (fun j ys Γc=>j<=k/\ys=(hs h w ls j).map .int/\∃ s,Γc=[fo s,some (.fz (.lst ((fG h w ls).map cD))),some (.fz (.tup [.int h,.int w,.str R.word,.str (wy ls)]))]) ⟨Nat.zero_le _,rfl,none,rfl⟩ ?_ ?_⟩
 ·rintro j d ys Γc hd ⟨hj,rfl,s,rfl⟩;obtain⟨lt,rfl⟩:=ck hd;have lj:j < k:=by lia
  obtain⟨l,hl⟩:∃ l,ls[j]?=some l:=⟨_,gE0 (by lia)⟩;have fs:hs h w ls (j + 1)=_:=I0;have fl:(hs h w ls j).length<=j:=iJ;rw[hl] at fs;walk_at "m4";refine⟨sl2 (by rw[bu];lia),l,atL hl,?_⟩;cases l
  case' r=>
   walk_at "m4";exact⟨lj,by rw[fs,if_neg (by decide),List.append_nil];rfl,⟨some _,rfl⟩⟩
  all_goals
   walk_at "m4";refine⟨small (by rw[lM0];lia),bQ.mpr ⟨_,lE (by lia),?_⟩⟩;unfold cD;walk_at "m4";refine⟨lj,?_,some (.int (j:Int)),rfl⟩;rw[fs,if_pos (by decide),List.map_append];rfl
 ·rintro ys Γc ⟨hj,rfl,s,rfl⟩;have kk:(rng 0 ((k:Int)).toNat).length=k:=by rw[bz];lia
  rw[kk];have f1:(hs h w ls k).length<=k:=iJ;walk_at "m4";refine⟨small (by rw[lM0];lia),by lia,by lia,gC (fun j ys Γc=>j<=k/\ys=(ws h w ls j).map .int/\∃ s,Γc=[fo s,some (.fz (.lst ((fG h w ls).map cD))),some (.fz (.tup [.int h,.int w,.str R.word,.str (wy ls)]))]) ⟨Nat.zero_le _,rfl,none,rfl⟩ ?_ ?_⟩
  ·rintro j d ys Γc hd ⟨hj,rfl,s,rfl⟩;obtain⟨lt,rfl⟩:=ck hd;have lj:j < k:=by lia
   obtain⟨l,hl⟩:∃ l,ls[j]?=some l:=⟨_,gE0 (by lia)⟩;have fs:ws h w ls (j + 1)=_:=I0;have fl:(ws h w ls j).length<=j:=iJ;rw[hl] at fs;walk_at "m4";refine⟨sl2 (by rw[bu];lia),l,atL hl,?_⟩;cases l
   case' p=>
    walk_at "m4";exact⟨lj,by rw[fs,if_neg (by decide),List.append_nil];rfl,⟨some _,rfl⟩⟩
   all_goals
    walk_at "m4";refine⟨small (by rw[lM0];lia),bQ.mpr ⟨_,lE (by lia),?_⟩⟩;unfold cD;walk_at "m4";refine⟨lj,?_,some (.int (j:Int)),rfl⟩;rw[fs,if_pos (by decide),List.map_append];rfl
  ·rintro ys Γc ⟨hj,rfl,s,rfl⟩;rw[kk];have f2:(ws h w ls k).length<=k:=iJ;walk_at "m4";exact⟨small (by rw[lM0];lia),sl2 (by decide),q⟩
theorem rV:∀ (ns:Li) (p:Int) (i:Nat),(lax (ns.drop i) p).length<=(lax ns p).length
 | [],p,i=>by rw[List.drop_nil];exact Nat.le_refl _
 | n::ns,p,0=>Nat.le_refl _
 | n::ns,p,i + 1=>by
  have h1:=rV ns p i;have h2:∀ L:List (Int×Int),L.length<=(L.flatMap fun d=>(bI d.1 n).map fun c=>(c.1,c.2 * d.2)).length:=by
   intro L
   induction L with
   | nil=>simp
   | cons d L ih=>
    rw[List.flatMap_cons,List.length_append,lM0,List.length_cons];have:1<=(bI d.1 n).length:=by unfold bI;split <;> simp
    lia
  exact Nat.le_trans h1 (h2 _)
theorem Ec {L:List (Int×Int)} {f:Int->List (Int×Int)} (hf:∀ p,f p=[(p,1)]):(L.flatMap fun d=>(f d.1).map fun c=>(c.1,c.2 * d.2))=L:=by
 induction L with
 | nil=>rfl
 | cons d L ih=>rw[List.flatMap_cons,ih,hf];simp
theorem C9 {p:Nat->Bool} {f:Nat->Int} {k:Nat}:((List.range (k + 1)).filter p).map f=(if p 0=true then [f 0] else [])++((List.range k).filter fun i=>p (i + 1)).map fun i=>f (i + 1):=by
 rw[List.range_succ_eq_map,List.filter_cons,List.filter_map];by_cases h:p 0=true <;> simp [h,Function.comp_def]
theorem D8:∀ (ls:List Lt) (h w y:Int) (k:Nat),k<=ls.length->lax (hs h w ls k) y=ayR h (ls.take k) y
 | ls,h,w,y,0,_=>rfl
 | [],_,_,_,k + 1,hk=>by simp at hk
 | l::ls,h,w,y,k + 1,hk=>by
  have ih:=D8 ls (nh l h) (nw l w) y k (by simpa using hk);have e:hs h w (l::ls) (k + 1)=(if (some l != some Lt.r)=true then [h] else [])++hs (nh l h) (nw l w) ls k:=by
   unfold hs;rw[C9];rfl
  rw[List.take_succ_cons,ayR,<- ih,e];cases l
  ·rw[if_neg (by decide),List.nil_append];exact(Ec fun p=>rfl).symm
  ·rw[if_pos (by decide)];rfl
  ·rw[if_pos (by decide)];rfl
theorem Dz:∀ (ls:List Lt) (h w y:Int) (k:Nat),k<=ls.length->lax (ws h w ls k) y=axR w (ls.take k) y
 | ls,h,w,y,0,_=>rfl
 | [],_,_,_,k + 1,hk=>by simp at hk
 | l::ls,h,w,y,k + 1,hk=>by
  have ih:=Dz ls (nh l h) (nw l w) y k (by simpa using hk);have e:ws h w (l::ls) (k + 1)=(if (some l != some Lt.p)=true then [w] else [])++ws (nh l h) (nw l w) ls k:=by
   unfold ws;rw[C9];rfl
  rw[List.take_succ_cons,axR,<- ih,e];cases l
  ·rw[if_pos (by decide)];rfl
  ·rw[if_neg (by decide),List.nil_append];exact(Ec fun p=>rfl).symm
  ·rw[if_pos (by decide)];rfl
def Au:S3:=fun Γ Q=>∃ (R:Rl) (h w:Int) (ls:List Lt) (k:Nat) (y x:Int),Γ=[some (.fz (g9 R h w ls)),some (.fz (.int (k:Int))),some (.fz (pD y x))]/\hU h w/\Good h w ls/\ls.length<=10/\k<=ls.length/\InC h w ls k y x/\Q (.fr (.lst ((shF h w ls k y x).map pmD))) Γ
theorem pJ (T:Txt K mg a):aQ P w K mg base CX0 3 a.kY a.jL ["_law_told","_law_step","_law_place"] (sp3 K 3 Au):=by
 refine ok3 T.eL.F cv (hbody:=fun cdv A outer s H E hr=>⟨_,_,(ag (eR (is:=[3,4]) (by rfl) (av (by rfl) (jF T) hr.dn (by rfl) T.cg.m T.cg.F.kp T.cg.b (aa (P3.opd (p3v 0)) (aa (P3.opd (p3v 1)) af))) (aq (ay (i:=3) cv.nd rfl (Or.inl rfl)) (aq (ay (i:=4) cv.nd rfl (Or.inl rfl)) aV)) rfl)
   (ag (aD (i:=5) cv.nd rfl (Or.inl rfl) (bH ai))
   (ag (fg PassesOwn.never rfl (bP (by rfl) (av (by rfl) (kx T) hr.dn (by rfl) T.cI.m T.cI.F.kp T.cI.b (aa (P3.opd (p3v 3)) (aa (P3.opd (az (by rfl) (bv 2) (P3.opd ae) (fun _ _=>rfl))) af)))) (dC (is:=[6,7]) (by rfl) (aq (ay (i:=6) cv.nd rfl (Or.inr rfl)) (aq (ay (i:=7) cv.nd rfl (Or.inr rfl)) aV)) rfl)
   (ao (gO (p_ 5 (by rfl) (bv 5) (P3.opd (cF rfl (bP (by rfl) (av (by rfl) (kx T) hr.dn (by rfl) T.cI.m T.cI.F.kp T.cI.b (aa (P3.opd (p3v 4)) (aa (P3.opd (az (by rfl) (bv 2) (P3.opd ae) (fun _ _=>rfl))) af)))) dE (fun _ _ _ _ _=>(dC (is:=[0,1]) (by rfl) (aq (ay (i:=0) dE.nd rfl (Or.inl rfl)) (aq (ay (i:=1) dE.nd rfl (Or.inl rfl)) aV)) rfl)) (fun _ _ _ _ _=>(aL (ab (aL (ab (p3v 3) (ab (p3v 0) ai))) (ab (bw (bv 2) (bv 1)) ai))))))))))
   (ao (aE (u_ 5)))))),fun Γa Q h hl=>?_⟩)
 refine GN h ?_;clear h;intro R h w ls k y x hZ;obtain⟨rfl,sz,g,hls,hk,c,q⟩:=hZ;obtain⟨r1,r2⟩:=lL (Nat.zero_le k) hk c;rw[fH,List.drop_zero] at r1 r2;have l1:=r1.len (by have:=sz.h1;lia);have l2:=r2.len (by have:=sz.w1;lia);have h2:=sz.h2;have w2:=sz.w2;unfold shF at q;have e10:=yU (n:=(ls.take k).length) (by rw[List.length_take];lia);rw[<- D8 ls h w y k hk] at l1 q r1;rw[<- Dz ls h w x k hk] at l2 q;walk_at "m4";refine vM R h w ls k (pU rfl hls hk ?_);walk_at "m4";refine⟨Nat.zero_le _,Dd _ y (ke rfl (fun i _=>Nat.le_trans (rV _ _ i) (by lia)) ?_)⟩;walk_at "m4";have hx:∀ i,i<=(ws h w ls k).length->(lax ((ws h w ls k).drop i) x).length<=64:=fun i _=>Nat.le_trans (rV _ _ i) (by lia);generalize hA:lax (hs h w ls k) y=A at l1 q r1 ⊢;generalize hZ:lax (ws h w ls k) x=Z at l2 q;refine cJ (fun m Γ=>m<=A.length/\∃ s6 s7,Γ=[some (.fz (g9 R h w ls)),some (.fz (.int (k:Int))),some (.fz (pD y x)),some (.fz (il (hs h w ls k))),some (.fz (il (ws h w ls k))),some (.ow (.lst ((crs (A.take m) Z).map pmD))),fo s6,fo s7]) ⟨Nat.zero_le _,none,none,rfl⟩ ?_ ?_
 ·rintro m d Γ hd ⟨hm,s6,s7,rfl⟩;obtain⟨v,hv,rfl⟩:=eC hd;have ltv:=dA hv;have v2:=r1.lo v (List.mem_of_getElem? hv);have cl:(crs (A.take m) Z).length<=4096:=by
   rw[nz,List.length_take];exact Nat.mul_le_mul (show min m A.length<=64 by lia) (show Z.length<=64 by lia)
  have ft:=jk (f:=fun d:Int×Int=>Z.map fun q=>((d.1,q.1,d.2 * q.2):PM)) hv;walk_at "m4";refine Dd _ x (ke rfl hx ?_);rw[hZ];walk_at "m4";refine⟨small (by rw[lM0];lia),bZ (fun n ys Γc=>n<=Z.length/\ys=((Z.take n).map fun q=>((v.1,q.1,v.2 * q.2):PM)).map pmD/\∃ s0 s1,Γc=[fo s0,fo s1,some (.fz (.int v.2)),some (.fz (.int v.1))]) ⟨Nat.zero_le _,rfl,none,none,rfl⟩ ?_ ?_⟩
  ·rintro n d ys Γc hd hy ⟨hn,rfl,s0,s1,rfl⟩;obtain⟨u,hu,rfl⟩:=eC hd;have ltu:=dA hu;walk_at "m4";refine⟨sl2 (by decide),.inl ⟨by lia,by lia⟩,sl2 (by decide),ltu,?_,some (.int u.1),some (.int u.2),rfl⟩;rw[take_snoc hu,List.map_append,List.map_append];rfl
  ·rintro ys Γc hy ⟨hn,rfl,s0,s1,rfl⟩;rw[show Z.take (List.map piD Z).length=Z by rw[lM0,List.take_length]];walk_at "m4";refine⟨by rw[lM0,lM0,lM0,sizeLine_eq];lia,ltv,some (.int v.1),some (.int v.2),?_⟩;rw[show crs (A.take (m + 1)) Z=_ from ft,List.map_append];rfl
 ·rintro Γ ⟨hm,s6,s7,rfl⟩;walk_at "m4";rw[lM0,List.take_length];exact q
def CS:S3:=fun Γ Q=>∃ (R:Rl) (h w:Int) (ls:List Lt) (k:Nat),Γ=[some (.fz (g9 R h w ls)),some (.fz (.int (k:Int)))]/\ls.length<=10/\k<=ls.length/\Q (.fz (.int (((hs h w ls k).length + (ws h w ls k).length:Nat):Int))) Γ
theorem mY (T:Txt K mg a):aQ P w K mg base CX0 3 a.iS a.gY ["_law_told","_law_step"] (sp3 K 2 CS):=by
 refine ok3 T.da.F ee (hbody:=fun cdv A outer s H E hr=>⟨_,_,(ag (eR (is:=[2,3]) (by rfl) (av (by rfl) (jF T) hr.dn (by rfl) T.cg.m T.cg.F.kp T.cg.b (aa (P3.opd (p3v 0)) (aa (P3.opd (p3v 1)) af))) (aq (ay (i:=2) ee.nd rfl (Or.inl rfl)) (aq (ay (i:=3) ee.nd rfl (Or.inl rfl)) aV)) rfl)
   (ao (aE (aH (P3.opd (aJ (g6 (by rfl)) (by rfl) T.z_len (by decide +kernel) (aa (bv 2) af))) (P3.opd (aJ (g6 (by rfl)) (by rfl) T.z_len (by decide +kernel) (aa (bv 3) af))))))),fun Γa Q h hl=>?_⟩)
 refine AQ h ?_;clear h;intro R h w ls k hZ;obtain⟨rfl,hls,hk,q⟩:=hZ;walk_at "m4";refine vM R h w ls k (pU rfl hls hk ?_);have f1:(hs h w ls k).length<=k:=iJ;have f2:(ws h w ls k).length<=k:=iJ;walk_at "m4";rw[lM0,lM0];rw[Int.natCast_add] at q;exact q
def Aq:S3:=fun Γ Q=>∃ n:Int,Γ=[some (.fz (.int n))]/\Q (.fz (.bl true)) Γ
theorem pI (T:Txt K mg a):aQ P w K mg base CX0 1 a.kW a.jJ ["_law_thing"] (sp3 K 1 Aq):=by
 refine ok3 T.eJ.F pz (hbody:=fun cdv A outer s H E hr=>⟨_,_,(ao (aE (rF (aJ (Em T.ty) (by rfl) T.z_isinstance (by decide +kernel) (aa (bv 0) (aa (P3.opd (n8 (n:="int") (by rfl) T.z_int (by decide +kernel))) af))) (lS (Fq (aJ (Eo T.ty) (by rfl) T.z_isinstance (by decide +kernel) (aa (bv 0) (aa (P3.opd (n8 (n:="bool") (by rfl) T.z_bool (by decide +kernel))) af)))))))),fun Γa Q h hl=>?_⟩);obtain⟨n,rfl,q⟩:=h;walk_at "m4";unfold DR;walk_at "m4";exact q
noncomputable def pv (R:Rl) (a b:Int):Int:=match R with
 | .sum=>a + b
 | _=>(a + b) / 2
noncomputable def lv (R:Rl) (a:Int):Int:=match R with
 | .sum=>2 * a
 | _=>a
structure yM (R:Rl) (ns L:Li):Prop where
 len:L.length=ns.length
 lo:R≠.guess->∀ x,2 * x < ns.length->L.getD x 0=if 2 * x + 1 < ns.length then pv R (ns.getD (2 * x) 0) (ns.getD (2 * x + 1) 0) else lv R (ns.getD (2 * x) 0)
noncomputable def fu (ns:Li):List D:=(List.range (ns.length / 2)).map fun j=>.tup [.int (ns.getD (2 * j) 0),.int (ns.getD (2 * j + 1) 0)]
noncomputable def rg (f:Nat->Int) (k:Nat):Li:=(List.range k).map f
theorem ej (f:Nat->Int) (k:Nat):(rg f k).length=k:=by simp [rg]
theorem wI (f:Nat->Int) (k:Nat):(List.range k).map (fun j=>D.int (f j))=(rg f k).map D.int:=by unfold rg;rw[List.map_map];rfl
noncomputable def jG (ns:Li):Li:=rg (fun j=>ns.getD (2 * j) 0 - ns.getD (2 * j + 1) 0) (ns.length / 2)
theorem cY (ns:Li):(fu ns).length=ns.length / 2:=by simp [fu]
theorem lQ {ns:Li} {k:Nat} {d:D} (h:(fu ns)[k]?=some d):k < ns.length / 2/\d=.tup [.int (ns.getD (2 * k) 0),.int (ns.getD (2 * k + 1) 0)]:=by
 unfold fu at h;exact nu h
def CV:S3:=fun Γ Q=>∃ (ns:Li),Γ=[some (.fz (.lst (fu ns)))]/\ns.length<=64/\Q (.fr (il (jG ns))) Γ
theorem kv (T:Txt K mg a):aQ P w K mg base CX0 1 a.mH a.kQ ["_law_pairs"] (sp3 K 1 CV):=by
 refine ok3 T.cH.F qQ (hbody:=fun cdv A outer s H E hr=>⟨_,_,(ao (aE (cF rfl (bP (by rfl) (p3v 0)) eB (fun _ _ _ _ _=>(dC (is:=[0,1]) (by rfl) (aq (ay (i:=0) eB.nd rfl (Or.inl rfl)) (aq (ay (i:=1) eB.nd rfl (Or.inl rfl)) aV)) rfl)) (fun _ _ _ _ _=>(fv (bv 0) (bv 1)))))),fun Γa Q h hl=>?_⟩);obtain⟨ns,rfl,hn,q⟩:=h;walk_at "m4";refine⟨small (by rw[cY];lia),bZ (fun k ys Γc=>ys=(List.range k).map (fun j=>D.int (ns.getD (2 * j) 0 - ns.getD (2 * j + 1) 0))/\∃ s s',Γc=[fo s,fo s']) ⟨rfl,none,none,rfl⟩ ?_ ?_⟩
 ·rintro k d ys Γc hd hk ⟨rfl,s,s',rfl⟩;obtain⟨lt,rfl⟩:=lQ hd;walk_at "m4";exact⟨snoc rfl,some _,some _,rfl⟩
 ·rintro ys Γc hk ⟨rfl,s,s',rfl⟩;rw[cY,wI];exact q
theorem du {ns:Li} {i:Int} {k:Nat} (h:i=(k:Int)) (lt:k < ns.length):atI (ns.map D.int) i=some (.int (ns.getD k 0)):=by
 subst h;refine cn (by lia) ?_;rw[Int.toNat_natCast,List.getElem?_map,gE0 lt,List.getD_eq_getElem?_getD,gE0 lt];rfl
theorem EW (f:Nat->Int) {j k:Nat} (h:j < k):(rg f k).getD j 0=f j:=by unfold rg;simp [List.getD,h]
theorem vP {α:Type} {f:α->D} {F:List α} {n:Nat} (h:n<=F.length):cut (F.map f) none (some (n:Int))=(F.take n).map f:=by
 unfold cut;rw[HT.nR,HT.wD,lM0,List.drop_zero,Nat.sub_zero,Nat.min_eq_left h,List.map_take]
theorem iW {α:Type} {f:α->D} {F:List α} {n:Nat} (h:n<=F.length):cut (F.map f) (some (n:Int)) none=(F.drop n).map f:=by
 unfold cut;rw[HT.nR,HT.wD,lM0,Nat.min_eq_left h,List.take_of_length_le (by rw[List.length_drop,lM0];exact Nat.le_refl _),List.map_drop]
theorem Ay {S:Li} (h:1<=S.length):cut (S.map D.int) (some (-1)) none=(S.drop (S.length - 1)).map D.int:=by
 have e:HT.sIx (S.map D.int).length 0 (some (-1))=S.length - 1:=by
  simp only[HT.sIx,lM0];split <;> lia
 unfold cut;rw[e,HT.nR,List.take_of_length_le (by rw[List.length_drop];lia),List.map_drop]
theorem pk0 (ns:Li):pk (ns.map D.int) none none (some 2)=(rg (fun k=>ns.getD (2 * k) 0) ((ns.length + 1) / 2)).map D.int:=by
 have h:=HV ns;have e:mi (ns.map V.int) (some 0) none (some 2)=(pk ns (some 0) none (some 2)).map V.int:=zL V.int ns _ _ _;rw[e,show (List.range ((ns.length + 1) / 2)).map (fun k=>V.int (ns.getD (2 * k) 0))=((List.range ((ns.length + 1) / 2)).map fun k=>ns.getD (2 * k) 0).map V.int by rw[List.map_map];rfl] at h;have inj:∀ {a b:Li},a.map V.int=b.map V.int->a=b:=fun {a b} h=>List.map_inj_right (fun _ _ q=>by cases q;rfl) |>.mp h;show pk (ns.map D.int) (some 0) none (some 2)=_;rw[zL,inj h];rfl
theorem GD {xs ys:Li} {k:Nat} (h:k < xs.length):(xs++ys).getD k 0=xs.getD k 0:=by rw[List.getD_eq_getElem?_getD,List.getD_eq_getElem?_getD,List.getElem?_append_left h]
theorem Ku {xs ys:Li} {k:Nat} (h:xs.length<=k):(xs++ys).getD k 0=ys.getD (k - xs.length) 0:=by rw[List.getD_eq_getElem?_getD,List.getD_eq_getElem?_getD,List.getElem?_append_right h]
theorem wL {R:Rl} {ns:Li} {f:Nat->Int} {T F:Li} (hT:T.length=ns.length - 2 * (ns.length / 2)) (hF:F.length=ns.length / 2) (h1:R≠.guess->∀ x,f x=pv R (ns.getD (2 * x) 0) (ns.getD (2 * x + 1) 0))
  (h2:R≠.guess->T.length=1->T.getD 0 0=lv R (ns.getD (2 * (ns.length / 2)) 0)):yM R ns (rg f (ns.length / 2)++T++F):=by
 refine⟨by rw[List.length_append,List.length_append,ej];lia,fun hR x hx=>?_⟩;split
 ·rename_i h;rw[List.append_assoc,GD (by rw[ej];lia),EW _ (by lia),h1 hR]
 ·rename_i h;have e:x=ns.length / 2:=by lia
  subst e;rw[List.append_assoc,Ku (by rw[ej];exact Nat.le_refl _),ej,Nat.sub_self,GD (by lia),h2 hR (by lia)]
theorem Dl {ns:Li} {k:Nat} (h:k < ns.length / 2):atI (fu ns) (k:Int)=some (.tup [.int (ns.getD (2 * k) 0),.int (ns.getD (2 * k + 1) 0)]):=by
 refine cn (by lia) ?_;unfold fu;rw[Int.toNat_natCast,List.getElem?_map,List.getElem?_range h];rfl
theorem zK {R:Rl} {ns F:Li} {m:Nat} (hR:R=.half\/R=.lean) (hm:ns.length / 2=m) (hF:F.length=m):yM R ns (rg (fun j=>(ns.getD (2 * j) 0 + ns.getD (2 * j + 1) 0) / 2) m++ns.drop (2 * m)++F):=by
 subst hm;refine wL (by rw[List.length_drop]) hF (fun _ x=>by rcases hR with rfl | rfl <;> rfl) (fun _ h=>?_);obtain⟨v,hv⟩:=List.length_eq_one_iff.mp h;have e:ns.getD (2 * (ns.length / 2)) 0=v:=by
  have:(ns.drop (2 * (ns.length / 2)))[0]?=some v:=by rw[hv];rfl
  rw[List.getElem?_drop] at this;rw[List.getD_eq_getElem?_getD,show 2 * (ns.length / 2)=2 * (ns.length / 2) + 0 from rfl,this];rfl
 rw[hv,e];rcases hR with rfl | rfl <;> rfl
def Bd (M:Int) (ns:Li):Prop:=∀ n∈ns,-M<=n/\n<=M
theorem Bd.gd {M:Int} {ns:Li} (h:Bd M ns) (hM:0<=M) (k:Nat):-M<=ns.getD k 0/\ns.getD k 0<=M:=by
 rw[List.getD_eq_getElem?_getD];cases q:ns[k]? with
 | none=>exact⟨by show -M<=0;lia,hM⟩
 | some v=>exact h v (List.mem_of_getElem? q)
theorem Bd.nil {M:Int}:Bd M []:=fun _ h=>nomatch h
theorem Bd.app {M:Int} {xs ys:Li} (h1:Bd M xs) (h2:Bd M ys):Bd M (xs++ys):=fun n hn=>(List.mem_append.mp hn).elim (h1 n) (h2 n)
theorem Bd.up {M N:Int} {xs:Li} (h:Bd M xs) (l:M<=N):Bd N xs:=fun n hn=>by have:=h n hn;lia
theorem Bd.drop {M:Int} {xs:Li} (h:Bd M xs) (k:Nat):Bd M (xs.drop k):=fun n hn=>h n (List.mem_of_mem_drop hn)
theorem Bd.take {M:Int} {xs:Li} (h:Bd M xs) (k:Nat):Bd M (xs.take k):=fun n hn=>h n (List.mem_of_mem_take hn)
theorem Bd.one {M n:Int} (h:-M<=n/\n<=M):Bd M [n]:=fun k hk=>by rw[List.mem_singleton.mp hk];exact h
theorem qC {M:Int} {f:Nat->Int} {k:Nat} (h:∀ j,-M<=f j/\f j<=M):Bd M (rg f k):=fun n hn=>by
 unfold rg at hn;obtain⟨j,_,rfl⟩:=List.mem_map.mp hn;exact h j
def rS:S3:=fun Γ Q=>∃ (R:Rl) (ns:Li) (M:Int),Γ=[some (.fz (.str R.word)),some (.fz (il ns))]/\2<=ns.length/\ns.length<=64/\0<=M/\Bd M ns/\∀ L,yM R ns L->Bd (4 * M + 4) L->Q (.fr (il L)) Γ
theorem iB (T:Txt K mg a):aQ P w K mg base CX0 2 a.aN a.iN ["_law_word","_law_row"] (sp3 K 2 rS):=by
 refine ok3 T.cu.F aI (hbody:=fun cdv A outer s H E hr=>⟨_,_,(ag (aD (i:=2) aI.nd rfl (Or.inl rfl) (cE (P3.opd (aJ (g6 (by rfl)) (by rfl) T.z_len (by decide +kernel) (aa (bv 1) af))) (P3.opd ae)))
   (ag (aD (i:=3) aI.nd rfl (Or.inr rfl) (cQ (cF rfl (a8 (by rfl) T.z_range (ab (p3v 2) ai)) gc (fun _ _ _ _ _=>(aT (i:=0) gc.nd rfl (Or.inl rfl))) (fun _ _ _ _ _=>(aL (ab (az (by rfl) (bv 1) (P3.opd (bw (P3.opd ae) (bv 0))) (fun _ _=>rfl)) (ab (az (by rfl) (bv 1) (P3.opd (aH (P3.opd (bw (P3.opd ae) (bv 0))) (P3.opd ae))) (fun _ _=>rfl)) ai)))))))
   (ag (b9 (aK (fI (by rfl) hr) (bv 0) (P3.opd bE) (aM _)) (ao (aE (aH (P3.opd (aH (P3.opd (cF rfl (bP (by rfl) (p3v 3)) dq (fun _ _ _ _ _=>(dC (is:=[0,1]) (by rfl) (aq (ay (i:=0) dq.nd rfl (Or.inl rfl)) (aq (ay (i:=1) dq.nd rfl (Or.inl rfl)) aV)) rfl)) (fun _ _ _ _ _=>(aH (bv 0) (bv 1))))) (P3.opd (cF rfl (bP (by rfl) (cP (by rfl) (bv 1) (b_ (P3.opd (bw (P3.opd ae) (bv 2)))) bV)) gf (fun _ _ _ _ _=>(aT (i:=0) gf.nd rfl (Or.inl rfl))) (fun _ _ _ _ _=>(bw (P3.opd ae) (bv 0))))))) (P3.opd (av (by rfl) (kv T) hr.dn (by rfl) T.cH.m T.cH.F.kp T.cH.b (aa (P3.opd (p3v 3)) af)))))) bD)
   (ag (b9 (aK (fI (by rfl) hr) (bv 0) (P3.opd bE) (aM _)) (ag (aD (i:=4) aI.nd rfl (Or.inr rfl) (cQ (yg (by rfl) (bv 1) bV bV (b_ (P3.opd ae)))))
   (ag (aD (i:=5) aI.nd rfl (Or.inr rfl) (cQ (aH (P3.opd (cP (by rfl) (bv 4) (b_ (P3.opd ae)) bV)) (P3.opd (cP (by rfl) (bv 4) (b_ (P3.opd (va (P3.opd ae)))) bV)))))
   (ag (aD (i:=6) aI.nd rfl (Or.inr rfl) (cQ (cF rfl (a8 (by rfl) T.z_range (ab (p3v 2) ai)) gi (fun _ _ _ _ _=>(aT (i:=0) gi.nd rfl (Or.inl rfl))) (fun _ _ _ _ _=>(fv (P3.opd (az (by rfl) (P3.opd (az (by rfl) (bv 3) (bv 0) (fun _ _=>rfl))) (P3.opd ae) (fun _ _=>rfl))) (P3.opd (cE (P3.opd (aH (P3.opd (az (by rfl) (bv 1) (bv 0) (fun _ _=>rfl))) (P3.opd (az (by rfl) (bv 2) (bv 0) (fun _ _=>rfl))))) (P3.opd ae))))))))
   (ag (aD (i:=7) aI.nd rfl (Or.inr rfl) (cQ (aH (P3.opd (cP (by rfl) (bv 6) bV (b_ (P3.opd ae)))) (bv 6))))
   (ag (aD (i:=8) aI.nd rfl (Or.inr rfl) (cQ (aH (bv 6) (P3.opd (cP (by rfl) (bv 6) (b_ (P3.opd (va (P3.opd ae)))) bV)))))
   (ao (aE (aH (P3.opd (cF rfl (a8 (by rfl) T.z_range (ab (aJ (g6 (by rfl)) (by rfl) T.z_len (by decide +kernel) (aa (bv 4) af)) ai)) gj (fun _ _ _ _ _=>(aT (i:=0) gj.nd rfl (Or.inl rfl))) (fun _ _ _ _ _=>(aH (P3.opd (az (by rfl) (bv 3) (bv 0) (fun _ _=>rfl))) (P3.opd (cE (P3.opd (aH (P3.opd (aH (P3.opd (az (by rfl) (bv 1) (bv 0) (fun _ _=>rfl))) (P3.opd (az (by rfl) (bv 2) (bv 0) (fun _ _=>rfl))))) (P3.opd ae))) (P3.opd ae))))))) (bv 6))))))))) bD)
   (ag (aD (i:=9) aI.nd rfl (Or.inl rfl) (cQ (aH (P3.opd (cF rfl (bP (by rfl) (p3v 3)) dr (fun _ _ _ _ _=>(dC (is:=[0,1]) (by rfl) (aq (ay (i:=0) dr.nd rfl (Or.inl rfl)) (aq (ay (i:=1) dr.nd rfl (Or.inl rfl)) aV)) rfl)) (fun _ _ _ _ _=>(cE (P3.opd (aH (bv 0) (bv 1))) (P3.opd ae))))) (P3.opd (cP (by rfl) (bv 1) (b_ (P3.opd (bw (P3.opd ae) (bv 2)))) bV)))))
   (ag (aD (i:=6) aI.nd rfl (Or.inr rfl) (cQ (av (by rfl) (kv T) hr.dn (by rfl) T.cH.m T.cH.F.kp T.cH.b (aa (P3.opd (p3v 3)) af))))
   (ag (b9 (aK (fI (by rfl) hr) (bv 0) (P3.opd bE) (aM _)) (ag (aD (i:=7) aI.nd rfl (Or.inr rfl) (cQ (aH (P3.opd (cP (by rfl) (bv 9) bV (b_ (P3.opd ae)))) (bv 9))))
   (ag (aD (i:=8) aI.nd rfl (Or.inr rfl) (cQ (aH (P3.opd (cP (by rfl) (bv 9) (b_ (P3.opd ae)) bV)) (P3.opd (cP (by rfl) (bv 9) (b_ (P3.opd (va (P3.opd ae)))) bV)))))
   (ao (aD (i:=6) aI.nd rfl (Or.inr rfl) (cQ (cF rfl (a8 (by rfl) T.z_range (ab (p3v 2) ai)) gk (fun _ _ _ _ _=>(aT (i:=0) gk.nd rfl (Or.inl rfl))) (fun _ _ _ _ _=>(fv (P3.opd (az (by rfl) (bv 3) (bv 0) (fun _ _=>rfl))) (P3.opd (cE (P3.opd (aH (P3.opd (fv (P3.opd (az (by rfl) (bv 1) (bv 0) (fun _ _=>rfl))) (P3.opd (az (by rfl) (bv 2) (bv 0) (fun _ _=>rfl))))) (P3.opd ae))) (P3.opd ae))))))))))) bD)
   (ao (aE (aH (bv 9) (bv 6))))))))))),fun Γa Q h hl=>?_⟩)
 refine De h ?_;clear h;intro R ns M hZ;obtain⟨rfl,h2,h64,M0,bM,q⟩:=hZ;walk_at "m4";rw[lM0,show (ns.length:Int) / 2=((ns.length / 2:Nat):Int) by lia,Int.toNat_natCast];generalize hm:ns.length / 2=m;have hm1:1<=m:=by lia
 have m2:m<=32:=by lia
 refine⟨⟨by decide,by decide⟩,by lia,by lia,small (by rw[bz];lia),bZ (fun k ys Γc=>k<=m/\ys=(fu ns).take k/\∃ s,Γc=[fo s,some (.fz (il ns))]) ⟨Nat.zero_le _,rfl,none,rfl⟩ ?_ ?_⟩
 ·rintro k d ys Γc hd hk ⟨hkm,rfl,s,rfl⟩;obtain⟨lt,rfl⟩:=ck hd;have pg:(fu ns)[k]?=some (.tup [.int (ns.getD (2 * k) 0),.int (ns.getD (2 * k + 1) 0)]):=by
   unfold fu;rw[List.getElem?_map,List.getElem?_range (by lia)];rfl
  walk_at "m4";refine⟨cm2,bQ.mpr ⟨_,du (k:=2 * k) (by lia) (by lia),?_⟩⟩;walk_at "m4";refine⟨cm2,bQ.mpr ⟨_,du (k:=2 * k + 1) (by lia) (by lia),?_⟩⟩;walk_at "m4";refine⟨sl2 (by decide),lt,?_,some _,rfl⟩;rw[take_snoc pg]
 rintro ys Γc hk ⟨_,rfl,s,rfl⟩;rw[bz,List.take_of_length_le (by rw[cY];lia)];cases R
 case sum=>
  walk_at "m4";rw[show (Rl.sum.word == Str.ofString "sum")=true by decide +kernel];walk_at "m4";refine⟨small (by rw[cY];lia),bZ (fun k ys Γc=>ys=(List.range k).map (fun j=>D.int (ns.getD (2 * j) 0 + ns.getD (2 * j + 1) 0))/\∃ s s',Γc=[fo s,fo s']) ⟨rfl,none,none,rfl⟩ ?_ ?_⟩
  ·rintro k d ys Γc hd hk ⟨rfl,s,s',rfl⟩;obtain⟨lt,rfl⟩:=lQ hd;walk_at "m4";exact⟨snoc rfl,some _,some _,rfl⟩
  rintro ys Γc hk ⟨rfl,s,s',rfl⟩;rw[cY,wI,hm];walk_at "m4";refine⟨cm2,?_⟩;rw[show (2:Int) * (m:Int)=((2 * m:Nat):Int) by lia,iW (by lia)];walk_at "m4";generalize hT:ns.drop (2 * m)=Tl;have tl:Tl.length=ns.length - 2 * m:=by rw[<- hT,List.length_drop]
  refine⟨small (by rw[lM0];lia),bZ (fun k ys Γc=>ys=(Tl.take k).map (fun n=>D.int (2 * n))/\∃ s,Γc=[fo s]) ⟨rfl,none,rfl⟩ ?_ ?_⟩
  ·rintro k d ys Γc hd hk ⟨rfl,s,rfl⟩;obtain⟨n,hn,rfl⟩:=eC hd;walk_at "m4";exact⟨cm2,by rw[take_snoc hn,List.map_append];rfl,some _,rfl⟩
  rintro ys Γc hk ⟨rfl,s,rfl⟩;rw[List.take_of_length_le (by rw[lM0];exact Nat.le_refl _),show Tl.map (fun n=>D.int (2 * n))=(Tl.map fun n=>2 * n).map D.int by rw[List.map_map];rfl];walk_at "m4";have rl:(rg (fun j=>ns.getD (2 * j) 0 + ns.getD (2 * j + 1) 0) m).length=m:=ej _ _;refine⟨by simp only[lM0,rl,sizeLine_eq];lia,ns,rfl,h64,?_⟩;have gl:(jG ns).length=m:=by unfold jG;rw[ej,hm]
  walk_at "m4";refine⟨by simp only[lM0,List.length_append,rl,gl,sizeLine_eq];lia,?_⟩;rw[<- List.map_append,<- List.map_append];refine q _ ?_ ((Bd.app (Bd.app (qC fun j=>?_) fun n hn=>?_) ?_))
  rotate_left
  ·have a:=bM.gd M0 (2 * j);have b:=bM.gd M0 (2 * j + 1);lia
  ·obtain⟨v,hv,rfl⟩:=List.mem_map.mp hn;rw[<- hT] at hv;have:=bM.drop _ v hv;lia
  ·unfold jG;exact qC fun j=>by have a:=bM.gd M0 (2 * j);have b:=bM.gd M0 (2 * j + 1);lia
  have:=wL (R:=.sum) (ns:=ns) (f:=fun j=>ns.getD (2 * j) 0 + ns.getD (2 * j + 1) 0) (T:=Tl.map fun n=>2 * n) (F:=jG ns) (by rw[lM0,hm];lia) (by rw[hm];exact gl) (fun _ x=>rfl) (fun _ h=>?_)
  ·rw[hm] at this;exact this
  ·rw[lM0] at h;rw[hm,<- hT];rw[<- hT] at h;obtain⟨v,hv⟩:=List.length_eq_one_iff.mp h;have e:ns.getD (2 * m) 0=v:=by
    have:(ns.drop (2 * m))[0]?=some v:=by rw[hv];rfl
    rw[List.getElem?_drop] at this;rw[List.getD_eq_getElem?_getD,show 2 * m=2 * m + 0 from rfl,this];rfl
   rw[hv,e];rfl
 case guess=>
  walk_at "m4";rw[show (Rl.guess.word == Str.ofString "sum")=false by decide +kernel];walk_at "m4";rw[show (Rl.guess.word == Str.ofString "guess")=true by decide +kernel];walk_at "m4";rw[pk0];have fl:(rg (fun k=>ns.getD (2 * k) 0) ((ns.length + 1) / 2)).length=(ns.length + 1) / 2:=ej _ _;have bF:Bd M (rg (fun k=>ns.getD (2 * k) 0) ((ns.length + 1) / 2)):=qC fun j=>bM.gd M0 _;generalize rg (fun k=>ns.getD (2 * k) 0) ((ns.length + 1) / 2)=Fs at fl bF ⊢;rw[show cut (Fs.map D.int) (some 1) none=(Fs.drop 1).map D.int from iW (n:=1) (by lia),Ay (by lia),<- List.length_append,<- List.map_append];have ll:(Fs.drop 1++Fs.drop (Fs.length - 1)).length=Fs.length:=by rw[List.length_append,List.length_drop,List.length_drop];lia
  have bL:Bd M (Fs.drop 1++Fs.drop (Fs.length - 1)):=(bF.drop _).app (bF.drop _);generalize Fs.drop 1++Fs.drop (Fs.length - 1)=La at ll bL ⊢;refine⟨by decide,by rw[lM0,sizeLine_eq];lia,by lia,by lia,?_⟩;rw[Int.toNat_natCast];refine⟨small (by rw[bz];lia),bZ (fun k ys Γc=>k<=m/\(∃ L:Li,L.length=k/\Bd (2 * M + 1) L/\ys=L.map D.int)/\∃ s,Γc=[fo s,some (.fz (il Fs)),some (.fz (il La)),some (.fz (.lst (fu ns)))]) ⟨Nat.zero_le _,⟨[],rfl,Bd.nil,rfl⟩,none,rfl⟩ ?_ ?_⟩
  ·rintro k d ys Γc hd hk ⟨hkm,⟨L,hL,bL',rfl⟩,s,rfl⟩;have g1:=bM.gd M0 (2 * k + 1);have g2:=bF.gd M0 k;have g3:=bL.gd M0 k;obtain⟨lt,rfl⟩:=ck hd;walk_at "m4";refine bQ.mpr ⟨_,Dl (by lia),?_⟩;walk_at "m4";refine bQ.mpr ⟨_,du (k:=k) rfl (by lia),?_⟩;walk_at "m4";refine bQ.mpr ⟨_,du (k:=k) rfl (by lia),?_⟩;walk_at "m4";refine⟨⟨by decide,by decide⟩,lt,⟨L++[ns.getD (2 * k + 1) 0 - (Fs.getD k 0 + La.getD k 0) / 2],by rw[List.length_append,hL];rfl,bL'.app (Bd.one (by lia)),by rw[List.map_append];rfl⟩,some _,rfl⟩
  rintro ys Γc hk ⟨_,⟨Fi,hFi,bFi,rfl⟩,s,rfl⟩;rw[bz] at hFi;walk_at "m4";rw[show cut (Fi.map D.int) none (some 1)=(Fi.take 1).map D.int from vP (n:=1) (by lia),Ay (by lia)];rw[<- List.length_append,<- List.length_append,<- List.map_append,<- List.map_append];have al:(Fi.take 1++Fi).length=m + 1:=by rw[List.length_append,List.length_take];lia
  have bl:(Fi++Fi.drop (Fi.length - 1)).length=m + 1:=by rw[List.length_append,List.length_drop];lia
  have bA:Bd (2 * M + 1) (Fi.take 1++Fi):=(bFi.take _).app bFi;have bB:Bd (2 * M + 1) (Fi++Fi.drop (Fi.length - 1)):=bFi.app (bFi.drop _);generalize Fi.take 1++Fi=Ah at al bA ⊢;generalize Fi++Fi.drop (Fi.length - 1)=Be at bl bB ⊢;simp only[lM0];rw[Int.toNat_natCast];refine⟨by rw[sizeLine_eq];lia,by rw[sizeLine_eq];lia,by lia,by lia,small (by rw[bz];lia),bZ (fun k ys Γc=>k<=Fs.length/\(∃ L:Li,L.length=k/\Bd (4 * M + 4) L/\ys=L.map D.int)/\∃ s,Γc=[fo s,some (.fz (il Ah)),some (.fz (il Be)),some (.fz (il Fs))]) ⟨Nat.zero_le _,⟨[],rfl,Bd.nil,rfl⟩,none,rfl⟩ ?_ ?_⟩
  ·rintro k d ys Γc hd hk ⟨hkm,⟨L,hL,bL',rfl⟩,s,rfl⟩;have g1:=bF.gd M0 k;have g2:=bA.gd (by lia) k;have g3:=bB.gd (by lia) k;obtain⟨lt,rfl⟩:=ck hd;walk_at "m4";refine bQ.mpr ⟨_,du (k:=k) rfl (by lia),?_⟩;walk_at "m4";refine bQ.mpr ⟨_,du (k:=k) rfl (by lia),?_⟩;walk_at "m4";refine bQ.mpr ⟨_,du (k:=k) rfl (by lia),?_⟩;walk_at "m4";refine⟨⟨by decide,by decide⟩,lt,⟨L++[Fs.getD k 0 + (Ah.getD k 0 + Be.getD k 0 + 2) / 4],by rw[List.length_append,hL];rfl,bL'.app (Bd.one (by lia)),by rw[List.map_append];rfl⟩,some _,rfl⟩
  rintro ys Γc hk ⟨_,⟨L,hL,bL',rfl⟩,s,rfl⟩;rw[bz] at hL;walk_at "m4";refine⟨by rw[lM0,lM0,sizeLine_eq];lia,?_⟩;rw[<- List.map_append];exact q _ ⟨by rw[List.length_append];lia,fun h=>absurd rfl h⟩ (bL'.app (bFi.up (by lia)))
 case' half=>
  walk_at "m4";rw[show (Rl.half.word == Str.ofString "sum")=false by decide +kernel];walk_at "m4";rw[show (Rl.half.word == Str.ofString "guess")=false by decide +kernel];have pr:∀ F:Li,F.length=m->yM .half ns (rg (fun j=>(ns.getD (2 * j) 0 + ns.getD (2 * j + 1) 0) / 2) m++ns.drop (2 * m)++F):=fun F hF=>zK (.inl rfl) hm hF
 case' lean=>
  walk_at "m4";rw[show (Rl.lean.word == Str.ofString "sum")=false by decide +kernel];walk_at "m4";rw[show (Rl.lean.word == Str.ofString "guess")=false by decide +kernel];have pr:∀ F:Li,F.length=m->yM .lean ns (rg (fun j=>(ns.getD (2 * j) 0 + ns.getD (2 * j + 1) 0) / 2) m++ns.drop (2 * m)++F):=fun F hF=>zK (.inr rfl) hm hF
 all_goals
  walk_at "m4";refine⟨small (by rw[cY];lia),bZ (fun k ys Γc=>ys=(List.range k).map (fun j=>D.int ((ns.getD (2 * j) 0 + ns.getD (2 * j + 1) 0) / 2))/\∃ s s',Γc=[fo s,fo s']) ⟨rfl,none,none,rfl⟩ ?_ ?_⟩
  ·rintro k d ys Γc hd hk ⟨rfl,s,s',rfl⟩;obtain⟨lt,rfl⟩:=lQ hd;walk_at "m4";exact⟨⟨by decide,by decide⟩,snoc rfl,some _,some _,rfl⟩
  rintro ys Γc hk ⟨rfl,s,s',rfl⟩;rw[cY,wI,hm];have rl:(rg (fun j=>(ns.getD (2 * j) 0 + ns.getD (2 * j + 1) 0) / 2) m).length=m:=ej _ _;have bS:Bd M (rg (fun j=>(ns.getD (2 * j) 0 + ns.getD (2 * j + 1) 0) / 2) m):=qC fun j=>by have a:=bM.gd M0 (2 * j);have b:=bM.gd M0 (2 * j + 1);lia
  generalize rg (fun j=>(ns.getD (2 * j) 0 + ns.getD (2 * j + 1) 0) / 2) m=Sm at rl pr bS ⊢;walk_at "m4";refine⟨cm2,?_⟩;rw[show (2:Int) * (m:Int)=((2 * m:Nat):Int) by lia,iW (by lia),<- List.length_append,<- List.map_append];have tl:(ns.drop (2 * m)).length=ns.length - 2 * m:=by rw[List.length_drop]
  have bT:Bd M (ns.drop (2 * m)):=bM.drop _;generalize ns.drop (2 * m)=Tl at tl pr bT ⊢;have sl:(Sm++Tl).length=m + (ns.length - 2 * m):=by rw[List.length_append,rl,tl]
  have bX:Bd M (Sm++Tl):=bS.app bT;generalize Sm++Tl=Sx at sl pr bX ⊢;refine⟨by rw[lM0,sizeLine_eq];lia,?_⟩;walk_at "m4";refine⟨ns,rfl,h64,?_⟩;have gl:(jG ns).length=m:=by unfold jG;rw[ej,hm]
  have bG:Bd (2 * M) (jG ns):=by
   unfold jG;exact qC fun j=>by have a:=bM.gd M0 (2 * j);have b:=bM.gd M0 (2 * j + 1);lia
  generalize jG ns=Gp at gl bG ⊢;walk_at "m4"
 ·rw[show (Rl.lean.word == Str.ofString "lean")=true by decide +kernel];walk_at "m4";rw[show cut (Sx.map D.int) none (some 1)=(Sx.take 1).map D.int from vP (n:=1) (by lia),Ay (by lia),show cut (Sx.map D.int) (some 1) none=(Sx.drop 1).map D.int from iW (n:=1) (by lia)];rw[<- List.length_append,<- List.length_append,<- List.map_append,<- List.map_append];have al:(Sx.take 1++Sx).length=Sx.length + 1:=by rw[List.length_append,List.length_take];lia
  have bl:(Sx.drop 1++Sx.drop (Sx.length - 1)).length=Sx.length:=by rw[List.length_append,List.length_drop,List.length_drop];lia
  have bA:Bd M (Sx.take 1++Sx):=(bX.take _).app bX;have bB:Bd M (Sx.drop 1++Sx.drop (Sx.length - 1)):=(bX.drop _).app (bX.drop _);generalize Sx.take 1++Sx=Ah at al bA ⊢;generalize Sx.drop 1++Sx.drop (Sx.length - 1)=Be at bl bB ⊢;simp only[lM0];rw[Int.toNat_natCast];refine⟨by rw[sizeLine_eq];lia,by rw[sizeLine_eq];lia,by lia,by lia,small (by rw[bz];lia),bZ (fun k ys Γc=>k<=m/\(∃ L:Li,L.length=k/\Bd (4 * M + 4) L/\ys=L.map D.int)/\∃ s,Γc=[fo s,some (.fz (il Ah)),some (.fz (il Be)),some (.fz (il Gp))]) ⟨Nat.zero_le _,⟨[],rfl,Bd.nil,rfl⟩,none,rfl⟩ ?_ ?_⟩
  ·rintro k d ys Γc hd hk ⟨hkm,⟨L,hL,bL',rfl⟩,s,rfl⟩;have g1:=bG.gd (by lia) k;have g2:=bA.gd M0 k;have g3:=bB.gd M0 k;obtain⟨lt,rfl⟩:=ck hd;walk_at "m4";refine bQ.mpr ⟨_,du (k:=k) rfl (by lia),?_⟩;walk_at "m4";refine bQ.mpr ⟨_,du (k:=k) rfl (by lia),?_⟩;walk_at "m4";refine bQ.mpr ⟨_,du (k:=k) rfl (by lia),?_⟩;walk_at "m4";refine⟨⟨by decide,by decide⟩,lt,⟨L++[Gp.getD k 0 - (Ah.getD k 0 - Be.getD k 0 + 2) / 4],by rw[List.length_append,hL];rfl,bL'.app (Bd.one (by lia)),by rw[List.map_append];rfl⟩,some _,rfl⟩
  rintro ys Γc hk ⟨_,⟨L,hL,bL',rfl⟩,s,rfl⟩;rw[bz] at hL;walk_at "m4";refine⟨by rw[lM0,lM0,sizeLine_eq];lia,?_⟩;rw[<- List.map_append];exact q _ (pr _ hL) ((bX.up (by lia)).app bL')
 ·rw[show (Rl.half.word == Str.ofString "lean")=false by decide +kernel];walk_at "m4";refine⟨by rw[lM0,lM0,sizeLine_eq];lia,?_⟩;rw[<- List.map_append];exact q _ (pr _ gl) ((bX.up (by lia)).app (bG.up (by lia)))
noncomputable def mkR (H W:Nat) (f:Nat->Nat->Int):LL:=(List.range H).map fun y=>(List.range W).map fun x=>f y x
noncomputable def en (rows:LL) (y x:Nat):Int:=(rows.getD y []).getD x 0
theorem tO {H W y:Nat} {f:Nat->Nat->Int} (h:y < H):(mkR H W f)[y]?=some ((List.range W).map (f y)):=by unfold mkR;rw[List.getElem?_map,List.getElem?_range h];rfl
theorem mk_congr {H W:Nat} {f g:Nat->Nat->Int} (h:∀ y x,y < H->x < W->f y x=g y x):mkR H W f=mkR H W g:=
 List.map_congr_left fun y hy=>List.map_congr_left fun x hx=>h y x (List.mem_range.mp hy) (List.mem_range.mp hx)
theorem qV {α:Type} {n k:Nat} {v:α} {g:Nat->α}:((List.range n).map g).set k v=(List.range n).map fun i=>if i=k then v else g i:=by
 refine List.ext_getElem? fun i=>?_;rw[List.getElem?_set];by_cases hi:i < n
 ·rw[List.getElem?_map,List.getElem?_map,List.getElem?_range hi];by_cases e:k=i
  ·subst e;rw[if_pos rfl,if_pos (by simpa using hi)];simp
  ·rw[if_neg e];simp [Ne.symm e]
 ·rw[List.getElem?_eq_none (l:=(List.range n).map fun i=>if i=k then v else g i) (by simp;lia)];split
  ·rw[if_neg (by simp;lia)]
  ·exact List.getElem?_eq_none (by simp;lia)
theorem FO {H W y x:Nat} {n:Int} {f:Nat->Nat->Int}:(mkR H W f).set y (((List.range W).map (f y)).set x n)=mkR H W fun y' x'=>if y'=y/\x'=x then n else f y' x':=by
 unfold mkR;rw[qV,qV];refine List.map_congr_left fun i _=>?_;by_cases e:i=y
 ·subst e;rw[if_pos rfl];exact List.map_congr_left fun j _=>by simp
 ·rw[if_neg e];exact List.map_congr_left fun j _=>(if_neg fun z=>e z.1).symm
theorem zi {W:Nat} {row:Li} (h:row.length=W):row=(List.range W).map fun x=>row.getD x 0:=by
 refine List.ext_getElem? fun i=>?_;by_cases hi:i < W
 ·rw[List.getElem?_map,List.getElem?_range hi,gE0 (by lia)];simp [List.getD,show i < row.length by lia]
 ·rw[List.getElem?_eq_none (by lia),List.getElem?_eq_none (by simp;lia)]
theorem FP {H W k:Nat} {row:Li} {g:Nat->Nat->Int} (h:row.length=W):(mkR H W g).set k row=mkR H W fun y x=>if y=k then row.getD x 0 else g y x:=by
 unfold mkR;rw[qV];refine List.map_congr_left fun i _=>?_;by_cases e:i=k
 ·rw[if_pos e]
  conv=>lhs;rw[zi h]
  exact List.map_congr_left fun x _=>(if_pos e).symm
 ·rw[if_neg e];exact List.map_congr_left fun x _=>(if_neg e).symm
noncomputable def hv (R:Rl) (n:Nat) (f:Nat->Int) (x:Nat):Int:=if 2 * x + 1 < n then pv R (f (2 * x)) (f (2 * x + 1)) else lv R (f (2 * x))
theorem tY {R:Rl} {n x:Nat} {f g:Nat->Int} (h:∀ i,i < n->f i=g i) (hx:2 * x < n):hv R n f x=hv R n g x:=by
 unfold hv;split
 ·rw[h _ (by lia),h _ (by lia)]
 ·rw[h _ hx]
def HD (R:Rl) (h w:Nat) (f g:Nat->Nat->Int):Prop:=R≠.guess->∀ y x,y < h->2 * x < w->g y x=hv R w (f y) x
def VD (R:Rl) (h w:Nat) (f g:Nat->Nat->Int):Prop:=R≠.guess->∀ y x,x < w->2 * y < h->g y x=hv R h (fun y=>f y x) y
def SD (R:Rl) (l:Lt) (h w:Nat) (f g:Nat->Nat->Int):Prop:=∃ e,(if l=.p then e=f else HD R h w f e)/\if l=.r then g=e else VD R h w e g
def BF (M:Int) (f:Nat->Nat->Int):Prop:=∀ y x,-M<=f y x/\f y x<=M
theorem BF.up {M N:Int} {f:Nat->Nat->Int} (h:BF M f) (l:M<=N):BF N f:=fun y x=>by have:=h y x;lia
theorem BF.row {M:Int} {f g:Nat->Nat->Int} (h:BF M f) {y n:Nat} (e:∀ x,g y x=f y x):Bd M ((List.range n).map (g y)):=fun v hv=>by
 obtain⟨x,_,rfl⟩:=List.mem_map.mp hv;rw[e];exact h y x
theorem BF.col {M:Int} {f g:Nat->Nat->Int} (h:BF M f) {x n:Nat} (e:∀ y,g y x=f y x):Bd M (rg (fun y=>g y x) n):=qC fun y=>by rw[e];exact h y x
noncomputable def chD (a:Ad):D:=.tup [.adr a.aN,.bl false]
noncomputable def FZ (a:Ad):List D->NR->(NR->Prop)->Prop:=fun ds xss k3=>∃ (R:Rl) (p:Addr) (h0 w0:Int) (ls:List Lt) (k:Nat) (l:Lt) (h w H W:Nat) (f:Nat->Nat->Int) (M:Int),ds=[g9 R h0 w0 ls,.adr p,.int (k:Int),chD a]/\ls.length<=10/\ls[k]?=some l/\cat h0 w0 ls k=((h:Int),(w:Int))/\xss=mkR H W f/\H<=64/\W<=64/\h<=H/\w<=W/\Can l h w/\0<=M/\BF M f/\∀ g,SD R l h w f g->BF (16 * M + 20) g->k3 (mkR H W g)
def DM (a:Ad):TN:=yD 1 (iR1 (eD (mf 4) lX)) (tgN 7) (wC 1 7 5 (oU (dZ ix3 (bor 3) (bof (t3C (D.int 0)))) 2 a.aN rS (qu (bof (dZ ix3 (bor 0) (bof (t3C (D.int 2))))) (qu (bof (sl3 (bof (dZ ix3 (bor 1) (bor 7))) Ac (y_ (bor 5)))) yi))))
def HU (a:Ad):TN:=yD 1 (iR1 (eD (mf 5) lX)) (tgN 8) fun k=>tV 1 9 (oU (dZ ix3 (bor 3) (bof (t3C (D.int 0)))) 2 a.aN rS (qu (bof (dZ ix3 (bor 0) (bof (t3C (D.int 2))))) (qu (bof (qv [none,some 1,some 8] (iR1 (eD (mf 4) lX)) (tgN 0) (dZ ix3 (bof (dZ ix3 (bor 1) (bor 0))) (bor 2)))) yi)))
 (yD 1 (iR1 (eD (mf 4) lX)) (tgN 7) (wB 7 8 (dZ ix3 (bor 9) (bor 7))) k)
noncomputable abbrev stG (a:Ad) (R:Rl) (h0 w0:Int) (ls:List Lt) (p:Addr) (k h w:Nat) (s6 s7 s8 s9:Option D):G:=[some (.fz (.tup [.int h0,.int w0,.str R.word,.str (wy ls)])),some (.fz (.adr p)),some (.fz (.int (k:Int))),some (.fz (.tup [.adr a.aN,.bl false])),some (.fz (.int (h:Int))),some (.fz (.int (w:Int))),fo s6,fo s7,fo s8,fo s9]
theorem B6 {W w:Nat} {g:Nat->Int} (h:w<=W):((List.range W).map g).take w=(List.range w).map g:=by rw[<- List.map_take,List.take_range,Nat.min_eq_left h]
theorem p5 {n i:Nat} {g:Nat->Int} (h:i < n):((List.range n).map g).getD i 0=g i:=by simp [List.getD,h]
theorem wM {R:Rl} {n:Nat} {g:Nat->Int} {L:Li} (r:yM R ((List.range n).map g) L) (hR:R≠.guess) {x:Nat} (hx:2 * x < n):L.getD x 0=hv R n g x:=by
 have e:=r.lo hR x (by simpa using hx);have hl:((List.range n).map g).length=n:=by simp
 rw[hl] at e;rw[e];unfold hv;split
 ·rename_i h;rw[p5 (by lia),p5 (by lia)]
 ·rw[p5 hx]
theorem zh {R:Rl} {h0 w0:Int} {ls:List Lt} {p:Addr} {k h w H W:Nat} {f:Nat->Nat->Int} {kk:G->NR->Prop} {s6 s7 s8 s9:Option D} (H2:H<=64) (W2:W<=64) (lh:h<=H) (lw:w<=W) (w2:2<=w) {M:Int} (M0:0<=M) (bf:BF M f)
  (q:∀ e s7',HD R h w f e->BF (4 * M + 4) e->kk (stG a R h0 w0 ls p k h w s6 s7' s8 s9) (mkR H W e)):DM a kk (stG a R h0 w0 ls p k h w s6 s7 s8 s9) (mkR H W f):=by
 unfold DM;rw[iI];walk_at "m4";rw[Int.toNat_natCast];refine⟨by lia,by lia,kJ (fun m Γ yss=>m<=h/\(∃ e,yss=mkR H W e/\(∀ y x,m<=y->e y x=f y x)/\(R≠.guess->∀ y x,y < m->2 * x < w->e y x=hv R w (f y) x)/\BF (4 * M + 4) e)/\∃ s7,Γ=stG a R h0 w0 ls p k h w s6 s7 s8 s9) ⟨Nat.zero_le _,⟨f,rfl,fun _ _ _=>rfl,fun _ _ _ h=>absurd h (by lia),bf.up (by lia)⟩,s7,rfl⟩ ?_ ?_⟩
 ·rintro m d Γ yss hd ⟨hm,⟨e,rfl,he1,he2,be⟩,s7,rfl⟩;obtain⟨lt,rfl⟩:=ck hd;refine⟨by cases s7 <;> trivial,rfl,?_⟩;show wC 1 7 5 _ _ [some (.fz (.tup [.int h0,.int w0,.str R.word,.str (wy ls)])),some (.fz (.adr p)),some (.fz (.int (k:Int))),some (.fz (.tup [.adr a.aN,.bl false])),some (.fz (.int (h:Int))),some (.fz (.int (w:Int))),fo s6,some (.fz (.int (m:Int))),fo s8,fo s9] _;unfold wC zd;simp only[xh];walk_at "m4";have rk:(mkR H W e)[m]?=some ((List.range W).map (e m)):=tO (by lia);refine bQ.mpr ⟨il ((List.range W).map (e m)),cn (by lia) (by rw[Int.toNat_natCast,List.getElem?_map,rk];rfl),?_⟩;walk_at "m4";have rl:((List.range W).map (e m)).length=W:=by simp
  rw[vP (by lia),B6 lw];refine eA R _ M (hE rfl (by simp;lia) (by simp;lia) M0 (bf.row fun x=>he1 m x (Nat.le_refl _)) (fun L rL bL=>?_));have ll:L.length=w:=by rw[rL.len];simp
  refine⟨L,rfl,m,w,_,rfl,rfl,rk,by lia,by rw[rl,ll,sizeLine_eq];lia,lt,?_⟩;have nl:(L++((List.range W).map (e m)).drop w).length=W:=by rw[List.length_append,List.length_drop,rl,ll];lia
  rw[FP nl];refine⟨⟨_,rfl,fun y x hy=>?_,fun hR y x hy hx=>?_,fun y x=>?_⟩,some (.int (m:Int)),rfl⟩
  ·rw[if_neg (by lia)];exact he1 y x (by lia)
  ·by_cases e':y=m
   ·subst e';rw[if_pos rfl,GD (by lia),wM rL hR hx];exact tY (fun i _=>he1 y i (Nat.le_refl _)) hx
   ·rw[if_neg e'];exact he2 hR y x (by lia) hx
  ·dsimp only;by_cases e':y=m
   ·rw[if_pos e'];exact(bL.app (((be.row (y:=m) fun _=>rfl).drop w))).gd (by lia) x
   ·rw[if_neg e'];exact be y x
 ·rintro Γ yss ⟨hm,⟨e,rfl,he1,he2,be⟩,s7,rfl⟩;rw[bz] at he2;exact q e s7 (fun hR y x hy hx=>he2 hR y x hy hx) be
theorem Cm {R:Rl} {h0 w0:Int} {ls:List Lt} {p:Addr} {k h w H W:Nat} {f:Nat->Nat->Int} {kk:G->NR->Prop} {s6 s7 s8 s9:Option D} (H2:H<=64) (W2:W<=64) (lh:h<=H) (lw:w<=W) (h2:2<=h) {M:Int} (M0:0<=M) (bf:BF M f)
  (q:∀ e s7' s8' s9',VD R h w f e->BF (4 * M + 4) e->kk (stG a R h0 w0 ls p k h w s6 s7' s8' s9') (mkR H W e)):HU a kk (stG a R h0 w0 ls p k h w s6 s7 s8 s9) (mkR H W f):=by
 unfold HU;rw[iI];walk_at "m4";rw[Int.toNat_natCast];refine⟨by lia,by lia,kJ (fun m Γ yss=>m<=w/\(∃ e,yss=mkR H W e/\(∀ y x,m<=x->e y x=f y x)/\(R≠.guess->∀ y x,x < m->2 * y < h->e y x=hv R h (fun y=>f y x) y)/\BF (4 * M + 4) e)/\∃ s7 s8 s9,Γ=stG a R h0 w0 ls p k h w s6 s7 s8 s9) ⟨Nat.zero_le _,⟨f,rfl,fun _ _ _=>rfl,fun _ _ _ h=>absurd h (by lia),bf.up (by lia)⟩,s7,s8,s9,rfl⟩ ?_ ?_⟩
 ·rintro m d Γ yss hd ⟨hm,⟨e,rfl,he1,he2,be⟩,s7,s8,s9,rfl⟩;obtain⟨lt,rfl⟩:=ck hd;refine⟨by cases s8 <;> trivial,rfl,?_⟩;show tV 1 9 _ _ [some (.fz (.tup [.int h0,.int w0,.str R.word,.str (wy ls)])),some (.fz (.adr p)),some (.fz (.int (k:Int))),some (.fz (.tup [.adr a.aN,.bl false])),some (.fz (.int (h:Int))),some (.fz (.int (w:Int))),fo s6,fo s7,some (.fz (.int (m:Int))),fo s9] _;unfold tV zd;simp only[xh];walk_at "m4";rw[Int.toNat_natCast];refine⟨by lia,by lia,small (by rw[bz];lia),bZ (fun i ys Γc=>i<=h/\ys=(List.range i).map (fun y=>D.int (e y m))/\∃ s,Γc=[fo s,some (.fz (.lst ((mkR H W e).map fun ns=>D.lst (ns.map D.int)))),some (.fz (.int (m:Int)))]) ⟨Nat.zero_le _,rfl,none,rfl⟩ ?_ ?_⟩
  ·rintro i d ys Γc hd hy ⟨hi,rfl,s,rfl⟩;obtain⟨li,rfl⟩:=ck hd;walk_at "m4";refine bQ.mpr ⟨il ((List.range W).map (e i)),cn (by lia) (by rw[Int.toNat_natCast,List.getElem?_map,tO (by lia)];rfl),?_⟩;walk_at "m4";refine bQ.mpr ⟨_,du (k:=m) rfl (by simp;lia),?_⟩;rw[p5 (by lia)];walk_at "m4";exact⟨li,snoc rfl,some _,rfl⟩
  rintro ys Γc hy ⟨_,rfl,s,rfl⟩;rw[bz,wI];walk_at "m4";refine eA R _ M (hE rfl (by rw[ej];lia) (by rw[ej];lia) M0 (bf.col fun y=>he1 y m (Nat.le_refl _)) (fun L rL bL=>?_));have ll:L.length=h:=by rw[rL.len,ej]
  refine⟨L,rfl,by simp,?_⟩;show yD 1 _ _ _ _ [some (.fz (.tup [.int h0,.int w0,.str R.word,.str (wy ls)])),some (.fz (.adr p)),some (.fz (.int (k:Int))),some (.fz (.tup [.adr a.aN,.bl false])),some (.fz (.int (h:Int))),some (.fz (.int (w:Int))),fo s6,fo s7,some (.fz (.int (m:Int))),some (.fz (il L))] _;rw[iI];walk_at "m4";rw[Int.toNat_natCast];refine⟨by lia,by lia,kJ (fun j Γ yss=>j<=h/\yss=mkR H W (fun y x=>if x=m/\y < j then L.getD y 0 else e y x)/\∃ s7,Γ=stG a R h0 w0 ls p k h w s6 s7 (some (.int (m:Int))) (some (il L))) ⟨Nat.zero_le _,mk_congr fun y x _ _=>(if_neg (by lia)).symm,s7,rfl⟩ ?_ ?_⟩
  ·rintro j d Γ yss hd ⟨hj,rfl,s7,rfl⟩;obtain⟨lj,rfl⟩:=ck hd;refine⟨by cases s7 <;> trivial,rfl,?_⟩;show wB 7 8 _ _ [some (.fz (.tup [.int h0,.int w0,.str R.word,.str (wy ls)])),some (.fz (.adr p)),some (.fz (.int (k:Int))),some (.fz (.tup [.adr a.aN,.bl false])),some (.fz (.int (h:Int))),some (.fz (.int (w:Int))),fo s6,some (.fz (.int (j:Int))),some (.fz (.int (m:Int))),some (.fz (il L))] _;unfold wB;walk_at "m4";refine bQ.mpr ⟨_,du (k:=j) rfl (by lia),?_⟩;refine⟨_,rfl,j,m,_,rfl,rfl,tO (by lia),by simp;lia,lj,?_,some (.int (j:Int)),rfl⟩;rw[FO];refine mk_congr fun y x _ _=>?_;by_cases c:y=j/\x=m
   ·rw[if_pos c,if_pos ⟨c.2,by lia⟩,c.1]
   ·rw[if_neg c];by_cases c2:x=m/\y < j
    ·rw[if_pos c2,if_pos ⟨c2.1,by lia⟩]
    ·rw[if_neg c2,if_neg (by lia)]
  ·rintro Γ yss ⟨hj,rfl,s7,rfl⟩;rw[bz];refine⟨lt,⟨_,rfl,fun y x hx=>?_,fun hR y x hx hyy=>?_,fun y x=>?_⟩,s7,_,_,rfl⟩
   ·rw[if_neg (by lia)];exact he1 y x (by lia)
   ·by_cases c:x=m
    ·subst c;rw[if_pos ⟨rfl,by lia⟩,wM rL hR hyy];exact tY (fun i _=>he1 i x (Nat.le_refl _)) hyy
    ·rw[if_neg (by lia)];exact he2 hR y x (by lia) hyy
   ·dsimp only;by_cases c:x=m/\y < h
    ·rw[if_pos c];exact bL.gd (by lia) y
    ·rw[if_neg c];exact be y x
 ·rintro Γ yss ⟨hm,⟨e,rfl,he1,he2,be⟩,s7,s8,s9,rfl⟩;rw[bz] at he2;exact q e s7 s8 s9 (fun hR y x hy hx=>he2 hR y x hy hx) be
theorem mX (T:Txt K mg a):aQ P w K mg base CX0 3 a.iR a.gX ["_law_told","_law_rows_here","_law_step","_law_change"] (spN K 4 (FZ a)):=by
 refine okN T.c_.F bj (hbody:=fun cdv A outer s H E hr=>⟨_,_,(rQ (Af (eR (is:=[4,5]) (by rfl) (az (by rfl) (P3.opd (av (by rfl) (er T) hr.dn (by rfl) T.aR.m T.aR.F.kp T.aR.b (aa (P3.opd (p3v 0)) af))) (bv 2) (fun _ _=>rfl)) (aq (ay (i:=4) bj.nd rfl (Or.inl rfl)) (aq (ay (i:=5) bj.nd rfl (Or.inl rfl)) aV)) rfl))
   (iD (oq PassesOwn.never rfl (bP (by rfl) (az (by rfl) (P3.opd (bH (ab (bH (ab ae (ab ae ai))) (ab (bH (ab ae (ab ae ai))) ai)))) (P3.opd (bU lB (by rfl) T.z_int (by decide +kernel) (aa (P3.opd (az (by rfl) (bv 3) (P3.opd ae) (fun _ _=>rfl))) af))) (fun _ _=>rfl))) (aT (i:=6) bj.nd rfl (Or.inl rfl))
   (rQ (DV (P3W.pt (ko (aK (fI (by rfl) hr) (bv 6) (P3.opd ae) (aM _)) (iz (aK (dm (by rfl) hr) (P3.opd (az (by rfl) (P3.opd (az (by rfl) (bv 0) (P3.opd ae) (fun _ _=>rfl))) (bv 2) (fun _ _=>rfl))) (P3.opd bE) (aM _))))) (iD (oq PassesOwn.never rfl (a8 (by rfl) T.z_range (ab (p3v 4) ai)) (aT (i:=7) bj.nd rfl (Or.inl rfl))
   (iD (CI (by decide) (az (by rfl) (bv 1) (bv 7) (fun _ _=>rfl)) (bv 5) (tH T.cu.F (iB T) hr.dn T.cu.b (az (by rfl) (bv 3) (P3.opd ae) (fun _ _=>rfl)) (aa (P3.opd (az (by rfl) (bv 0) (P3.opd ae) (fun _ _=>rfl))) (aa (P3.opd (cP (by rfl) (P3.opd (az (by rfl) (bv 1) (bv 7) (fun _ _=>rfl))) bV (b_ (bv 5)))) af))))))) Ag)
   (iD (DV (P3W.pt (ko (aK (fI (by rfl) hr) (bv 6) (P3.opd ae) (aM _)) (iz (aK (dm (by rfl) hr) (P3.opd (az (by rfl) (P3.opd (az (by rfl) (bv 0) (P3.opd ae) (fun _ _=>rfl))) (bv 2) (fun _ _=>rfl))) (P3.opd bE) (aM _))))) (iD (oq PassesOwn.never rfl (a8 (by rfl) T.z_range (ab (p3v 5) ai)) (aT (i:=8) bj.nd rfl (Or.inr rfl))
   (rQ (Ig (l:=9) (by decide) bj.nd rfl (Or.inl rfl) (tH T.cu.F (iB T) hr.dn T.cu.b (az (by rfl) (bv 3) (P3.opd ae) (fun _ _=>rfl)) (aa (P3.opd (az (by rfl) (bv 0) (P3.opd ae) (fun _ _=>rfl))) (aa (P3.opd (cF rfl (a8 (by rfl) T.z_range (ab (p3v 4) ai)) fJ (fun _ _ _ _ _=>(aT (i:=0) fJ.nd rfl (Or.inl rfl))) (fun _ _ _ _ _=>(az (by rfl) (P3.opd (az (by rfl) (bv 1) (bv 0) (fun _ _=>rfl))) (bv 2) (fun _ _=>rfl))))) af))))
   (iD (oq PassesOwn.never rfl (a8 (by rfl) T.z_range (ab (p3v 4) ai)) (aT (i:=7) bj.nd rfl (Or.inl rfl))
   (iD (CH (by decide) (az (by rfl) (bv 1) (bv 7) (fun _ _=>rfl)) (bv 8) (az (by rfl) (bv 9) (bv 7) (fun _ _=>rfl))))))))) Ag)))))),fun ds xss k3 h hl=>?_⟩)
 obtain⟨R,p,h0,w0,ls,k,l,h,w,H,W,f,M,rfl,hls,hk,hc,rfl,H2,W2,lh,lw,⟨c1,c2⟩,M0,bf,q⟩:=h;unfold g9 chD;show rh 1 _ _ (stG a R h0 w0 ls p k 0 0 none none none none |>.set 4 none |>.set 5 none) _;show rh 1 _ _ [some (.fz (.tup [.int h0,.int w0,.str R.word,.str (wy ls)])),some (.fz (.adr p)),some (.fz (.int (k:Int))),some (.fz (.tup [.adr a.aN,.bl false])),none,none,none,none,none,none] _;unfold rh;walk_at "m4";refine vN R h0 w0 ls (ke rfl hls ?_);walk_at "m4";refine bQ.mpr ⟨_,lE (by have:=dA hk;lia),?_⟩;rw[hc];unfold cD;walk_at "m4";refine⟨trivial,?_⟩;rw[iI];walk_at "m4";have lk:=dA hk;refine⟨sl2 (by decide),sl2 (by decide),sl2 (by decide),kJ (fun m Γ yss=>m<=2/\(∃ e,yss=mkR H W e/\(m=0->e=f)/\(m=1->(if l=.p then e=f else HD R h w f e)/\BF (4 * M + 4) e)/\(m=2->SD R l h w f e/\BF (16 * M + 20) e))/\∃ s6 s7 s8 s9,Γ=stG a R h0 w0 ls p k h w s6 s7 s8 s9) ⟨Nat.zero_le _,⟨f,rfl,fun _=>rfl,fun h=>absurd h (by decide),fun h=>absurd h (by decide)⟩,none,none,none,none,rfl⟩ ?_ ?_⟩
 ·rintro m d Γ yss hd ⟨hm,⟨e,rfl,e0,e1,e2⟩,s6,s7,s8,s9,rfl⟩
  match m,hd with
  | 0,hd=>
   cases hd;have e0:=e0 rfl;subst e0;refine⟨by cases s6 <;> trivial,rfl,?_⟩;show ifN _ _ _ _ [some (.fz (.tup [.int h0,.int w0,.str R.word,.str (wy ls)])),some (.fz (.adr p)),some (.fz (.int (k:Int))),some (.fz (.tup [.adr a.aN,.bl false])),some (.fz (.int (h:Int))),some (.fz (.int (w:Int))),some (.fz (.int 0)),fo s7,fo s8,fo s9] _;unfold ifN;walk_at "m4";refine⟨sl2 (by rw[bu];lia),l,atL hk,?_⟩;have t01:((0:Int) == 1)=false:=rfl;cases l
   case' p=>
    walk_at "m4";unfold Ae;walk_at "m4";rw[t01];walk_at "m4";exact⟨by decide,⟨e,rfl,fun h=>absurd h (by decide),fun _=>⟨rfl,bf.up (by lia)⟩,fun h=>absurd h (by decide)⟩,⟨some (.int 0),rfl⟩,⟨s7,rfl⟩,⟨s8,rfl⟩,⟨s9,rfl⟩⟩
   all_goals
    have w2:2<=w:=by have:=c1 (by decide);lia
    walk_at "m4";refine zh (s6:=some (.int 0)) H2 W2 lh lw w2 M0 bf fun e' s7' hd be=>?_;simp only[stG,show fo (some (D.int 0))=some (Sl.fz (D.int 0)) from rfl];walk_at "m4";rw[t01];walk_at "m4";exact⟨by decide,⟨e',rfl,fun h=>absurd h (by decide),fun _=>⟨hd,be⟩,fun h=>absurd h (by decide)⟩,some (.int 0),s7',s8,s9,rfl⟩
  | 1,hd=>
   cases hd;obtain⟨e1,be1⟩:=e1 rfl;refine⟨by cases s6 <;> trivial,rfl,?_⟩;show ifN _ _ _ _ [some (.fz (.tup [.int h0,.int w0,.str R.word,.str (wy ls)])),some (.fz (.adr p)),some (.fz (.int (k:Int))),some (.fz (.tup [.adr a.aN,.bl false])),some (.fz (.int (h:Int))),some (.fz (.int (w:Int))),some (.fz (.int 1)),fo s7,fo s8,fo s9] _;unfold ifN;walk_at "m4";have t10:((1:Int) == 0)=false:=rfl;rw[t10];walk_at "m4";unfold Ae;walk_at "m4";refine⟨sl2 (by rw[bu];lia),l,atL hk,?_⟩;cases l
   case' r=>
    walk_at "m4";exact⟨by decide,⟨e,rfl,fun h=>absurd h (by decide),fun h=>absurd h (by decide),fun _=>⟨⟨e,e1,by rw[if_pos rfl]⟩,be1.up (by lia)⟩⟩,⟨some (.int 1),rfl⟩,⟨s7,rfl⟩,⟨s8,rfl⟩,⟨s9,rfl⟩⟩
   all_goals
    have h2:2<=h:=by have:=c2 (by decide);lia
    walk_at "m4";exact Cm (s6:=some (.int 1)) H2 W2 lh lw h2 (M:=4 * M + 4) (by lia) be1 fun e' s7' s8' s9' hd be=>⟨by decide,⟨e',rfl,fun h=>absurd h (by decide),fun h=>absurd h (by decide),fun _=>⟨⟨e,e1,by rw[if_neg (by decide)];exact hd⟩,be.up (by lia)⟩⟩,some (.int 1),s7',s8',s9',rfl⟩
 ·rintro Γ yss ⟨hm,⟨e,rfl,e0,e1,e2⟩,s6,s7,s8,s9,rfl⟩;exact q e (e2 rfl).1 (e2 rfl).2
noncomputable def SDs (R:Rl) (h w:Int):List Lt->(Nat->Nat->Int)->(Nat->Nat->Int)->Prop
 | [],f,g=>g=f
 | l::ls,f,g=>∃ e,SD R l h.toNat w.toNat f e/\SDs R (nh l h) (nw l w) ls e g
theorem uG:∀ {ls:List Lt} {R:Rl} {h w:Int} {k:Nat} {l:Lt} {f e g:Nat->Nat->Int},ls[k]?=some l->SDs R h w (ls.take k) f e->SD R l (cat h w ls k).1.toNat (cat h w ls k).2.toNat e g->SDs R h w (ls.take (k + 1)) f g
 | [],_,_,_,k,_,_,_,_,hk,_,_=>by simp at hk
 | l0::ls,R,h,w,0,l,f,e,g,hk,h1,h2=>by
  have:l0=l:=by simpa using hk
  subst this;rw[fH] at h2;have h1:e=f:=h1;subst h1;exact⟨g,h2,rfl⟩
 | l0::ls,R,h,w,k + 1,l,f,e,g,hk,⟨e0,h0,h1⟩,h2=>by
  rw[la] at h2;exact⟨e0,h0,uG (by simpa using hk) h1 h2⟩
noncomputable def rD (rows:LL):D:=.lst (rows.map il)
noncomputable def MB:Nat->Int
 | 0=>100000
 | k + 1=>16 * MB k + 20
theorem MB0:∀ k,0<=MB k
 | 0=>by decide
 | k + 1=>by have:=MB0 k;unfold MB;lia
theorem JJ:∀ k:Nat,k<=10->MB k < 2 ^ 60:=by decide
def CW (a:Ad):S3:=fun Γ Q=>∃ (R:Rl) (h w:Int) (ls:List Lt) (f:Nat->Nat->Int),Γ=[some (.fz (g9 R h w ls)),some (.fz (rD (mkR h.toNat w.toNat f)))]/\hU h w/\Good h w ls/\ls.length<=10/\BF 100000 f/\∀ g,SDs R h w ls f g->BF (MB ls.length) g->Q (.rws (fi (mkR h.toNat w.toNat g))) Γ
theorem oi (T:Txt K mg a):aQ P w K mg base CX0 4 a.jR a.iO ["_law_told","_law_rows_here"] (sp3 K 2 (CW a)):=by
 refine ok3 T.dO.F e9 (hbody:=fun cdv A outer s H E hr=>⟨_,_,(zF 2 (uU (i:=2) e9.nd rfl rfl rfl (bP (by rfl) (p3v 1)) cG (fun _ _ _ _ _=>(aT (i:=0) cG.nd rfl (Or.inl rfl))) (fun _ _ _ _ _=>(bU (Bi (by rfl)) (by rfl) T.z_list (by decide +kernel) (aa (bv 0) af)))) (zW rfl (bP (by rfl) (p3v 1)) cG (fun _ _ _ _ _=>(aT (i:=0) cG.nd rfl (Or.inl rfl))) (fun _ _ _ _ _=>(bU (Bi (by rfl)) (by rfl) T.z_list (by decide +kernel) (aa (bv 0) af)))) (oq PassesOwn.never rfl (a8 (by rfl) T.z_range (ab (aJ (g6 (by rfl)) (by rfl) T.z_len (by decide +kernel) (aa (P3.opd (az (by rfl) (bv 0) (P3.opd ae) (fun _ _=>rfl))) af)) ai)) (aT (i:=3) e9.nd rfl (Or.inl rfl))
   (iD (Ai (mX T) hr.dn (by rfl) T.c_.m T.c_.F.kp T.c_.b (aa (P3.opd (p3v 0)) (aa (P3.opd (p3v 2)) (aa (P3.opd (p3v 3)) (aa (P3.opd (aL (ab (Cy (by rfl) T.cu.m) (ab iA ai)))) af))))))) (p3v 2)),fun Γa Q h hl=>?_⟩)
 refine AQ h ?_;clear h;intro R h w ls f hZ;obtain⟨rfl,sz,g,hls,bf,q⟩:=hZ;unfold g9 rD at *;unfold DT;walk_at "m4";have Hl:(mkR h.toNat w.toNat f).length=h.toNat:=by unfold mkR;simp
 have h1:=sz.h1;have w1:=sz.w1;have h2:=sz.h2;have w2:=sz.w2;refine⟨small (by rw[lM0];lia),yE (fun k ys Γc=>ys=fi ((mkR h.toNat w.toNat f).take k)/\∃ s,Γc=[fo s]) ⟨rfl,none,rfl⟩ ?_ ?_⟩
 ·rintro k d ys Γc hd hk ⟨rfl,s,rfl⟩;obtain⟨v,hv,rfl⟩:=eC hd;walk_at "m4";exact⟨by rw[take_snoc hv,show fi ((mkR h.toNat w.toNat f).take k++[v])=fi ((mkR h.toNat w.toNat f).take k)++fi [v] from List.map_append];rfl,some _,rfl⟩
 ·rintro ys Γc hk ⟨rfl,s,rfl⟩;rw[show (mkR h.toNat w.toNat f).take (List.map il (mkR h.toNat w.toNat f)).length=mkR h.toNat w.toNat f by rw[lM0,List.take_length]];walk_at "m4";refine⟨fun s hs=>?_,_,rfl,fun p=>?_⟩
  ·simp only[List.mem_cons,List.not_mem_nil,or_false,Option.some.injEq,reduceCtorEq] at hs;rcases hs with rfl | rfl <;> exact⟨_,rfl⟩
  rw[iI];walk_at "m4";rw[bu,Int.toNat_natCast];refine⟨sl2 (by lia),by lia,by lia,kJ (fun k Γ yss=>k<=ls.length/\(∃ e,yss=mkR h.toNat w.toNat e/\SDs R h w (ls.take k) f e/\BF (MB k) e)/\∃ s,Γ=[some (.fz (.tup [.int h,.int w,.str R.word,.str (wy ls)])),some (.fz (.lst ((mkR h.toNat w.toNat f).map il))),some (.fz (.adr p)),fo s]) ⟨Nat.zero_le _,⟨f,rfl,rfl,bf⟩,none,rfl⟩ ?_ ?_⟩
  ·rintro k d Γ yss hd ⟨hk,⟨e,rfl,he,be⟩,s,rfl⟩;obtain⟨lt,rfl⟩:=ck hd;obtain⟨l,hl'⟩:∃ l,ls[k]?=some l:=⟨_,gE0 lt⟩;obtain⟨p1,p2,p3,p4⟩:=lg (k:=k) g sz.h1 sz.w1 (by lia);have can:=rW g hl';refine⟨by cases s <;> trivial,rfl,?_⟩;show xB 2 4 _ _ _ [some (.fz (.tup [.int h,.int w,.str R.word,.str (wy ls)])),some (.fz (.lst ((mkR h.toNat w.toNat f).map il))),some (.fz (.adr p)),some (.fz (.int (k:Int)))] _;unfold xB;walk_at "m4";have ce:cat h w ls k=(((cat h w ls k).1.toNat:Int),((cat h w ls k).2.toNat:Int)):=Prod.ext (by show _=(((cat h w ls k).1.toNat:Nat):Int);lia) (by show _=(((cat h w ls k).2.toNat:Nat):Int);lia);refine⟨sl2 (by decide),[_,_,_,_],rfl,p,rfl,rfl,R,p,h,w,ls,k,l,_,_,h.toNat,w.toNat,e,MB k,rfl,hls,hl',ce,rfl,by lia,by lia,by lia,by lia,⟨fun z=>by have:=can.1 z;lia,fun z=>by have:=can.2 z;lia⟩,MB0 k,be,fun g' sd bg=>⟨lt,⟨g',rfl,uG hl' he sd,bg⟩,some (.int (k:Int)),rfl⟩⟩
  ·rintro Γ yss ⟨hk,⟨e,rfl,he,be⟩,s,rfl⟩;rw[bz] at be;rw[bz,List.take_length] at he;exact q e he be
def CU:S3:=fun Γ Q=>∃ (d:D) (R:Rl) (h w:Int) (ls:List Lt),Γ=[some (.ln d),some (.fz (g9 R h w ls)),some (.fz (.lst [.int 1,.int 9,.int 1000,.int 100000]))]/\hU h w/\Box 560 d/\∀ f d',BF 100000 f->Box 9000 d'->Q (.fr (rD (mkR h.toNat w.toNat f))) [some (.ln d'),some (.fz (g9 R h w ls)),some (.fz (.lst [.int 1,.int 9,.int 1000,.int 100000]))]
theorem CM {k W:Nat} {f:Nat->Nat->Int} {L:Li} (h:L.length=W):(mkR k W f).map il++[il L]=(mkR (k + 1) W fun y x=>if y=k then L.getD x 0 else f y x).map il:=by
 have e:mkR (k + 1) W (fun y x=>if y=k then L.getD x 0 else f y x)=mkR k W f++[L]:=by
  unfold mkR;rw[List.range_succ,List.map_append]
  congr 1
  ·refine List.map_congr_left fun y hy=>?_;have:=List.mem_range.mp hy;exact List.map_congr_left fun x _=>if_neg (by lia)
  ·simp only[List.map_cons,List.map_nil]
   congr 1
   conv=>rhs;rw[zi h]
   exact List.map_congr_left fun x _=>if_pos trivial
 rw[e,List.map_append];rfl
theorem rK (T:Txt K mg a):aQ P w K mg base CX0 2 a.mF a.kO ["_law_stream_here","_law_told","_law_far"] (sp3 K 3 CU):=by
 refine ok3 T.fR.F ki (hbody:=fun cdv A outer s H E hr=>⟨_,_,(ag (aD (i:=2) ki.nd rfl (Or.inr rfl) (az (by rfl) (bv 2) (P3.opd (av (by rfl) (aO T) hr.dn (by rfl) T.ak.m T.ak.F.kp T.ak.b (aa (bv 0) (aa (P3.opd (aJ (g6 (by rfl)) (by rfl) T.z_len (by decide +kernel) (aa (bv 2) af))) af)))) (fun _ _=>rfl)))
   (ao (aE (cF rfl (a8 (by rfl) T.z_range (ab (az (by rfl) (bv 1) (P3.opd ae) (fun _ _=>rfl)) ai)) g8 (fun _ _ _ _ _=>(aT (i:=0) g8.nd rfl (Or.inl rfl))) (fun _ _ _ _ _=>(cF rfl (a8 (by rfl) T.z_range (ab (az (by rfl) (bv 3) (P3.opd ae) (fun _ _=>rfl)) ai)) g7 (fun _ _ _ _ _=>(aT (i:=0) g7.nd rfl (Or.inl rfl))) (fun _ _ _ _ _=>(fv (P3.opd (av (by rfl) (aO T) hr.dn (by rfl) T.ak.m T.ak.F.kp T.ak.b (aa (bv 2) (aa (P3.opd (aH (P3.opd (bw (P3.opd ae) (bv 1))) (P3.opd ae))) af)))) (bv 1))))))))),fun Γa Q h hl=>?_⟩)
 refine AQ h ?_;clear h;intro d R h w ls hZ;obtain⟨rfl,sz,hb,q⟩:=hZ;unfold g9 at *;walk_at "m4";refine eA d 560 4 (hE rfl hb (by decide) (by decide) (by decide) (fun r d1 l1 u1 b1=>?_));walk_at "m4";refine pick (p:=fun v=>∃ n:Int,v=.int n/\1<=n/\n<=100000) l1 u1 (fun v hv=>?_) (fun v hv=>?_)
 ·simp only[List.mem_cons,List.not_mem_nil,or_false] at hv;rcases hv with rfl | rfl | rfl | rfl <;> exact⟨_,rfl,by decide,by decide⟩
 obtain⟨n,rfl,n1,n2⟩:=hv;walk_at "m4";have h1:=sz.h1;have w1:=sz.w1;have h2:=sz.h2;have w2:=sz.w2;refine⟨by lia,by lia,small (by rw[bz];lia),bZ (fun k ys Γc=>k<=h.toNat/\(∃ f,ys=(mkR k w.toNat f).map il/\BF 100000 f)/\∃ s d,Box (561 + (k:Int) * 64) d/\Γc=[fo s,some (.fz (.int n)),some (.ln d),some (.fz (.tup [.int h,.int w,.str R.word,.str (wy ls)]))]) ⟨Nat.zero_le _,⟨fun _ _=>0,rfl,fun _ _=>(by decide:(-100000:Int)<=0/\(0:Int)<=100000)⟩,none,d1,b1.up (by lia),rfl⟩ ?_ ?_⟩
 ·rintro k x ys Γc hd hk ⟨hkh,⟨f,rfl,bf⟩,s,dk,bk,rfl⟩;obtain⟨lt,rfl⟩:=ck hd;walk_at "m4";refine⟨by lia,by lia,small (by rw[bz];lia),bZ (fun i ys Γc=>i<=w.toNat/\(∃ L:Li,L.length=i/\Bd 100000 L/\ys=L.map D.int)/\∃ s d,Box (561 + (k:Int) * 64 + (i:Int)) d/\Γc=[fo s,some (.fz (.int n)),some (.ln d)]) ⟨Nat.zero_le _,⟨[],rfl,Bd.nil,rfl⟩,none,dk,bk.up (by lia),rfl⟩ ?_ ?_⟩
  ·rintro i x ys Γc hd hi ⟨hiw,⟨L,hL,bL,rfl⟩,s,di,bi,rfl⟩;obtain⟨lti,rfl⟩:=ck hd;walk_at "m4";refine⟨cm2,eA di _ (2 * n + 1) (hE rfl bi (by lia) (by lia) (by lia) (fun r d2 l2 u2 b2=>?_))⟩;walk_at "m4";exact⟨lti,⟨L++[r - n],by rw[List.length_append,hL];rfl,bL.app (Bd.one (by lia)),by rw[List.map_append];rfl⟩,some (.int (i:Int)),d2,b2.up (by lia),rfl⟩
  ·rintro ys Γc hi ⟨_,⟨L,hL,bL,rfl⟩,s,di,bi,rfl⟩;rw[bz] at hL bi;walk_at "m4";exact⟨lt,⟨_,CM hL,fun y x=>by split <;> first | exact bL.gd (by decide) x | exact bf y x⟩,some (.int (k:Int)),di,bi.up (by lia),rfl⟩
 ·rintro ys Γc hk ⟨_,⟨f,rfl,bf⟩,s,dk,bk,rfl⟩;rw[bz] at bk ⊢;walk_at "m4";exact q f dk bf (bk.up (by lia))
noncomputable def S:List (Int×Int)->(Int->Int)->Int
 | [],_=>0
 | q::B,φ=>q.2 * φ q.1 + S B φ
theorem Es {φ:Int->Int}:∀ (A B:List (Int×Int)),S (A++B) φ=S A φ + S B φ
 | [],B=>by simp [S]
 | q::A,B=>by simp only[List.cons_append,S,Es A B];lia
theorem uF {φ ψ:Int->Int}:∀ B:List (Int×Int),S B (fun p=>φ p + ψ p)=S B φ + S B ψ
 | []=>rfl
 | q::B=>by simp only[S,uF B,Int.mul_add];lia
theorem o9 {c:Int} {φ:Int->Int}:∀ B:List (Int×Int),S B (fun p=>c * φ p)=c * S B φ
 | []=>by simp [S]
 | q::B=>by simp only[S,o9 B,Int.mul_add,Int.mul_left_comm]
theorem eV {φ ψ:Int->Int}:∀ {B:List (Int×Int)},(∀ q∈B,φ q.1=ψ q.1)->S B φ=S B ψ
 | [],_=>rfl
 | q::B,h=>by simp only[S,h q (.head _),eV fun r hr=>h r (.tail _ hr)]
theorem BJ {φ ψ:Int->Int}:∀ {B:List (Int×Int)},(∀ q∈B,0<=q.2/\φ q.1<=ψ q.1)->S B φ<=S B ψ
 | [],_=>Int.le_refl _
 | q::B,h=>by
  have h1:=h q (.head _);have h2:=BJ fun r hr=>h r (.tail _ hr);have h3:=Int.mul_le_mul_of_nonneg_left h1.2 h1.1;simp only[S];lia
theorem jn {c:Int} (B:List (Int×Int)):S B (fun _=>c)=c * S B fun _=>1:=by
 have:=o9 (c:=c) (φ:=fun _=>1) B;simpa using this
theorem JE {c:Int} {φ:Int->Int}:∀ L:List (Int×Int),S (L.map fun q=>(q.1,q.2 * c)) φ=c * S L φ
 | []=>by simp [S]
 | q::L=>by
  rw[List.map_cons,S,S,JE L,Int.mul_add]
  congr 1
  show q.2 * c * φ q.1=c * (q.2 * φ q.1);rw[Int.mul_comm q.2 c,Int.mul_assoc]
theorem BK {g:Int->List (Int×Int)} {φ:Int->Int}:∀ L:List (Int×Int),S (L.flatMap fun d=>(g d.1).map fun c=>(c.1,c.2 * d.2)) φ=S L fun p=>S (g p) φ
 | []=>rfl
 | d::L=>by
  rw[List.flatMap_cons,Es,BK L,JE];rfl
theorem BI {F:Int->Int->Int} {B:List (Int×Int)}:∀ A:List (Int×Int),S A (fun y=>S B fun x=>F y x)=S B fun x=>S A fun y=>F y x
 | []=>by simp only[S];exact(by rw[jn];simp:S B (fun _=>0)=0).symm
 | q::A=>by
  simp only[S];rw[BI A,uF,o9]
noncomputable def EE (A B:List (Int×Int)) (F:Int->Int->Int):Int:=S A fun y=>S B fun x=>F y x
noncomputable def aG (l:Lt) (h w:Int) (F:Int->Int->Int) (y x:Int):Int:=S (cA l h y) fun y'=>S (cb l w x) fun x'=>F y' x'
theorem xP {l:Lt} {ls:List Lt} {h w y x:Int} {F:Int->Int->Int}:EE (ayR h (l::ls) y) (axR w (l::ls) x) F=EE (ayR (nh l h) ls y) (axR (nw l w) ls x) (aG l h w F):=by
 unfold EE;simp only[ayR,axR];rw[BK];refine eV fun q _=>?_;have:(fun y'=>S ((axR (nw l w) ls x).flatMap fun d=>(cb l w d.1).map fun c=>(c.1,c.2 * d.2)) fun x=>F y' x)=fun y'=>S (axR (nw l w) ls x) fun p=>S (cb l w p) fun x=>F y' x:=by funext y';exact BK _
 rw[this,BI];rfl
noncomputable def sgl (ls:List Lt):Nat:=(ls.map fun l=>(if l=.r then 0 else 1) + (if l=.p then 0 else 1)).sum
theorem BL {p n:Int}:S (bI p n) (fun _=>1)=2:=by unfold bI;split <;> simp [S]
theorem Bx:∀ (ls:List Lt) (h y:Int),S (ayR h ls y) (fun _=>1)=2 ^ (ls.map fun l=>if l=.r then 0 else 1).sum
 | [],_,_=>by simp [ayR,S]
 | l::ls,h,y=>by
  have ih:=Bx ls (nh l h) y;simp only[ayR];rw[BK,List.map_cons,List.sum_cons];by_cases e:l=.r
  ·rw[if_pos e,Nat.zero_add,<- ih];exact eV fun q _=>by unfold cA;rw[if_pos e];simp [S]
  ·rw[if_neg e,Nat.add_comm,Int.pow_succ,<- ih,Int.mul_comm,<- jn];exact eV fun q _=>by unfold cA;rw[if_neg e];exact BL
theorem By:∀ (ls:List Lt) (h y:Int),S (axR h ls y) (fun _=>1)=2 ^ (ls.map fun l=>if l=.p then 0 else 1).sum
 | [],_,_=>by simp [axR,S]
 | l::ls,h,y=>by
  have ih:=By ls (nw l h) y;simp only[axR];rw[BK,List.map_cons,List.sum_cons];by_cases e:l=.p
  ·rw[if_pos e,Nat.zero_add,<- ih];exact eV fun q _=>by unfold cb;rw[if_pos e];simp [S]
  ·rw[if_neg e,Nat.add_comm,Int.pow_succ,<- ih,Int.mul_comm,<- jn];exact eV fun q _=>by unfold cb;rw[if_neg e];exact BL
theorem wz:∀ ls:List Lt,sgl ls=(ls.map fun l=>if l=.r then 0 else 1).sum + (ls.map fun l=>if l=.p then 0 else 1).sum
 | []=>rfl
 | l::ls=>by
  have:=wz ls;unfold sgl at this ⊢;simp only[List.map_cons,List.sum_cons];lia
theorem BN (ls:List Lt) (h w y x:Int):EE (ayR h ls y) (axR w ls x) (fun _ _=>1)=2 ^ sgl ls:=by
 unfold EE;rw[jn,Bx,By,wz,Nat.add_comm,Int.pow_add]
noncomputable abbrev toF (f:Nat->Nat->Int):Int->Int->Int:=fun y x=>f y.toNat x.toNat
theorem A6 {R:Rl} {n:Nat} {f:Nat->Int} {x:Nat}:S (bI (x:Int) (n:Int)) (fun p=>f p.toNat)=if 2 * x + 1 < n then f (2 * x) + f (2 * x + 1) else 2 * f (2 * x):=by
 unfold bI;have e1:(2 * (x:Int)).toNat=2 * x:=by lia
 have e2:(2 * (x:Int) + 1).toNat=2 * x + 1:=by lia
 by_cases h:2 * x + 1 < n
 ·rw[if_pos (by lia),if_pos h];simp only[S,e1,e2];lia
 ·rw[if_neg (by lia),if_neg h];simp only[S,e1];lia
theorem nA {n:Nat} {f:Nat->Int} {x:Nat}:S (bI (x:Int) (n:Int)) (fun p=>f p.toNat)=hv .sum n f x:=by
 rw[A6 (R:=.sum)];rfl
theorem k9 {R:Rl} (hR:R=.half\/R=.lean) {n:Nat} {f:Nat->Int} {x:Nat}:0<=S (bI (x:Int) (n:Int)) (fun p=>f p.toNat) - 2 * hv R n f x/\S (bI (x:Int) (n:Int)) (fun p=>f p.toNat) - 2 * hv R n f x<=1:=by
 rw[A6 (R:=R)];unfold hv;have e1:∀ a b,pv R a b=(a + b) / 2:=fun a b=>by rcases hR with rfl | rfl <;> rfl
 have e2:∀ a,lv R a=a:=fun a=>by rcases hR with rfl | rfl <;> rfl
 split
 ·rw[e1];lia
 ·rw[e2];lia
theorem A5 {p n:Nat} (h:2 * p < n):∀ q∈bI (p:Int) (n:Int),0<=q.2/\0<=q.1/\q.1 < n:=by
 intro q hq;unfold bI at hq;split at hq <;> simp at hq
 ·rcases hq with rfl | rfl <;> simp only <;> lia
 ·subst hq;simp only;lia
noncomputable def tl (l:Lt):Nat:=(if l=.r then 0 else 1) + (if l=.p then 0 else 1)
theorem S_1 {y:Int} {φ:Int->Int}:S [(y,1)] φ=φ y:=by simp [S]
theorem y9 {l:Lt} {h w:Nat} {f e:Nat->Nat->Int} (sd:SD .sum l h w f e) {y x:Nat} (hy:(y:Int) < nh l h) (hx:(x:Int) < nw l w):aG l h w (toF f) y x=e y x:=by
 obtain⟨e1,h1,h2⟩:=sd;cases l
 ·have h1:HD .sum h w f e1:=h1;have h2:e=e1:=h2;subst h2;show S [((y:Int),1)] _=_;rw[S_1];show S (bI (x:Int) w) (fun x'=>f ((y:Int)).toNat x'.toNat)=_;rw[Int.toNat_natCast,nA];have hx:(x:Int) < ((w:Int) + 1) / 2:=hx;have hy:(y:Int) < (h:Int):=hy;exact(h1 nofun y x (by lia) (by lia)).symm
 ·have h1:e1=f:=h1;have h2:VD .sum h w e1 e:=h2;subst h1;show S (bI (y:Int) h) (fun y'=>S [((x:Int),1)] fun x'=>e1 y'.toNat x'.toNat)=_;simp only[S_1,Int.toNat_natCast];rw[nA (f:=fun y=>e1 y x)];have hx:(x:Int) < (w:Int):=hx;have hy:(y:Int) < ((h:Int) + 1) / 2:=hy;exact(h2 nofun y x (by lia) (by lia)).symm
 ·have h1:HD .sum h w f e1:=h1;have h2:VD .sum h w e1 e:=h2;have hx:(x:Int) < ((w:Int) + 1) / 2:=hx;have hy:(y:Int) < ((h:Int) + 1) / 2:=hy;show S (bI (y:Int) h) (fun y'=>S (bI (x:Int) w) fun x'=>f y'.toNat x'.toNat)=_;rw[eV (ψ:=fun y'=>e1 y'.toNat x) fun q hq=>?_]
  ·rw[nA (f:=fun y=>e1 y x)];exact(h2 nofun y x (by lia) (by lia)).symm
  ·have:=A5 (n:=h) (p:=y) (by lia) q hq;show S (bI (x:Int) w) (fun x'=>f q.1.toNat x'.toNat)=_;rw[nA];exact(h1 nofun q.1.toNat x (by lia) (by lia)).symm
theorem xS {R:Rl} (hR:R=.half\/R=.lean) {l:Lt} {h w:Nat} {f e:Nat->Nat->Int} (sd:SD R l h w f e) {y x:Nat} (hy:(y:Int) < nh l h) (hx:(x:Int) < nw l w) :
  0<=aG l h w (toF f) y x - 2 ^ tl l * e y x/\2 * (aG l h w (toF f) y x - 2 ^ tl l * e y x)<=(tl l:Int) * 2 ^ tl l:=by
 have hg:R≠.guess:=by rcases hR with rfl | rfl <;> nofun
 obtain⟨e1,h1,h2⟩:=sd;cases l
 ·have h1:HD R h w f e1:=h1;have h2:e=e1:=h2;subst h2;have hx:(x:Int) < ((w:Int) + 1) / 2:=hx;have hy:(y:Int) < (h:Int):=hy;have E:aG .r h w (toF f) y x=S (bI (x:Int) w) (fun x'=>f y x'.toNat):=by
   show S [((y:Int),1)] _=_;rw[S_1];rfl
  have c:=k9 hR (n:=w) (f:=f y) (x:=x);rw[E,h1 hg y x (by lia) (by lia)];show 0<=_ - 2 * _/\2 * (_ - 2 * _)<=1 * 2;lia
 ·have h1:e1=f:=h1;have h2:VD R h w e1 e:=h2;subst h1;have hx:(x:Int) < (w:Int):=hx;have hy:(y:Int) < ((h:Int) + 1) / 2:=hy;have E:aG .p h w (toF e1) y x=S (bI (y:Int) h) (fun y'=>e1 y'.toNat x):=by
   show S (bI (y:Int) h) (fun y'=>S [((x:Int),1)] fun x'=>e1 y'.toNat x'.toNat)=_;simp only[S_1,Int.toNat_natCast]
  have c:=k9 hR (n:=h) (f:=fun y=>e1 y x) (x:=y);rw[E,h2 hg y x (by lia) (by lia)];show 0<=_ - 2 * _/\2 * (_ - 2 * _)<=1 * 2;lia
 ·have h1:HD R h w f e1:=h1;have h2:VD R h w e1 e:=h2;have hx:(x:Int) < ((w:Int) + 1) / 2:=hx;have hy:(y:Int) < ((h:Int) + 1) / 2:=hy;have a1:∀ q∈bI (y:Int) h,0<=q.2/\2 * e1 q.1.toNat x<=S (bI (x:Int) w) (fun x'=>f q.1.toNat x'.toNat)/\S (bI (x:Int) w) (fun x'=>f q.1.toNat x'.toNat)<=2 * e1 q.1.toNat x + 1:=fun q hq=>by
   have c:=A5 (n:=h) (p:=y) (by lia) q hq;have d:=k9 hR (n:=w) (f:=f q.1.toNat) (x:=x);rw[h1 hg q.1.toNat x (by lia) (by lia)];lia
  have b1:S (bI (y:Int) h) (fun y'=>2 * e1 y'.toNat x)<=aG .b h w (toF f) y x:=BJ fun q hq=>⟨(a1 q hq).1,(a1 q hq).2.1⟩;have b2:aG .b h w (toF f) y x<=S (bI (y:Int) h) (fun y'=>2 * e1 y'.toNat x + 1):=BJ fun q hq=>⟨(a1 q hq).1,(a1 q hq).2.2⟩;rw[o9 (φ:=fun y'=>e1 y'.toNat x)] at b1;rw[uF (φ:=fun y'=>2 * e1 y'.toNat x) (ψ:=fun _=>1),o9 (φ:=fun y'=>e1 y'.toNat x),BL] at b2;have c:=k9 hR (n:=h) (f:=fun y=>e1 y x) (x:=y);rw[h2 hg y x (by lia) (by lia)];show 0<=_ - 4 * _/\2 * (_ - 4 * _)<=2 * 4;lia
theorem BO {A B:List (Int×Int)} {F G:Int->Int->Int} (h:∀ q∈A,∀ r∈B,F q.1 r.1=G q.1 r.1):EE A B F=EE A B G:=eV fun q hq=>eV fun r hr=>h q hq r hr
theorem Et {A B:List (Int×Int)} {F G:Int->Int->Int} (ha:∀ q∈A,0<=q.2) (hb:∀ q∈B,0<=q.2) (h:∀ q∈A,∀ r∈B,F q.1 r.1<=G q.1 r.1):EE A B F<=EE A B G:=BJ fun q hq=>⟨ha q hq,BJ fun r hr=>⟨hb r hr,h q hq r hr⟩⟩
theorem wc {A B:List (Int×Int)} {F G:Int->Int->Int} {c:Int}:EE A B (fun y x=>c * F y x + G y x)=c * EE A B F + EE A B G:=by
 unfold EE;have:(fun y=>S B fun x=>c * F y x + G y x)=fun y=>c * S B (F y) + S B (G y):=by
  funext y
  rw[uF (φ:=fun x=>c * F y x) (ψ:=G y),o9]
 rw[this,uF (φ:=fun y=>c * S B (F y)) (ψ:=fun y=>S B (G y)),o9 (φ:=fun y=>S B (F y))]
theorem wj:∀ (ls:List Lt) (h w:Int) (f g:Nat->Nat->Int) (y x:Int),Good h w ls->1<=h->1<=w->SDs .sum h w ls f g->0<=y->y < fh h ls->0<=x->x < fwd w ls->EE (ayR h ls y) (axR w ls x) (toF f)=g y.toNat x.toNat
 | [],h,w,f,g,y,x,_,_,_,sd,_,_,_,_=>by
  have sd:g=f:=sd;subst sd;simp [EE,ayR,axR,S]
 | l::ls,h,w,f,g,y,x,gd,h1,w1,⟨e,sd,sds⟩,y0,y1,x0,x1=>by
  obtain⟨a1,a2,_,_⟩:=se gd.1 h1 w1;rw[xP,<- wj ls (nh l h) (nw l w) e g y x gd.2 a1 a2 sds y0 y1 x0 x1];have r1:=xF ls (nh l h) y y0 y1;have r2:=xG ls (nw l w) x x0 x1;refine BO fun q hq r hr=>?_;have q1:=r1.lo q hq;have q2:=r2.lo r hr;have eh:(h.toNat:Int)=h:=by lia
  have ew:(w.toNat:Int)=w:=by lia
  have:=y9 sd (y:=q.1.toNat) (x:=r.1.toNat) (by rw[eh];lia) (by rw[ew];lia);rw[eh,ew,show ((q.1.toNat:Nat):Int)=q.1 by lia,show ((r.1.toNat:Nat):Int)=r.1 by lia] at this;exact this
theorem DH {l:Lt} {ls:List Lt}:sgl (l::ls)=tl l + sgl ls:=by unfold sgl tl;simp only[List.map_cons,List.sum_cons]
theorem sG {R:Rl} (hR:R=.half\/R=.lean):∀ (ls:List Lt) (h w:Int) (f g:Nat->Nat->Int) (y x:Int),Good h w ls->1<=h->1<=w->SDs R h w ls f g->0<=y->y < fh h ls->0<=x->x < fwd w ls->
  0<=EE (ayR h ls y) (axR w ls x) (toF f) - g y.toNat x.toNat * 2 ^ sgl ls/\2 * (EE (ayR h ls y) (axR w ls x) (toF f) - g y.toNat x.toNat * 2 ^ sgl ls)<=(sgl ls:Int) * 2 ^ sgl ls
 | [],h,w,f,g,y,x,_,_,_,sd,_,_,_,_=>by
  have sd:g=f:=sd;subst sd;simp [EE,ayR,axR,S,sgl]
 | l::ls,h,w,f,g,y,x,gd,h1,w1,⟨e,sd,sds⟩,y0,y1,x0,x1=>by
  obtain⟨a1,a2,_,_⟩:=se gd.1 h1 w1;obtain⟨i1,i2⟩:=sG hR ls (nh l h) (nw l w) e g y x gd.2 a1 a2 sds y0 y1 x0 x1;have r1:=xF ls (nh l h) y y0 y1;have r2:=xG ls (nw l w) x x0 x1;have st:∀ q∈ayR (nh l h) ls y,∀ r∈axR (nw l w) ls x,0<=aG l h w (toF f) q.1 r.1 - 2 ^ tl l * toF e q.1 r.1/\2 * (aG l h w (toF f) q.1 r.1 - 2 ^ tl l * toF e q.1 r.1)<=(tl l:Int) * 2 ^ tl l:=fun q hq r hr=>by
   have q1:=r1.lo q hq;have q2:=r2.lo r hr;have eh:(h.toNat:Int)=h:=by lia
   have ew:(w.toNat:Int)=w:=by lia
   have:=xS hR sd (y:=q.1.toNat) (x:=r.1.toNat) (by rw[eh];lia) (by rw[ew];lia);rw[eh,ew,show ((q.1.toNat:Nat):Int)=q.1 by lia,show ((r.1.toNat:Nat):Int)=r.1 by lia] at this;exact this
  have p1:∀ q∈ayR (nh l h) ls y,0<=q.2:=fun q hq=>by have:=r1.lo q hq;lia
  have p2:∀ q∈axR (nw l w) ls x,0<=q.2:=fun q hq=>by have:=r2.lo q hq;lia
  have l1:=Et p1 p2 (F:=fun y x=>2 ^ tl l * toF e y x + (fun _ _=>0) y x) (G:=aG l h w (toF f)) fun q hq r hr=>by have:=(st q hq r hr).1;show _ + 0<=_;lia
  have l2:=Et p1 p2 (F:=fun y x=>2 * aG l h w (toF f) y x + (fun _ _=>0) y x) (G:=fun y x=>(2 * 2 ^ tl l) * toF e y x + (fun _ _=>(tl l:Int) * 2 ^ tl l) y x) fun q hq r hr=>by
   have:=(st q hq r hr).2;show 2 * aG l h w (toF f) q.1 r.1 + 0<=2 * 2 ^ tl l * toF e q.1 r.1 + (tl l:Int) * 2 ^ tl l;rw[Int.mul_assoc 2 (2 ^ tl l)];lia
  rw[wc] at l1 l2;rw[wc] at l2;have z:EE (ayR (nh l h) ls y) (axR (nw l w) ls x) (fun _ _=>0)=0:=by
   unfold EE;rw[jn,jn];simp
  have c:EE (ayR (nh l h) ls y) (axR (nw l w) ls x) (fun _ _=>(tl l:Int) * 2 ^ tl l)=(tl l:Int) * 2 ^ tl l * 2 ^ sgl ls:=by
   rw[<- BN ls (nh l h) (nw l w) y x];have:=wc (A:=ayR (nh l h) ls y) (B:=axR (nw l w) ls x) (F:=fun _ _=>1) (G:=fun _ _=>0) (c:=(tl l:Int) * 2 ^ tl l);rw[z,Int.add_zero] at this;simpa using this
  rw[z] at l1 l2;rw[c] at l2;rw[xP,DH,Int.pow_add];generalize EE (ayR (nh l h) ls y) (axR (nw l w) ls x) (toF e)=E at i1 i2 l1 l2;generalize EE (ayR (nh l h) ls y) (axR (nw l w) ls x) (aG l h w (toF f))=E2 at l1 l2 ⊢;have pt:(0:Int) < 2 ^ tl l:=Int.pow_pos (by decide);have ps:(0:Int) < 2 ^ sgl ls:=Int.pow_pos (by decide);generalize (2:Int) ^ tl l=t at l1 l2 pt ⊢;generalize (2:Int) ^ sgl ls=s at i1 i2 l2 ps ⊢;generalize g y.toNat x.toNat=N at i1 i2 ⊢;have m1:t * (N * s)<=t * E:=Int.mul_le_mul_of_nonneg_left (by lia) (by lia);have m2:t * (2 * E)<=t * (2 * (N * s) + (sgl ls:Int) * s):=Int.mul_le_mul_of_nonneg_left (by lia) (by lia);have c1:N * (t * s)=t * (N * s):=Int.mul_left_comm N t s;have c2:2 * t * E=t * (2 * E):=by rw[Int.mul_comm 2 t,Int.mul_assoc]
  have c3:t * (2 * (N * s) + (sgl ls:Int) * s)=2 * (t * (N * s)) + t * ((sgl ls:Int) * s):=by rw[Int.mul_add,Int.mul_left_comm]
  have c4:(((tl l + sgl ls:Nat):Int)) * (t * s)=(tl l:Int) * t * s + t * ((sgl ls:Int) * s):=by
   rw[Int.natCast_add,Int.add_mul,Int.mul_assoc,Int.mul_left_comm (sgl ls:Int) t s]
  rw[c1,c4];lia
theorem tX:∀ (xs ys:Li),(xs++ys).sum=xs.sum + ys.sum
 | [],ys=>by simp
 | x::xs,ys=>by rw[List.cons_append,List.sum_cons,List.sum_cons,tX xs ys,Int.add_assoc]
theorem sum_in {F:Int->Int} {c:Int}:∀ B:List (Int×Int),(B.map fun q=>F q.1 * (c * q.2)).sum=c * S B F
 | []=>by simp [S]
 | q::B=>by
  rw[List.map_cons,List.sum_cons,sum_in B,S,Int.mul_add]
  congr 1
  rw[Int.mul_left_comm,Int.mul_comm (F q.1)]
theorem qK {F:Int->Int->Int} {B:List (Int×Int)}:∀ A:List (Int×Int),((crs A B).map fun p=>F p.1 p.2.1 * p.2.2).sum=EE A B F
 | []=>rfl
 | d::A=>by
  have e:crs (d::A) B=(B.map fun q=>((d.1,q.1,d.2 * q.2):PM))++crs A B:=by unfold crs;rw[List.flatMap_cons]
  rw[e,List.map_append,tX,qK A,List.map_map];show (B.map fun q=>F d.1 q.1 * (d.2 * q.2)).sum + _=d.2 * S B (F d.1) + _;rw[sum_in];rfl
theorem vD:∀ (ls:List Lt) (h w:Int) (k:Nat),k<=ls.length->(hs h w ls k).length + (ws h w ls k).length=sgl (ls.take k)
 | ls,_,_,0,_=>rfl
 | [],_,_,k + 1,hk=>by simp at hk
 | l::ls,h,w,k + 1,hk=>by
  have ih:=vD ls (nh l h) (nw l w) k (by simpa using hk);have e:hs h w (l::ls) (k + 1)=(if (some l != some Lt.r)=true then [h] else [])++hs (nh l h) (nw l w) ls k:=by unfold hs;rw[C9];rfl
  have e2:ws h w (l::ls) (k + 1)=(if (some l != some Lt.p)=true then [w] else [])++ws (nh l h) (nw l w) ls k:=by unfold ws;rw[C9];rfl
  rw[List.take_succ_cons,DH,<- ih,e,e2,List.length_append,List.length_append];cases l <;> simp [tl] <;> lia
theorem AU:∀ L:List PM,dD 20 (L.map pmD) (L.map pmD)=some true
 | []=>rfl
 | p::L=>by
  have e:eqN 20 (pmD p) (pmD p)=some true:=by simp [eqN,dD]
  simp only[List.map_cons,dD,e,AU L];rfl
theorem xr (L:List PM):eqN (20 + 1) (.lst (L.map pmD)) (.lst (L.map pmD))=some true:=AU L
theorem Hu {h w:Int} {ls:List Lt} {k:Nat} {y x:Int} (hls:ls.length<=10) (hk:k<=ls.length) (ic:InC h w ls k y x):∀ p∈shF h w ls k y x,0<=p.1/\p.1 < h/\0<=p.2.1/\p.2.1 < w/\0<=p.2.2/\p.2.2<=4194304:=by
 obtain⟨r1,r2⟩:=lL (Nat.zero_le k) hk ic;rw[fH,List.drop_zero] at r1 r2;intro p hp;unfold shF crs at hp;obtain⟨d,hd,hp⟩:=List.mem_flatMap.mp hp;obtain⟨q,hq,rfl⟩:=List.mem_map.mp hp;have h1:=r1.lo d hd;have h2:=r2.lo q hq;have e:=yU (n:=(ls.take k).length) (by rw[List.length_take];lia);have:d.2 * q.2<=2048 * 2048:=Int.mul_le_mul (by lia) (by lia) (by lia) (by decide);have h3:0<=d.2 * q.2:=Int.mul_nonneg (by lia) (by lia);exact⟨h1.1,h1.2.1,h2.1,h2.2.1,h3,this⟩
theorem EN {h w:Int} {ls:List Lt} {k:Nat} {y x:Int} (sz:hU h w) (hk:k<=ls.length) (ic:InC h w ls k y x):(shF h w ls k y x).length<=4096:=by
 obtain⟨r1,r2⟩:=lL (Nat.zero_le k) hk ic;rw[fH,List.drop_zero] at r1 r2;have l1:=r1.len (by have:=sz.h1;lia);have l2:=r2.len (by have:=sz.w1;lia);have h2:=sz.h2;have w2:=sz.w2;unfold shF;rw[nz];have l3:_<=64:=Nat.le_trans l1 (by lia);have l4:_<=64:=Nat.le_trans l2 (by lia);exact Nat.mul_le_mul l3 l4
theorem EM {R:Rl} {h w:Int} {ls:List Lt} {k:Nat} {y x:Nat} {f g:Nat->Nat->Int} (sz:hU h w) (gd:Good h w ls) (hk:k<=ls.length) (ic:InC h w ls k y x) (sd:SDs R h w (ls.take k) f g) :
  ((shF h w ls k y x).map fun p=>p.2.2).sum=2 ^ sgl (ls.take k)/\
  (R=.sum->((shF h w ls k y x).map fun p=>f p.1.toNat p.2.1.toNat * p.2.2).sum=g y x)/\
  (R=.half\/R=.lean->0<=((shF h w ls k y x).map fun p=>f p.1.toNat p.2.1.toNat * p.2.2).sum - g y x * 2 ^ sgl (ls.take k)/\2 * (((shF h w ls k y x).map fun p=>f p.1.toNat p.2.1.toNat * p.2.2).sum - g y x * 2 ^ sgl (ls.take k))<=(sgl (ls.take k):Int) * 2 ^ sgl (ls.take k)):=by
 obtain⟨e1,e2⟩:=vV (ls:=ls) (h:=h) (w:=w) hk;have gt:∀ {ls:List Lt} {h w:Int} {k:Nat},Good h w ls->Good h w (ls.take k):=by
  intro ls
  induction ls with
  | nil=>intro h w k _;simp [Good]
  | cons l ls ih=>
   intro h w k g;cases k with
   | zero=>trivial
   | succ k=>exact⟨g.1,ih g.2⟩
 have s1:=qK (F:=fun _ _=>1) (B:=axR w (ls.take k) x) (ayR h (ls.take k) y);have s2:=qK (F:=toF f) (B:=axR w (ls.take k) x) (ayR h (ls.take k) y);simp only[Int.one_mul] at s1;refine⟨by unfold shF;rw[s1];exact BN _ _ _ _ _,fun hR=>?_,fun hR=>?_⟩
 ·subst hR;have:=wj (ls.take k) h w f g y x (gt gd) sz.h1 sz.w1 sd ic.y0 (by rw[e1];exact ic.y1) ic.x0 (by rw[e2];exact ic.x1);unfold shF;rw[s2,this,Int.toNat_natCast,Int.toNat_natCast]
 ·have:=sG hR (ls.take k) h w f g y x (gt gd) sz.h1 sz.w1 sd ic.y0 (by rw[e1];exact ic.y1) ic.x0 (by rw[e2];exact ic.x1);unfold shF;rw[s2];rw[Int.toNat_natCast,Int.toNat_natCast] at this;exact this
def Av (a:Ad):S3:=fun Γ Q=>∃ (R:Rl) (h w:Int) (ls:List Lt) (k:Nat) (y x:Nat) (f g:Nat->Nat->Int),Γ=[some (.fz (g9 R h w ls)),some (.fz (plD a R h w ls)),some (.fz (.int (k:Int))),some (.fz (pD (y:Int) (x:Int))),some (.fz (rD (mkR h.toNat w.toNat f))),some (.fz (.int (g y x)))]/\hU h w/\Good h w ls/\ls.length<=10/\k<=ls.length/\InC h w ls k y x/\SDs R h w (ls.take k) f g/\BF 100000 f/\(g y x).natAbs < 2 ^ 64/\Q (.fz (.bl true)) Γ
theorem pK (T:Txt K mg a):aQ P w K mg base CX0 5 a.kZ a.jM ["_law_told","_law_plan_here","_law_step","_law_place","_law_rows_here","_law_number"] (sp3 K 6 (Av a)):=by
 refine ok3 T.eM.F cx (hbody:=fun cdv A outer s H E hr=>⟨_,_,(ag (aD (i:=6) cx.nd rfl (Or.inl rfl) (cQ (av (by rfl) (pJ T) hr.dn (by rfl) T.eL.m T.eL.F.kp T.eL.b (aa (P3.opd (p3v 0)) (aa (P3.opd (p3v 2)) (aa (P3.opd (p3v 3)) af))))))
   (ag (aD (i:=7) cx.nd rfl (Or.inl rfl) (av (by rfl) (tI T) hr.dn (by rfl) T.gH.m T.gH.F.kp T.gH.b (aa (P3.opd (p3v 1)) (aa (P3.opd (p3v 2)) (aa (P3.opd (p3v 3)) af)))))
   (ag (b9 (Cu 7 (P3W.pt (lR (cV (cC (aJ (Jk T.ty) (by rfl) T.z_isinstance (by decide +kernel) (aa (bv 7) (aa (P3.opd (n8 (n:="list") (by rfl) T.z_list (by decide +kernel))) af))))) (lR (aK (dm (by rfl) hr) (bv 7) (bv 6) (aM _)) (kn (aK (dm (by rfl) hr) (P3.opd (zX rfl (bP (by rfl) (p3v 7)) dF (fun _ _ _ _ _=>(dC (is:=[0,1]) (by rfl) (aq (ay (i:=0) dF.nd rfl (Or.inl rfl)) (aq (ay (i:=1) dF.nd rfl (Or.inl rfl)) aV)) rfl)) (fun _ _ _ _ _=>(cV (cC (av (by rfl) (pI T) hr.dn (by rfl) T.eJ.m T.eJ.F.kp T.eJ.b (aa (P3.opd (p3v 1)) af))))) (fun _ _ _ _ _=>(p3v 1)))) (P3.opd (bH ai)) (aM _))))))) (ao (aE iA)) bD)
   (ag (gO (zZ 7 (by rfl) (bv 7)))
   (ag (aD (i:=7) cx.nd rfl (Or.inl rfl) (av (by rfl) (tI T) hr.dn (by rfl) T.gH.m T.gH.F.kp T.gH.b (aa (P3.opd (p3v 1)) (aa (P3.opd (p3v 2)) (aa (P3.opd (p3v 3)) af)))))
   (HR (ag (aD (i:=8) cx.nd rfl (Or.inl rfl) (av (by rfl) (mY T) hr.dn (by rfl) T.da.m T.da.F.kp T.da.b (aa (P3.opd (p3v 0)) (aa (P3.opd (p3v 2)) af))))
   (ag (b9 (P3W.pt (lR (aK (dm (by rfl) hr) (bv 7) (bv 6) (aM _)) (kn (aK (dm (by rfl) hr) (P3.opd (aJ (Ej rfl) (by rfl) T.z_sum (by decide +kernel) (aa (P3.opd (cF rfl (bP (by rfl) (p3v 7)) dG (fun _ _ _ _ _=>(dC (is:=[0,1]) (by rfl) (aq (ay (i:=0) dG.nd rfl (Or.inl rfl)) (aq (ay (i:=1) dG.nd rfl (Or.inl rfl)) aV)) rfl)) (fun _ _ _ _ _=>(p3v 1)))) af))) (P3.opd (rA (P3.opd ae) (bv 8))) (aM _))))) (ao (aE iA)) bD)
   (ag (aD (i:=9) cx.nd rfl (Or.inl rfl) (fv (P3.opd (aJ (Ej rfl) (by rfl) T.z_sum (by decide +kernel) (aa (P3.opd (cF rfl (bP (by rfl) (p3v 7)) cM (fun _ _ _ _ _=>(AI (i:=0) (j:=1) (k:=2) (by rfl) rfl (aq (ay (i:=0) cM.nd rfl (Or.inl rfl)) (aq (ay (i:=1) cM.nd rfl (Or.inl rfl)) aV)) (ay (i:=2) cM.nd rfl (Or.inl rfl)))) (fun _ _ _ _ _=>(bw (P3.opd (az (by rfl) (P3.opd (az (by rfl) (bv 3) (bv 0) (fun _ _=>rfl))) (bv 1) (fun _ _=>rfl))) (bv 2))))) af))) (P3.opd (rA (bv 5) (bv 8)))))
   (ag (b9 (aK (fI (by rfl) hr) (P3.opd (az (by rfl) (bv 0) (P3.opd ae) (fun _ _=>rfl))) (P3.opd bE) (aM _)) (ao (aE (cZ (fI (by rfl) hr) (P3.opd (aH (bv 9) (P3.opd (rA (bv 5) (bv 8))))) (bv 5) (aM _)))) bD)
   (ao (aE (DQ (cZ (fI (by rfl) hr) (P3.opd (az (by rfl) (bv 0) (P3.opd ae) (fun _ _=>rfl))) (P3.opd bE) (aM _)) (lS (rF (cZ uu (P3.opd ae) (bv 9) (aM _)) (lS (cZ uu (P3.opd (bw (P3.opd ae) (bv 9))) (P3.opd (rA (bv 8) (bv 8))) (aM _)))))))))))))))))),fun Γa Q h hl=>?_⟩)
 refine Kz h ?_;clear h;intro R h w ls k y x f g hZ;obtain⟨rfl,sz,gd,hls,hk,ic,sd,bf,gb,q⟩:=hZ;unfold g9 rD at q ⊢;walk_at "m4";refine Dc R h w ls k y x (G1 rfl sz gd hls hk ic ?_);walk_at "m4";refine Dc R h w ls k y x (G1 rfl sz gd hls hk ic ?_);walk_at "m4";have inL:=Hu hls hk ic;have lnL:=EN sz hk ic;obtain⟨v1,v2,v3⟩:=EM sz gd hk ic sd;generalize hL:shF h w ls k y x=L at inL lnL v1 v2 v3 ⊢;refine⟨_,rfl,fun k' d' hh=>?_,?_⟩
 ·rcases hh with hh | hh <;> (rcases k' with _ | _ | _ | _ | _ | _ | _ | _ | _ | _ | k' <;> first | rfl | (simp at hh))
 walk_at "m4";refine⟨true,xr L,?_⟩;walk_at "m4";refine gC (fun j ys Γc=>ys=[]/\∃ s0 s1,Γc=[fo s0,fo s1]) ⟨rfl,none,none,rfl⟩ ?_ ?_
 ·rintro j d ys Γc hd ⟨rfl,s0,s1,rfl⟩;obtain⟨v,hv,rfl⟩:=eC hd;walk_at "m4";refine⟨_,rfl,?_⟩;walk_at "m4";exact⟨rfl,some _,some _,rfl⟩
 rintro ys Γc ⟨rfl,s0,s1,rfl⟩;walk_at "m4";refine⟨small (by decide),Nat.zero_le _,Dc R h w ls k y x (G1 rfl sz gd hls hk ic ?_)⟩;rw[hL];have sg:sgl (ls.take k)<=20:=by
  rw[<- vD ls h w k hk];have f1:(hs h w ls k).length<=k:=iJ;have f2:(ws h w ls k).length<=k:=iJ;lia
 walk_at "m4";refine Ha (BQ (i:=7) rfl) ?_;walk_at "m4";refine vM R h w ls k (pU rfl hls hk ?_);rw[vD ls h w k hk];generalize sgl (ls.take k)=t at sg v1 v3 ⊢;walk_at "m4";refine⟨true,xr L,?_⟩;walk_at "m4";refine⟨by rw[lM0,sizeLine_eq];lia,bZ (fun j ys Γc=>ys=((L.take j).map fun p=>p.2.2).map D.int/\∃ s0 s1,Γc=[fo s0,fo s1]) ⟨rfl,none,none,rfl⟩ ?_ ?_⟩
 ·rintro j d ys Γc hd hj ⟨rfl,s0,s1,rfl⟩;obtain⟨v,hv,rfl⟩:=eC hd;walk_at "m4";exact⟨by rw[take_snoc hv,List.map_append,List.map_append];rfl,some _,some _,rfl⟩
 rintro ys Γc hj ⟨rfl,s0,s1,rfl⟩;rw[show L.take (List.map pmD L).length=L by rw[lM0,List.take_length]];walk_at "m4";refine⟨_,rfl,⟨by rw[lM0];lia,fun n hn=>?_⟩,?_⟩
 ·obtain⟨p,hp,rfl⟩:=List.mem_map.mp hn;have:=inL p hp;lia
 rw[v1];walk_at "m4";rw[Int.toNat_natCast,Int.one_mul,show (!((2:Int) ^ t == 2 ^ t))=false by simp];refine⟨⟨by lia,by lia,by decide⟩,?_⟩;walk_at "m4";refine⟨by rw[lM0,sizeLine_eq];lia,bZ (fun j ys Γc=>ys=((L.take j).map fun p=>f p.1.toNat p.2.1.toNat * p.2.2).map D.int/\∃ s0 s1 s2,Γc=[fo s0,fo s1,fo s2,some (.fz (.lst ((mkR h.toNat w.toNat f).map il)))]) ⟨rfl,none,none,none,rfl⟩ ?_ ?_⟩
 ·rintro j d ys Γc hd hj ⟨rfl,s0,s1,s2,rfl⟩;obtain⟨v,hv,rfl⟩:=eC hd;have iv:=inL v (List.mem_of_getElem? hv);refine eA _ _ _ (JA rfl (by cases s0 <;> trivial) (by cases s1 <;> trivial) (by cases s2 <;> trivial) ?_);walk_at "m4";refine bQ.mpr ⟨il ((List.range w.toNat).map (f v.1.toNat)),cn (by lia) (by rw[List.getElem?_map,tO (by lia)];rfl),?_⟩;walk_at "m4";refine bQ.mpr ⟨_,du (k:=v.2.1.toNat) (by lia) (by simp;lia),?_⟩;rw[p5 (by lia)];walk_at "m4";exact⟨.inr ⟨by lia,by lia⟩,by rw[take_snoc hv,List.map_append,List.map_append];rfl,some (.int v.1),some (.int v.2.1),some (.int v.2.2),rfl⟩
 rintro ys Γc hj ⟨rfl,s0,s1,s2,rfl⟩;rw[show L.take (List.map pmD L).length=L by rw[lM0,List.take_length]];walk_at "m4";refine⟨_,rfl,⟨by rw[lM0];lia,fun n hn=>?_⟩,?_⟩
 ·obtain⟨p,hp,rfl⟩:=List.mem_map.mp hn;have iv:=inL p hp;have b:=bf p.1.toNat p.2.1.toNat
  have u1:f p.1.toNat p.2.1.toNat * p.2.2<=100000 * p.2.2:=Int.mul_le_mul_of_nonneg_right (by lia) (by lia);have u2:-100000 * p.2.2<=f p.1.toNat p.2.1.toNat * p.2.2:=Int.mul_le_mul_of_nonneg_right (by lia) (by lia);lia
 generalize (L.map fun p=>f p.1.toNat p.2.1.toNat * p.2.2).sum=E at v2 v3 ⊢;walk_at "m4";refine⟨⟨by lia,by lia,gb⟩,?_⟩;rw[Int.toNat_natCast];have cp:uJ (g y x) (t:Int):=⟨by lia,by lia,gb⟩;have cq:uJ (t:Int) (t:Int):=⟨by lia,by lia,by lia⟩;cases R
 case sum=>
  rw[show (Rl.sum.word == Str.ofString "sum")=true by decide +kernel];walk_at "m4";refine⟨cp,?_⟩;rw[Int.toNat_natCast,show (E - g y x * 2 ^ t + g y x * 2 ^ t == g y x)=true by rw[v2 rfl];simp];exact q
 case guess=>
  rw[show (Rl.guess.word == Str.ofString "sum")=false by decide +kernel];walk_at "m4";rw[show (Rl.guess.word == Str.ofString "guess")=true by decide +kernel];walk_at "m4";exact q
 case' half=>
  rw[show (Rl.half.word == Str.ofString "sum")=false by decide +kernel];walk_at "m4";rw[show (Rl.half.word == Str.ofString "guess")=false by decide +kernel];have v3:=v3 (.inl rfl)
 case' lean=>
  rw[show (Rl.lean.word == Str.ofString "sum")=false by decide +kernel];walk_at "m4";rw[show (Rl.lean.word == Str.ofString "guess")=false by decide +kernel];have v3:=v3 (.inr rfl)
 all_goals
  walk_at "m4";rw[show vL 0 (E - g y x * 2 ^ t)=true from decide_eq_true v3.1];refine⟨cm2,cq,?_⟩;rw[Int.toNat_natCast,show vL (2 * (E - g y x * 2 ^ t)) ((t:Int) * 2 ^ t)=true from decide_eq_true v3.2];exact q
theorem C2 (k n:Nat):Builtin.Str.strSliceIndices none (some (k:Int)) 1 n=List.range (min k n):=by
 unfold Builtin.Str.strSliceIndices sliceRange;have h:¬ ((k:Int) < 0):=by lia
 simp only[h,if_false,show (1:Int) > 0 by decide,if_true];have e:(if (0:Int) < max 0 (min (k:Int) n) then (max 0 (min (k:Int) n) - 0 + 1 - 1) / 1 else 0).toNat=min k n:=by split <;> lia
 rw[e];refine(List.map_congr_left (g:=id) fun j _=>?_).trans (List.map_id _);simp
theorem nU {α:Type} (l:List α):∀ m:Nat,m<=l.length->(List.range m).filterMap (fun i=>l[i]?)=l.take m
 | 0,_=>by simp
 | m + 1,h=>by
  have e:l[m]?=some l[m]:=gE0 (by lia);have e2:List.filterMap (fun i=>l[i]?) [m]=[l[m]]:=by simp [e]
  rw[List.range_succ,List.filterMap_append,nU l m (by lia),e2,List.take_succ,e]
  rfl
theorem yN (ls:List Lt) (k:Nat):Txt.slice (wy ls) none (some (k:Int))=wy (ls.take k):=by
 unfold Txt.slice;rw[C2,bu,List.length_range];by_cases h:ls.length<=k
 ·rw[if_pos (by simp;lia),List.take_of_length_le h]
 ·rw[if_neg (by simp;lia)];unfold wy
  congr 1
  have e:((List.range (min k ls.length)).filterMap fun x=>((ls.map Lt.c).toArray)[x]?)=(ls.take k).map Lt.c:=by
   have:=nU (ls.map Lt.c) (min k ls.length) (by rw[lM0];lia);rw[show min k ls.length=k by lia] at this ⊢;rw[List.map_take,<- this]
   congr 1
   funext x
   rw[List.getElem?_toArray]
  rw[<- e]
theorem FG {z:Str} {k:Str->Prop} (h:k z):oSo (some (.str z)) k:=h
theorem yB:∀ {ls:List Lt} {h w:Int} {k:Nat},Good h w ls->Good h w (ls.take k):=by
 intro ls
 induction ls with
 | nil=>intro h w k _;simp [Good]
 | cons l ls ih=>
  intro h w k g;cases k with
  | zero=>trivial
  | succ k=>exact⟨g.1,ih g.2⟩
theorem CD (T:Txt K mg a):aQ P w K mg base CX0 6 a.AO a.vK ["_law_script"] (sp3 K 1 (D2 63)):=by
 refine ok3 T.G_.F d_ (hbody:=fun cdv A outer s H E hr=>⟨_,_,(ag (fg PassesOwn.never rfl (a8 (by rfl) T.z_range (ab (aJ (El rfl) (by rfl) T.z_max (by decide +kernel) (aa (P3.opd ae) (aa (P3.opd (aJ (Ek rfl) (by rfl) T.z_min (by decide +kernel) (aa (P3.opd ae) (aa (P3.opd (aJ (g6 (by rfl)) (by rfl) T.z_len (by decide +kernel) (aa (bv 0) af))) af)))) af))) ai)) (aT (i:=1) d_.nd rfl (Or.inl rfl))
   (ag (aD (i:=2) d_.nd rfl (Or.inl rfl) (av (by rfl) (oh T) hr.dn (by rfl) T.dN.m T.dN.F.kp T.dN.b (aa (P3.opd (av (by rfl) (rN T) hr.dn (by rfl) T.fU.m T.fU.F.kp T.fU.b (aa (P3.opd (p3v 0)) (aa (P3.opd (p3v 1)) af)))) af)))
   (ag (aD (i:=3) d_.nd rfl (Or.inl rfl) (av (by rfl) (rM T) hr.dn (by rfl) T.fT.m T.fT.F.kp T.fT.b (aa (bv 2) (aa (P3.opd iA) af))))
   (ag (aD (i:=4) d_.nd rfl (Or.inl rfl) (cQ (Cw T.mk_Plan (lV T) hr.dn (by rfl) T.CQ T.gT.b (ab (az (by rfl) (bv 3) (P3.opd ae) (fun _ _=>rfl)) (ab (az (by rfl) (bv 3) (P3.opd ae) (fun _ _=>rfl)) (ab (az (by rfl) (bv 3) (P3.opd ae) (fun _ _=>rfl)) (ab (az (by rfl) (bv 3) (P3.opd ae) (fun _ _=>rfl)) ai)))))))
   (ag (aD (i:=5) d_.nd rfl (Or.inl rfl) (cQ (av (by rfl) (rK T) hr.dn (by rfl) T.fR.m T.fR.F.kp T.fR.b (aa (bv 2) (aa (P3.opd (p3v 3)) (aa (P3.opd (bH (ab ae (ab ae (ab ae (ab (zV (v:=100000) (by decide +kernel) ⟨by decide,by decide,by decide⟩) ai)))))) af))))))
   (ao (fg PassesOwn.never rfl (a8 (by rfl) T.z_range (ab (aH (P3.opd (aJ (g6 (by rfl)) (by rfl) T.z_len (by decide +kernel) (aa (P3.opd (az (by rfl) (bv 3) (P3.opd ae) (fun _ _=>rfl))) af))) (P3.opd ae)) ai)) (aT (i:=6) d_.nd rfl (Or.inl rfl))
   (ag (eR (is:=[7,8]) (by rfl) (az (by rfl) (P3.opd (av (by rfl) (er T) hr.dn (by rfl) T.aR.m T.aR.F.kp T.aR.b (aa (P3.opd (p3v 3)) af))) (bv 6) (fun _ _=>rfl)) (aq (ay (i:=7) d_.nd rfl (Or.inl rfl)) (aq (ay (i:=8) d_.nd rfl (Or.inl rfl)) aV)) rfl)
   (ag (aD (i:=9) d_.nd rfl (Or.inl rfl) (cQ (av (by rfl) (oi T) hr.dn (by rfl) T.dO.m T.dO.F.kp T.dO.b (aa (P3.opd (aL (ab (az (by rfl) (bv 3) (P3.opd ae) (fun _ _=>rfl)) (ab (az (by rfl) (bv 3) (P3.opd ae) (fun _ _=>rfl)) (ab (az (by rfl) (bv 3) (P3.opd ae) (fun _ _=>rfl)) (ab (yf (P3.opd (az (by rfl) (bv 3) (P3.opd ae) (fun _ _=>rfl))) bV (b_ (bv 6))) ai)))))) (aa (P3.opd (p3v 5)) af)))))
   (ao (fg PassesOwn.never rfl (bP (by rfl) (bH (ab (aL (ab (fv (bv 7) (P3.opd ae)) (ab (fv (bv 8) (P3.opd ae)) ai))) (ab (aL (ab (av (by rfl) (aO T) hr.dn (by rfl) T.ak.m T.ak.F.kp T.ak.b (aa (bv 2) (aa (P3.opd (p3v 7)) af))) (ab (av (by rfl) (aO T) hr.dn (by rfl) T.ak.m T.ak.F.kp T.ak.b (aa (bv 2) (aa (P3.opd (p3v 8)) af))) ai))) ai)))) (dC (is:=[10,11]) (by rfl) (aq (ay (i:=10) d_.nd rfl (Or.inl rfl)) (aq (ay (i:=11) d_.nd rfl (Or.inl rfl)) aV)) rfl)
   (ao (b9 (cV (cC (av (by rfl) (pK T) hr.dn (by rfl) T.eM.m T.eM.F.kp T.eM.b (aa (P3.opd (p3v 3)) (aa (P3.opd (p3v 4)) (aa (P3.opd (p3v 6)) (aa (P3.opd (aL (ab (p3v 10) (ab (p3v 11) ai)))) (aa (P3.opd (p3v 5)) (aa (P3.opd (az (by rfl) (P3.opd (az (by rfl) (bv 9) (bv 10) (fun _ _=>rfl))) (bv 11) (fun _ _=>rfl))) af))))))))) (ao (aE iA)) bD)))))))))))))
   (ao (aE iA))),fun Γa Q h hl=>?_⟩)
 obtain⟨ns,rfl,hn,q⟩:=h;walk_at "m4";have m1:fmax 1 (fmin 6 (ns.length:Int))<=6:=by unfold fmax fmin;split <;> split <;> lia
 have m2:1<=fmax 1 (fmin 6 (ns.length:Int)):=by unfold fmax fmin;split <;> split <;> lia
 refine⟨by lia,by lia,cJ (fun k Γ=>∃ s1 s2 s3 s4 s5 s6 s7 s8 s9 s10 s11,Γ=[some (.fz (.scr ns)),fo s1,fw s2,fo s3,fo s4,fo s5,fo s6,fo s7,fo s8,fo s9,fo s10,fo s11]) ⟨none,none,none,none,none,none,none,none,none,none,none,rfl⟩ ?_ ?_⟩
 ·rintro k0 x Γ hd ⟨s1,s2,s3,s4,s5,s6,s7,s8,s9,s10,s11,rfl⟩;obtain⟨lk,rfl⟩:=ck hd;walk_at "m4";refine Dd ns _ (ke rfl (by lia) (fun r0=>?_));walk_at "m4";refine⟨_,rfl,fun d0 b0=>?_⟩;walk_at "m4";refine⟨_,rfl,b0.up (by decide),fun R h w ls d1 sz g hls b1=>?_⟩;unfold g9;walk_at "m4";refine vN R h w ls (JA rfl sz g hls ?_);walk_at "m4";refine⟨sl2 (by decide),vM d1 R h w ls (pU rfl sz b1 (fun f d2 bf b2=>?_))⟩;unfold rD;walk_at "m4";rw[bu];refine⟨sl2 (by lia),by lia,by lia,?_⟩;rw[show ((ls.length:Int) + 1).toNat=ls.length + 1 by lia];refine cJ (fun k Γ=>∃ s6 s7 s8 s9 s10 s11 d,Box (9000 + 2 * (k:Int)) d/\Γ=[some (.fz (.scr ns)),some (.fz (.int (k0:Int))),some (.ow d),some (.fz (.tup [.int h,.int w,.str R.word,.str (wy ls)])),some (.fz (plD a R h w ls)),some (.fz (.lst ((mkR h.toNat w.toNat f).map il))),fo s6,fo s7,fo s8,fo s9,fo s10,fo s11]) ⟨s6,s7,s8,s9,s10,s11,d2,b2.up (by lia),rfl⟩ ?_ ?_
  ·rintro k x Γ hd ⟨s6,s7,s8,s9,s10,s11,dk,bk,rfl⟩;obtain⟨lt,rfl⟩:=ck hd;walk_at "m4";refine vN R h w ls (ke rfl hls ?_);walk_at "m4";refine bQ.mpr ⟨_,lE (by lia),?_⟩;obtain⟨p1,p2,p3,p4⟩:=lg (k:=k) g sz.h1 sz.w1 (by lia);unfold cD;walk_at "m4";unfold Hq;walk_at "m4";refine FG ?_;rw[yN];have tk:(ls.take k).length=k:=by rw[List.length_take];lia
   refine⟨sl2 (by rw[bu];lia),sl2 (by decide),vM R h w (ls.take k) f (hE rfl sz (yB g) (by lia) bf (fun gg sds bG=>?_))⟩;rw[tk] at bG;have mb:=JJ k (by lia);generalize hX:fi (mkR h.toNat w.toNat gg)=X;generalize hF:D.lst ((mkR h.toNat w.toNat f).map il)=Y;simp -dsimp only[kd,fz3,RV.d,RV.sl,j7,j6,vI,vH,true_and,List.set_cons_succ,List.set_cons_zero];have hh2:=sz.h2;have ww2:=sz.w2;generalize hB:(Gr _ _ _:TS3)=B3;simp -dsimp only[xE,qD,oX,uw,wZ,tT,tS,kd,Js,Jo,Jp,Jt,Jr,Jq,List.set_cons_succ,List.set_cons_zero,j7,j6,vI,vH,true_and,List.mapIdx_cons,List.mapIdx_nil,newD,Option.getD_none,List.getElem?_cons_succ,List.getElem?_cons_zero,List.getElem?_nil,Nat.zero_add,Nat.reduceAdd];rw[AK,Ea];unfold iL3;rw[D_,j0,AE,j0];generalize hK:(fun (x:RV) (Γ1:G)=>eD (dZ (i2' fun i j=>D.int (i - j)) (bor 8) (bof (t3C (D.int 1)))) lX Γ1 _)=K1;walk_at "m4";subst hK;dsimp only;rw[j0];generalize hK:(fun (x:RV) (Γ1:G)=>lX Γ1 _)=K1;walk_at "m4";subst hK;dsimp only;rw[xg];refine⟨sl2 (by simp),?_⟩;rw[j0,AE,j0];generalize hK:(fun (x:RV) (Γ1:G)=>eD (oV 2 yY _) lX Γ1 _)=K1;walk_at "m4";refine eA dk _ _ (hE rfl bk (by lia) (by lia) (by lia) (fun r1 e1 l1 u1 b1=>?_));walk_at "m4";subst hK;dsimp only;rw[j0];generalize hK:(fun (x:RV) (Γ1:G)=>lX Γ1 _)=K1;walk_at "m4";refine eA e1 _ _ (hE rfl b1 (by lia) (by lia) (by lia) (fun r2 e2 l2 u2 b2'=>?_));walk_at "m4";subst hK;dsimp only;rw[xg];refine⟨sl2 (by simp),?_⟩;rw[xg];refine⟨sl2 (by simp),_,rfl,?_⟩;subst hB;refine cJ (fun j Γ=>∃ s10 s11,Γ=[some (.fz (.scr ns)),some (.fz (.int (k0:Int))),some (.ow e2),some (.fz (.tup [.int h,.int w,.str R.word,.str (wy ls)])),some (.fz (plD a R h w ls)),some (.fz Y),some (.fz (.int (k:Int))),some (.fz (.int (cat h w ls k).1)),some (.fz (.int (cat h w ls k).2)),some (.fz (.lst (X.map D.lst))),fo s10,fo s11]) ⟨s10,s11,rfl⟩ ?_ ?_
   ·rintro j x Γ hd2 ⟨s10,s11,rfl⟩;obtain⟨yy,xx,rfl,y1,x1⟩:∃ yy xx:Nat,x=.tup [.int (yy:Int),.int (xx:Int)]/\(yy:Int) < (cat h w ls k).1/\(xx:Int) < (cat h w ls k).2:=by
     have:=List.mem_of_getElem? hd2;simp only[List.mem_cons,List.not_mem_nil,or_false] at this;rcases this with rfl | rfl
     ·exact⟨((cat h w ls k).1 - 1).toNat,((cat h w ls k).2 - 1).toNat,by rw[Int.toNat_of_nonneg (by lia),Int.toNat_of_nonneg (by lia)];rfl,by lia,by lia⟩
     ·exact⟨r1.toNat,r2.toNat,by rw[Int.toNat_of_nonneg (by lia),Int.toNat_of_nonneg (by lia)];rfl,by lia,by lia⟩
    walk_at "m4";have a1:atI (X.map D.lst) (yy:Int)=some (il ((List.range w.toNat).map (gg yy))):=by
     rw[<- hX];refine cn (by lia) ?_;unfold fi;rw[Int.toNat_natCast,List.getElem?_map,List.getElem?_map,tO (by lia)];rfl
    refine⟨sl2 (by decide),bQ.mpr ⟨_,a1,?_⟩⟩;walk_at "m4";refine bQ.mpr ⟨_,du (k:=xx) rfl (by simp;lia),?_⟩;rw[p5 (by lia)];walk_at "m4";have bb:=bG yy xx;refine⟨R,h,w,ls,k,yy,xx,f,gg,by rw[<- hF];rfl,sz,g,hls,by lia,⟨by lia,y1,by lia,x1⟩,sds,bf,by lia,?_⟩;walk_at "m4";exact⟨some (.int (yy:Int)),some (.int (xx:Int)),rfl⟩
   ·rintro Γ ⟨s10,s11,rfl⟩;exact⟨some (.int (k:Int)),some (.int (cat h w ls k).1),some (.int (cat h w ls k).2),some (.lst (X.map D.lst)),s10,s11,e2,b2'.up (by lia),rfl⟩
  ·rintro Γ ⟨s6,s7,s8,s9,s10,s11,dk,bk,rfl⟩;walk_at "m4";exact⟨some _,some dk,some _,some _,some _,s6,s7,s8,s9,s10,s11,rfl⟩
 ·rintro Γ ⟨s1,s2,s3,s4,s5,s6,s7,s8,s9,s10,s11,rfl⟩;walk_at "m4";exact q _
theorem ln6 {α:Type} {us:List α} (h:us.length=6):∃ a b c d e f,us=[a,b,c,d,e,f]:=by
 match us,h with
 | [a,b,c,d,e,f],_=>exact⟨a,b,c,d,e,f,rfl⟩
def qM (K:Fg0):Sp:=fun vs H Q _=>∃ (p:Addr) (ns:Li),vs=[.ref p]/\SqL K H p (ns.map V.int)/\ns.length<=63/\∀ H',Q (.bl true) H'
theorem FF (T:Txt K mg a):aQ P w K mg base CX0 6 a.AO a.vK ["_law_script"] (qM K):=Ga (CD T)
set_option bootstrap.genMatcherCode true in
local macro_rules | `(tactic| walk_at "bn")=>`(tactic| (intro _ _ _ _ _ _ us hl;first | (have h:=ln0 hl;subst h;rfl) | (obtain⟨_,h⟩:=ln1 hl;subst h;rfl) | (obtain⟨_,_,h⟩:=ln2 hl;subst h;rfl) | (obtain⟨_,_,_,h⟩:=ln3 hl;subst h;rfl) | (obtain⟨_,_,_,_,h⟩:=ln4 hl;subst h;rfl) | (obtain⟨_,_,_,_,_,h⟩:=ln5 hl;subst h;rfl) | (obtain⟨_,_,_,_,_,_,h⟩:=ln6 hl;subst h;rfl)))
theorem all_mk {l:PySem.W.OpenLaw} {w:World} {K:Fg0} {h:Heap} {mg:SV} {fa:Addr} (X:K.In h) (G:h.Ns mainGlobals mg) (hfa:mg "law"=some (.ref fa))
  {a_:Addr}
  {bN:Addr}
  {a9:Addr}
  {aW:Addr}
  {cN:Addr}
  {aS:Addr} {od_ALONG_PILLARS:Option Addr} {nn_ALONG_PILLARS:Nat} {sl_ALONG_PILLARS:Array (Option Value)} {tk_ALONG_PILLARS_0:Tok} {tk_ALONG_PILLARS_1:Tok}
  {bO:Addr} {od_ALONG_ROWS:Option Addr} {nn_ALONG_ROWS:Nat} {sl_ALONG_ROWS:Array (Option Value)} {tk_ALONG_ROWS_0:Tok} {tk_ALONG_ROWS_1:Tok}
  {f0 f1 f2 f3 f4 f5 f6 f7 f8 f9 f10 f11 f12 f13 f14 f15 f16 f17 f18 f19 f20 f21 f22 f23 f24 f25 f26 f27 f28 f29 f30 f31 f32 f33 f34 f35 f36 f37:Addr} {d0 d1 d2 d3 d4 d5 d6 d7 d8 d9 d10 d11 d12 d13 d14 d15 d16 d17 d18 d19 d20 d21 d22 d23 d24 d25 d26 d27 d28 d29 d30 d31 d32 d33 d34 d35 d36 d37:FuncData}
  {t_MOST_PLACES:Tok}
  {t_MOST_SIDE:Tok}
  (aC_Guessed:PySem.W.nsIn K mainGlobals "Guessed"=some (some (.ref a_)))
  (pg_Guessed:PySem.W.plainGet K a_ Str.empty=true)
  (hd_Guessed:PySem.W.hasDictIn K a_=true)
  (po_Guessed:PySem.W.plainOver K a_=true)
  (sa_Guessed:PySem.W.findIn K (.ref a_) "__setattr__"=some (some (.builtin "object.__setattr__")))
  (mk_Guessed:PySem.W.makesIn K a_=true)
  (kc_Guessed:PySem.W.keepIn K (.ref a_)=true)
  (in_Guessed:PySem.W.findIn K (.ref a_) "__init__"=some (some (.builtin "object.__init__")))
  (aC_Halves:PySem.W.nsIn K mainGlobals "Halves"=some (some (.ref bN)))
  (pg_Halves:PySem.W.plainGet K bN Str.empty=true)
  (hd_Halves:PySem.W.hasDictIn K bN=true)
  (po_Halves:PySem.W.plainOver K bN=true)
  (sa_Halves:PySem.W.findIn K (.ref bN) "__setattr__"=some (some (.builtin "object.__setattr__")))
  (mk_Halves:PySem.W.makesIn K bN=true)
  (kc_Halves:PySem.W.keepIn K (.ref bN)=true)
  (in_Halves:PySem.W.findIn K (.ref bN) "__init__"=some (some (.builtin "object.__init__")))
  (aC_Leaning:PySem.W.nsIn K mainGlobals "Leaning"=some (some (.ref a9)))
  (pg_Leaning:PySem.W.plainGet K a9 Str.empty=true)
  (hd_Leaning:PySem.W.hasDictIn K a9=true)
  (po_Leaning:PySem.W.plainOver K a9=true)
  (sa_Leaning:PySem.W.findIn K (.ref a9) "__setattr__"=some (some (.builtin "object.__setattr__")))
  (mk_Leaning:PySem.W.makesIn K a9=true)
  (kc_Leaning:PySem.W.keepIn K (.ref a9)=true)
  (in_Leaning:PySem.W.findIn K (.ref a9) "__init__"=some (some (.builtin "object.__init__")))
  (aC_Plan:PySem.W.nsIn K mainGlobals "Plan"=some (some (.ref aW)))
  (pg_Plan:PySem.W.plainGet K aW Str.empty=true)
  (hd_Plan:PySem.W.hasDictIn K aW=true)
  (po_Plan:PySem.W.plainOver K aW=true)
  (sa_Plan:PySem.W.findIn K (.ref aW) "__setattr__"=some (some (.builtin "object.__setattr__")))
  (mk_Plan:PySem.W.makesIn K aW=true)
  (kc_Plan:PySem.W.keepIn K (.ref aW)=true)
  (aC_Sums:PySem.W.nsIn K mainGlobals "Sums"=some (some (.ref cN)))
  (pg_Sums:PySem.W.plainGet K cN Str.empty=true)
  (hd_Sums:PySem.W.hasDictIn K cN=true)
  (po_Sums:PySem.W.plainOver K cN=true)
  (sa_Sums:PySem.W.findIn K (.ref cN) "__setattr__"=some (some (.builtin "object.__setattr__")))
  (mk_Sums:PySem.W.makesIn K cN=true)
  (kc_Sums:PySem.W.keepIn K (.ref cN)=true)
  (in_Sums:PySem.W.findIn K (.ref cN) "__init__"=some (some (.builtin "object.__init__")))
  (n_Plan_chosen:PySem.W.findIn K (.ref aW) "chosen"=some none)
  (n_Plan_corners:PySem.W.findIn K (.ref aW) "corners"=some none)
  (n_Plan_letters:PySem.W.findIn K (.ref aW) "letters"=some none)
  (q_ALONG_PILLARS:PySem.W.nsIn K mainGlobals "ALONG_PILLARS"=some (some (.ref aS)))
  (lk_ALONG_PILLARS:K.lookup aS=some ⟨.type "tuple",od_ALONG_PILLARS,.seq #[.str (Str.ofString "p") tk_ALONG_PILLARS_0,.str (Str.ofString "b") tk_ALONG_PILLARS_1] nn_ALONG_PILLARS,sl_ALONG_PILLARS⟩)
  (q_ALONG_ROWS:PySem.W.nsIn K mainGlobals "ALONG_ROWS"=some (some (.ref bO)))
  (lk_ALONG_ROWS:K.lookup bO=some ⟨.type "tuple",od_ALONG_ROWS,.seq #[.str (Str.ofString "r") tk_ALONG_ROWS_0,.str (Str.ofString "b") tk_ALONG_ROWS_1] nn_ALONG_ROWS,sl_ALONG_ROWS⟩)
  (y_bs:PySem.W.kitOne K (.type "bool") (.type "str")=some false)
  (y_is:PySem.W.kitOne K (.type "int") (.type "str")=some false)
  (y_ns:PySem.W.kitOne K (.type "NoneType") (.type "str")=some false)
  (y_ss:PySem.W.kitOne K (.type "str") (.type "str")=some true)
  (y_ls:PySem.W.kitOne K (.type "list") (.type "str")=some false)
  (y_ts:PySem.W.kitOne K (.type "tuple") (.type "str")=some false)
  (y_ds:PySem.W.kitOne K (.type "dict") (.type "str")=some false)
  (F0:FN K "is_whole" "is_whole" jU f0 d0)
  (F1:FN K "is_size" "is_size" lO f1 d1)
  (F2:FN K "is_place_within" "is_place_within" de f2 d2)
  (F3:FN K "check_place" "check_place" gn f3 d3)
  (F4:FM K cN "word" "Sums.word" iw f4 d4)
  (F5:FM K bN "word" "Halves.word" gr f5 d5)
  (F6:FM K a_ "word" "Guessed.word" ff f6 d6)
  (F7:FM K a9 "word" "Leaning.word" fe f7 d7)
  (F8:FN K "all_rules" "all_rules" ij f8 d8)
  (F9:FN K "rule_of" "rule_of" lN f9 d9)
  (F10:FN K "can_halve" "can_halve" ig f10 d10)
  (F11:FN K "corners_of" "corners_of" gK f11 d11)
  (F12:FM K aW "__init__" "Plan.__init__" eg f12 d12)
  (F13:FM K aW "way" "Plan.way" jW f13 d13)
  (F14:FM K aW "steps" "Plan.steps" gN f14 d14)
  (F15:FM K aW "corner" "Plan.corner" gq f15 d15)
  (F16:FN K "counted" "counted" lP f16 d16)
  (F17:FN K "share_ahead" "share_ahead" dQ f17 d17)
  (F18:FN K "share" "share" nj f18 d18)
  (F19:FN K "_law_cell" "_law_cell" ir f19 d19)
  (F20:FN K "_law_stream" "_law_stream" gp f20 d20)
  (F21:FN K "_law_take" "_law_take" ik f21 d21)
  (F22:FN K "_law_size" "_law_size" ip f22 d22)
  (F23:FN K "_law_way" "_law_way" jV f23 d23)
  (F24:FN K "_law_plan" "_law_plan" iq f24 d24)
  (F25:FN K "_law_rows" "_law_rows" fV f25 d25)
  (F26:FN K "_law_corners" "_law_corners" fc f26 d26)
  (F27:FN K "_law_parted" "_law_parted" aX f27 d27)
  (F28:FN K "_law_less" "_law_less" fW f28 d28)
  (F29:FN K "_law_stepped" "_law_stepped" df f29 d29)
  (F30:FN K "_law_halved" "_law_halved" dR f30 d30)
  (F31:FN K "_law_axis" "_law_axis" iu f31 d31)
  (F32:FN K "_law_sizes" "_law_sizes" dg f32 d32)
  (F33:FN K "_law_share" "_law_share" eQ f33 d33)
  (F34:FN K "_law_singles" "_law_singles" e_ f34 d34)
  (F35:FN K "_law_whole" "_law_whole" gM f35 d35)
  (F36:FN K "_law_right" "_law_right" cL f36 d36)
  (F37:FN K "law" "law" ze f37 d37)
  (q_MOST_PLACES:PySem.W.nsIn K mainGlobals "MOST_PLACES"=some (some (.int 512 t_MOST_PLACES)))
  (q_MOST_SIDE:PySem.W.nsIn K mainGlobals "MOST_SIDE"=some (some (.int 64 t_MOST_SIDE)))
  (z_bool:PySem.W.nsIn K mainGlobals "bool"=some none)
  (z_int:PySem.W.nsIn K mainGlobals "int"=some none)
  (z_isinstance:PySem.W.nsIn K mainGlobals "isinstance"=some none)
  (z_len:PySem.W.nsIn K mainGlobals "len"=some none)
  (z_list:PySem.W.nsIn K mainGlobals "list"=some none)
  (z_max:PySem.W.nsIn K mainGlobals "max"=some none)
  (z_min:PySem.W.nsIn K mainGlobals "min"=some none)
  (z_range:PySem.W.nsIn K mainGlobals "range"=some none)
  (z_reversed:PySem.W.nsIn K mainGlobals "reversed"=some none)
  (z_sorted:PySem.W.nsIn K mainGlobals "sorted"=some none)
  (z_str:PySem.W.nsIn K mainGlobals "str"=some none)
  (z_sum:PySem.W.nsIn K mainGlobals "sum"=some none)
  (z_tuple:PySem.W.nsIn K mainGlobals "tuple"=some none)
  (y_bb:PySem.W.kitOne K (.type "bool") (.type "bool")=some true)
  (y_bi:PySem.W.kitOne K (.type "bool") (.type "int")=some true)
  (y_bl:PySem.W.kitOne K (.type "bool") (.type "list")=some false)
  (y_bt:PySem.W.kitOne K (.type "bool") (.type "tuple")=some false)
  (y_ib:PySem.W.kitOne K (.type "int") (.type "bool")=some false)
  (y_ii:PySem.W.kitOne K (.type "int") (.type "int")=some true)
  (y_il:PySem.W.kitOne K (.type "int") (.type "list")=some false)
  (y_it:PySem.W.kitOne K (.type "int") (.type "tuple")=some false)
  (y_nb:PySem.W.kitOne K (.type "NoneType") (.type "bool")=some false)
  (y_ni:PySem.W.kitOne K (.type "NoneType") (.type "int")=some false)
  (y_nl:PySem.W.kitOne K (.type "NoneType") (.type "list")=some false)
  (y_nt:PySem.W.kitOne K (.type "NoneType") (.type "tuple")=some false)
  (y_sb:PySem.W.kitOne K (.type "str") (.type "bool")=some false)
  (y_si:PySem.W.kitOne K (.type "str") (.type "int")=some false)
  (y_sl:PySem.W.kitOne K (.type "str") (.type "list")=some false)
  (y_st:PySem.W.kitOne K (.type "str") (.type "tuple")=some false)
  (y_lb:PySem.W.kitOne K (.type "list") (.type "bool")=some false)
  (y_li:PySem.W.kitOne K (.type "list") (.type "int")=some false)
  (y_ll:PySem.W.kitOne K (.type "list") (.type "list")=some true)
  (y_lt:PySem.W.kitOne K (.type "list") (.type "tuple")=some false)
  (y_tb:PySem.W.kitOne K (.type "tuple") (.type "bool")=some false)
  (y_ti:PySem.W.kitOne K (.type "tuple") (.type "int")=some false)
  (y_tl:PySem.W.kitOne K (.type "tuple") (.type "list")=some false)
  (y_tt:PySem.W.kitOne K (.type "tuple") (.type "tuple")=some true)
  (y_db:PySem.W.kitOne K (.type "dict") (.type "bool")=some false)
  (y_di:PySem.W.kitOne K (.type "dict") (.type "int")=some false)
  (y_dl:PySem.W.kitOne K (.type "dict") (.type "list")=some false)
  (y_dt:PySem.W.kitOne K (.type "dict") (.type "tuple")=some false) :
  ∃ (fd:FuncData) (tabs:List (Addr×Str)),(∀ (s:Shared) (v:Value),BindsTo s fd ⟨[v],[]⟩ [("_law_script",v)])/\(∀ p∈tabs,p.1∈([]:La0)/\K.lookup p.1=none/\∃ c,PySem.W.CodeHd h c p.1)/\∀ base:Heap,K.In base->base.Ns mainGlobals mg->(∀ P q,tabs.lookup P=some q->sD base P q)->aQ l.prog w K mg base CX0 6 fa fd ["_law_script"] (qM K):=by
 have e:=hfa.symm.trans (PySem.W.mg_of X G F37.n);cases e;obtain⟨oc,od,kV,dc,pm,an,cd,ct,sl,rfl,lk,hc⟩:=F37.F.ex;have T:Txt K mg ⟨aS,bO,a_,bN,a9,aW,cN,f0,d0,f1,d1,f2,d2,f3,d3,f4,d4,f5,d5,f6,d6,f7,d7,f8,d8,f9,d9,f10,d10,f11,d11,f12,d12,f13,d13,f14,d14,f15,d15,f16,d16,f17,d17,f18,d18,f19,d19,f20,d20,f21,d21,f22,d22,f23,d23,f24,d24,f25,d25,f26,d26,f27,d27,f28,d28,f29,d29,f30,d30,f31,d31,f32,d32,f33,d33,f34,d34,f35,d35,f36,d36,fa,_⟩:=⟨⟨pg_Guessed,hd_Guessed,po_Guessed,sa_Guessed⟩,
  PySem.W.mg_of X G aC_Guessed,
  ⟨mk_Guessed,in_Guessed,kc_Guessed⟩,
  ⟨pg_Halves,hd_Halves,po_Halves,sa_Halves⟩,
  PySem.W.mg_of X G aC_Halves,
  ⟨mk_Halves,in_Halves,kc_Halves⟩,
  ⟨pg_Leaning,hd_Leaning,po_Leaning,sa_Leaning⟩,
  PySem.W.mg_of X G aC_Leaning,
  ⟨mk_Leaning,in_Leaning,kc_Leaning⟩,
  ⟨pg_Plan,hd_Plan,po_Plan,sa_Plan⟩,
  PySem.W.mg_of X G aC_Plan,
  ⟨pg_Sums,hd_Sums,po_Sums,sa_Sums⟩,
  PySem.W.mg_of X G aC_Sums,
  ⟨mk_Sums,in_Sums,kc_Sums⟩,
  n_Plan_chosen,
  n_Plan_corners,
  n_Plan_letters,
  ⟨PySem.W.mg_of X G q_ALONG_PILLARS,fun F=>.inr ⟨_,_,_,lk_ALONG_PILLARS,rfl,rfl,z2,.cons ⟨_,rfl⟩ (.cons ⟨_,rfl⟩ (.nil))⟩⟩,
  ⟨PySem.W.mg_of X G q_ALONG_ROWS,fun F=>.inr ⟨_,_,_,lk_ALONG_ROWS,rfl,rfl,z2,.cons ⟨_,rfl⟩ (.cons ⟨_,rfl⟩ (.nil))⟩⟩,
  ⟨y_bs,y_is,y_ns,y_ss,y_ls,y_ts,y_ds⟩,
  fx X G F0 (by walk_at "bn"),
  fx X G F1 (by walk_at "bn"),
  fx X G F2 (by walk_at "bn"),
  fx X G F3 (by walk_at "bn"),
  fy F4 (by walk_at "bn"),
  fy F5 (by walk_at "bn"),
  fy F6 (by walk_at "bn"),
  fy F7 (by walk_at "bn"),
  fx X G F8 (by walk_at "bn"),
  fx X G F9 (by walk_at "bn"),
  fx X G F10 (by walk_at "bn"),
  fx X G F11 (by walk_at "bn"),
  fy F12 (by walk_at "bn"),
  fy F13 (by walk_at "bn"),
  fy F14 (by walk_at "bn"),
  fy F15 (by walk_at "bn"),
  fx X G F16 (by walk_at "bn"),
  fx X G F17 (by walk_at "bn"),
  fx X G F18 (by walk_at "bn"),
  fx X G F19 (by walk_at "bn"),
  fx X G F20 (by walk_at "bn"),
  fx X G F21 (by walk_at "bn"),
  fx X G F22 (by walk_at "bn"),
  fx X G F23 (by walk_at "bn"),
  fx X G F24 (by walk_at "bn"),
  fx X G F25 (by walk_at "bn"),
  fx X G F26 (by walk_at "bn"),
  fx X G F27 (by walk_at "bn"),
  fx X G F28 (by walk_at "bn"),
  fx X G F29 (by walk_at "bn"),
  fx X G F30 (by walk_at "bn"),
  fx X G F31 (by walk_at "bn"),
  fx X G F32 (by walk_at "bn"),
  fx X G F33 (by walk_at "bn"),
  fx X G F34 (by walk_at "bn"),
  fx X G F35 (by walk_at "bn"),
  fx X G F36 (by walk_at "bn"),
  fx X G F37 (by walk_at "bn"),
  ⟨mk_Plan,F12.m,F12.i,kc_Plan⟩,
  F6.me,
  F5.me,
  F7.me,
  F13.me,
  F14.me,
  F15.me,
  F4.me,
  ⟨_,PySem.W.mg_of X G q_MOST_PLACES⟩,
  ⟨_,PySem.W.mg_of X G q_MOST_SIDE⟩,
  PySem.W.mg_none_of X G z_bool,
  PySem.W.mg_none_of X G z_int,
  PySem.W.mg_none_of X G z_isinstance,
  PySem.W.mg_none_of X G z_len,
  PySem.W.mg_none_of X G z_list,
  PySem.W.mg_none_of X G z_max,
  PySem.W.mg_none_of X G z_min,
  PySem.W.mg_none_of X G z_range,
  PySem.W.mg_none_of X G z_reversed,
  PySem.W.mg_none_of X G z_sorted,
  PySem.W.mg_none_of X G z_str,
  PySem.W.mg_none_of X G z_sum,
  PySem.W.mg_none_of X G z_tuple,
  ⟨y_bb,y_bi,y_bl,y_bt,y_ib,y_ii,y_il,y_it,y_nb,y_ni,y_nl,y_nt,y_sb,y_si,y_sl,y_st,y_lb,y_li,y_ll,y_lt,y_tb,y_ti,y_tl,y_tt,y_db,y_di,y_dl,y_dt⟩⟩
 exact⟨_,[],fun s v=>.of_eq rfl,(fun p hp=>by cases hp),fun base _ _ _=>FF T⟩
theorem walk {l:PySem.W.OpenLaw} {q:Program} {loose:Ls} {XP:(SV)->Heap->Prop} {YP:World->Heap->Prop} {d:DefRec} {K:Params->Fg0} {ts:La0} (hn:l.most=some 63) (hdf:d.params.defaults=[])
  (hY:∀ (w:World) (h:Heap),YP w h->(K w.params).In h/\∀ P∈ts,h.get? P=some (PySem.W.tabObj #[]))
  (F:∀ (w:World) (mg:SV) (fa:Addr) (h:Heap),(K w.params).In h->h.Ns mainGlobals mg->mg d.name=some (.ref fa)->
   ∃ (fd:FuncData) (tabs:List (Addr×Str)),(∀ (s:Shared) (u:Value),BindsTo s fd ⟨[u],[]⟩ [("_law_script",u)])/\(∀ p∈tabs,p.1∈ts/\(K w.params).lookup p.1=none/\∃ c,PySem.W.CodeHd h c p.1)/\
    ∀ base:Heap,(K w.params).In base->base.Ns mainGlobals mg->(∀ P q,tabs.lookup P=some q->sD base P q)->aQ l.prog w (K w.params) mg base CX0 6 fa fd ["_law_script"] (qM (K w.params))) :
  PySem.W.WalkO q loose XP YP l.row.toRowW d [] (fun f vs=>PySem.call f vs):=
 L2.yQ (n:=63) (k:=6) (x:="_law_script") (CX:=fun _=>CX0) (sp:=qM) hn (by decide) hdf ⟨rfl,by decide,by decide,rfl⟩ hY F (fun _ _ a ns hl _ hS=>⟨a,ns,rfl,hS,hl,fun _=>rfl⟩) fun _ _ _ _ _ z=>z
end
end K33
set_option bootstrap.genMatcherCode true in
local macro_rules | `(tactic| walk_at "fk")=>`(tactic| first | (refine' L2.FN.mk ?k1 ?k2;(case k1=>k_is);(case k2=>refine' L2.AJ ?k3 ?k4 ?k5;(case k3=>k_is);(case k4=>k_is);(case k5=>k_is))) | (refine' L2.FM.mk ?k1 ?k6 ?k2;(case k1=>k_is);(case k6=>k_is);(case k2=>refine' L2.AJ ?k3 ?k4 ?k5;(case k3=>k_is);(case k4=>k_is);(case k5=>k_is))))
namespace PySem.W.Fast
abbrev T:=True
theorem t:T:=trivial
theorem tw1323680267494977118:T:=t
theorem tw10646290756507110611:T:=t
theorem tw1338087601393953963:T:=t
theorem tw6028566925222938601:T:=t
theorem tw8351375425633196651:T:=t
theorem tw8878794613763236644:T:=t
theorem tw16091785537611026908:T:=t
theorem tw15659903196618457259:T:=t
theorem tw126034852346845670:T:=t
theorem tw15815352286395920346:T:=t
theorem tw10593690825883235995:T:=t
theorem tw16954350718047593775:T:=t
theorem tw9580805455449478850:T:=t
theorem tw3120476042548631612:T:=t
theorem tw13526051086350140801:T:=t
theorem tw8864027892644639719:T:=t
theorem tw11980777069690073333:T:=t
theorem tw4060617269387674437:T:=t
theorem tw17215347157316114705:T:=t
theorem tw16314860164516017821:T:=t
theorem tw4301338273947008625:T:=t
theorem tw15944830082181425098:T:=t
theorem tw444741894816878786:T:=t
theorem tw11363537080017583883:T:=t
theorem tw16239812079096559958:T:=t
theorem tw2944802441315204618:T:=t
theorem tw3147755297742155424:T:=t
theorem tw3559592471516837130:T:=t
theorem tw4393505007474617158:T:=t
theorem tw13904110054721696539:T:=t
theorem tw14446230153007749319:T:=t
theorem tw8671284854394718896:T:=t
theorem tw18040436995372322604:T:=t
theorem tw8924183315550954959:T:=t
theorem tw6787070524045083650:T:=t
theorem tw12969984980166384075:T:=t
theorem tw18117221293262065503:T:=t
theorem tw13735267701988925397:T:=t
theorem tw3004638137313405144:T:=t
theorem tw14546214564148438280:T:=t
theorem tw11547046609196309127:T:=t
theorem tw5947675872436415224:T:=t
theorem tw7315861791003907159:T:=t
theorem tw2259080645763920562:T:=t
theorem tw1760324932294524509:T:=t
theorem tw13855096520028066004:T:=t
theorem tw10410026131497962524:T:=t
theorem tw13726083140987573116:T:=t
theorem tw5371501124268179820:T:=t
theorem tw167337239913147430:T:=t
theorem tw17837560971080768141:T:=t
theorem tw7668930281402655900:T:=t
theorem tw17008131152261322311:T:=t
theorem tw14015781926512960499:T:=t
theorem tw9101546689176988966:T:=t
theorem tw7179249791453107701:T:=t
theorem tw13131788006744414538:T:=t
theorem tw3386468468432378908:T:=t
theorem tw2076161171102209625:T:=t
theorem tw13306575504471164764:T:=t
theorem tw15635176584449779313:T:=t
theorem tw16366360916715498525:T:=t
theorem tw15782852852904081619:T:=t
theorem tw4645162640030666550:T:=t
theorem tw4208013724854657787:T:=t
theorem tw4692006440329536740:T:=t
theorem tw6402821415941114461:T:=t
theorem tw7405668411719386865:T:=t
theorem tw13690455633962811666:T:=t
theorem tw16300461758116450715:T:=t
theorem tw4923963693050133627:T:=t
theorem tw15995081108000231848:T:=t
theorem tw9136760100100949743:T:=t
theorem tw8176821397720926619:T:=t
theorem tw8118018785153120661:T:=t
theorem tw5172932824865629181:T:=t
theorem tw5687142024487537552:T:=t
theorem tw14053912602858194293:T:=t
theorem tw13036207424776776413:T:=t
theorem tw12858607369069989332:T:=t
theorem tw8703543983755469206:T:=t
theorem tw3039521501253908198:T:=t
theorem tw7348996019785712334:T:=t
theorem tw3392530230379415888:T:=t
theorem tw11510321729784897406:T:=t
theorem tw2891916592807704752:T:=t
theorem tw17433002492096032034:T:=t
theorem tw14855017030156360069:T:=t
theorem tw127152025005118742:T:=t
theorem tw15823025065089860417:T:=t
theorem tw1558712073764591083:T:=t
theorem tw15992040523662428937:T:=t
theorem tw8872628487438078265:T:=t
theorem tw12323864271057865620:T:=t
theorem tw15044041800542961609:T:=t
theorem tw603436237289880746:T:=t
theorem tw16057272839663800523:T:=t
theorem tw9673585473720973022:T:=t
theorem tw10419115810642837319:T:=t
theorem tw14525578235589277994:T:=t
theorem tw18253234492302482729:T:=t
theorem tw3704828023906579637:T:=t
theorem tw8874274139433893954:T:=t
theorem tw10239084728578296583:T:=t
theorem tw6752268427603743459:T:=t
theorem tw939717800172008237:T:=t
theorem tw4819077900621188832:T:=t
theorem tw2625166612917595826:T:=t
theorem tw1866900990763770689:T:=t
theorem tw13743980796886888834:T:=t
theorem tw8792236471848966608:T:=t
theorem tw2395605879903053321:T:=t
theorem tw13625280474028501667:T:=t
theorem tw862216620910739630:T:=t
theorem tw10464440334980493908:T:=t
theorem tw2435389018996027894:T:=t
theorem tw11900430302149530541:T:=t
theorem tw16720787496250846823:T:=t
theorem tw11235191375376792138:T:=t
theorem tw7861966289796184367:T:=t
theorem tw9063408221404136868:T:=t
theorem tw6428054164113006922:T:=t
theorem tw14633471710606752790:T:=t
theorem tw5456381758082823405:T:=t
theorem tw8061064955755702867:T:=t
theorem tw5827040109545445314:T:=t
theorem tw226223498019306422:T:=t
theorem tw3559748032257808105:T:=t
theorem tw15894483795177480000:T:=t
theorem tw5009637465160790132:T:=t
theorem tw8330843079853574479:T:=t
theorem tw6753985310457095473:T:=t
theorem tw1515539890849142476:T:=t
theorem tw4720364883524010506:T:=t
theorem tw18431581457554030408:T:=t
theorem tw8655200230724689494:T:=t
theorem tw12256324218327482601:T:=t
theorem tw6437715839287705117:T:=t
theorem tw8854357067196903382:T:=t
theorem tw12995892031446622093:T:=t
theorem tw14487656641642621479:T:=t
theorem tw10143538031949789049:T:=t
theorem tw13913948469150071640:T:=t
theorem tw5202517380420309297:T:=t
theorem tw17111877908853214421:T:=t
theorem tw824551837382062207:T:=t
theorem tw11835096937921635339:T:=t
theorem tw16940207659296592899:T:=t
theorem tw9056493935496824130:T:=t
theorem tw13301460436863749877:T:=t
theorem tw4828856637279180590:T:=t
theorem tw9407450946920561009:T:=t
theorem tw658167505250959651:T:=t
theorem tw3959690088321919123:T:=t
theorem tw11380805086497730985:T:=t
theorem tw4059795091657876369:T:=t
theorem tw6715622050664810948:T:=t
theorem tw5367571807937342440:T:=t
theorem tw3972408368148851566:T:=t
theorem tw7393767328094298147:T:=t
theorem tw16904610821181618188:T:=t
theorem tw2481026465667376132:T:=t
theorem tw17875402029991693097:T:=t
theorem tw3400506581989683695:T:=t
theorem tw12070868119134362989:T:=t
theorem tw2712063572068558649:T:=t
theorem tw12929806400780077531:T:=t
theorem tw8006500199587873247:T:=t
theorem tw14399279621520470119:T:=t
theorem tw15916109652727638774:T:=t
theorem tw10952362237864036441:T:=t
theorem tw12305491487817372039:T:=t
theorem tw13175735784369087759:T:=t
theorem tw13297649291249936152:T:=t
theorem tw9204807041413314030:T:=t
theorem tw886997605863315005:T:=t
theorem tw10762631294801641608:T:=t
theorem tw17084207069231753432:T:=t
theorem tw11647357435307974579:T:=t
theorem tw11775776458065192117:T:=t
theorem tw9996135860463509810:T:=t
theorem tw17306040283951834556:T:=t
theorem tw15344872402164852715:T:=t
theorem tw3146870334507464811:T:=t
theorem tw5589846714286955705:T:=t
theorem tw13373853216364124244:T:=t
theorem tw5453033000956410356:T:=t
theorem tw981622262220712860:T:=t
theorem tw11531514434222131113:T:=t
theorem tw14980705027618017114:T:=t
theorem tw11988337703928409602:T:=t
theorem tw2068085134754888067:T:=t
theorem tw5934990695311081422:T:=t
theorem tw6536471441896498155:T:=t
theorem tw8073106489669337528:T:=t
theorem tw1656931439490954571:T:=t
theorem tw2216409942943558018:T:=t
theorem tw5480178301182192267:T:=t
theorem tw2905532264008927185:T:=t
theorem tw16746431882728420087:T:=t
theorem tw18069040841598877728:T:=t
theorem tw3399797753858552565:T:=t
theorem tw15356154605380530774:T:=t
theorem tw1834569366007793788:T:=t
theorem tw6779194726001896606:T:=t
theorem tw13757183855454129980:T:=t
theorem tw8957943195540619781:T:=t
theorem tw17737822250011703855:T:=t
theorem tw9243725331713618058:T:=t
theorem tw5398686024521657988:T:=t
theorem tw15872161677478655779:T:=t
theorem tw3090474412164397022:T:=t
theorem tw4110255564744157775:T:=t
theorem tw7842194383110240431:T:=t
theorem tw7616948942107813374:T:=t
theorem tw2816359389344926622:T:=t
theorem tw12633599920758081884:T:=t
theorem tw825912697506396302:T:=t
theorem tw17485332125787715967:T:=t
theorem tw10419035793198039261:T:=t
theorem tw13791612525415229309:T:=t
theorem tw6643321391719626077:T:=t
theorem tw10042391924167455341:T:=t
theorem tw15278297870495832561:T:=t
theorem tw7148093715702250892:T:=t
theorem tw10549980288276747277:T:=t
theorem tw12837823597349942046:T:=t
theorem tw8940104241206906637:T:=t
theorem tw14862550942454970558:T:=t
theorem tw11630913466891212698:T:=t
theorem tw4333771459128479391:T:=t
theorem tw2034721535011593350:T:=t
theorem tw1537871699347962105:T:=t
theorem tw4617215029304127674:T:=t
theorem tw14438008079178151959:T:=t
theorem tw3886156980916262916:T:=t
theorem tw15172331416704100023:T:=t
theorem tw15450946315092138551:T:=t
theorem tw16347309259554234300:T:=t
theorem tw6732914412916076519:T:=t
theorem tw7689206967524012549:T:=t
theorem tw2126115861566945275:T:=t
theorem tw17364488810565619131:T:=t
theorem tw6502900551403858882:T:=t
theorem tw2552718233247630159:T:=t
theorem tw12174691546814318509:T:=t
theorem tw15313428664565318882:T:=t
theorem tw5053055848283157731:T:=t
theorem tw17947187595359152795:T:=t
theorem tw11099546802493822613:T:=t
theorem tw1639691305850398864:T:=t
theorem tw5207082518828671560:T:=t
theorem tw3409838442249733080:T:=t
theorem tw12445854854599507203:T:=t
theorem tw15550056181785206654:T:=t
theorem tw13503654263370416084:T:=t
theorem tw18368464861803236196:T:=t
theorem tw515797890947981741:T:=t
theorem tw8461415466357773556:T:=t
theorem tw15433553601923176775:T:=t
theorem tw6410416617317034797:T:=t
theorem tw5646277173323507377:T:=t
theorem tw3302792471197652747:T:=t
theorem tw12849110361139508780:T:=t
theorem tw14859761224546783478:T:=t
theorem tw2254614694416773289:T:=t
theorem tw14112474616346029808:T:=t
theorem tw13057680741146308369:T:=t
theorem tw4211375214697072462:T:=t
theorem tw6868896974648532771:T:=t
theorem tw458450757621167590:T:=t
theorem tw8836235072186040753:T:=t
theorem tw5840120425064782863:T:=t
theorem tw6906978689170060810:T:=t
theorem tw18167441295152501802:T:=t
theorem tw9591737382966086618:T:=t
theorem tw15297793605253279858:T:=t
theorem tw18366893296794029773:T:=t
theorem tw8775480547664691159:T:=t
theorem tw6871459430919338950:T:=t
theorem tw13320628871246837819:T:=t
theorem tw12672049716970211069:T:=t
theorem tw9427065591017227333:T:=t
theorem tw7914137142028014582:T:=t
theorem tw10950586089851200896:T:=t
theorem tw16064793126345803529:T:=t
theorem tw17432789175948087152:T:=t
theorem tw1835742120394125193:T:=t
theorem tw5764782460425848267:T:=t
theorem tw11413472924131961217:T:=t
theorem tw18216890303588583403:T:=t
theorem tw883472806251300154:T:=t
theorem tw14559799839792185304:T:=t
theorem tw11829666524660648738:T:=t
theorem tw702671517706887774:T:=t
theorem tw4341055380027621715:T:=t
theorem tw4873259062177634526:T:=t
theorem tw3245803349682296281:T:=t
theorem tw1408915300468890010:T:=t
theorem tw16186817590491610092:T:=t
theorem tw1108958916983834233:T:=t
theorem tw6677498622346529397:T:=t
theorem tw17649410743739750216:T:=t
theorem tw15076099238070526187:T:=t
theorem tw2669518401208212233:T:=t
theorem tw5635667472335149105:T:=t
theorem tw17995642940260644455:T:=t
theorem tw17546694531028302484:T:=t
theorem tw11373400220573897813:T:=t
theorem tw14175377818978006454:T:=t
theorem tw6684475229168266427:T:=t
theorem tw5130994293366313399:T:=t
theorem tw1101148352648689300:T:=t
theorem tw16997886685426248310:T:=t
theorem tw6437485708033840510:T:=t
theorem tw12255765721212553496:T:=t
theorem tw15224853743341950551:T:=t
theorem tw16676702193792810167:T:=t
theorem tw7865294017793536639:T:=t
theorem tw14242518402269817270:T:=t
theorem tw10998207612118465436:T:=t
theorem tw12438451160092976352:T:=t
theorem tw14862952360284543411:T:=t
theorem tw14081394563338317654:T:=t
theorem tw14019831505322133025:T:=t
theorem tw8162145293292890657:T:=t
theorem tw2087795005939169779:T:=t
theorem tw7589762988290595715:T:=t
theorem tw9546047634392224132:T:=t
theorem tw5960436907623341454:T:=t
theorem tw10706854934338500714:T:=t
theorem tw261076260888258786:T:=t
theorem tw4430807082124677324:T:=t
theorem tw12895183788411528923:T:=t
theorem tw1157907522991815275:T:=t
theorem tw5675944702155726545:T:=t
theorem tw4652363485619839283:T:=t
theorem tw1912297143334308100:T:=t
theorem tw1592749229516158126:T:=t
theorem tw11951232823263392008:T:=t
theorem tw16671467468536354528:T:=t
theorem tw7096871887509988683:T:=t
theorem tw13406085259767748012:T:=t
theorem tw15056145236220638206:T:=t
theorem tw10918667154569371391:T:=t
theorem tw7174169469321703972:T:=t
theorem tw3345177708823750720:T:=t
theorem tw12827426785266674868:T:=t
theorem tw4618033901513725602:T:=t
theorem tw3285137325759557960:T:=t
theorem tw11132460541918364840:T:=t
theorem tw18278988552582452926:T:=t
theorem tw5439257487122996238:T:=t
theorem tw6737081063315431790:T:=t
theorem tw4223011783798229737:T:=t
theorem tw4854880483494980599:T:=t
theorem tw17815711413954921026:T:=t
theorem tw5795571775697594312:T:=t
theorem tw11701715047195827871:T:=t
theorem tw335663959673550830:T:=t
theorem tw14259675528090848296:T:=t
theorem tw213293052808465642:T:=t
theorem tw1330374770519852608:T:=t
theorem tw15210877777146170551:T:=t
theorem tw17960154608705799152:T:=t
theorem tw472455497292046398:T:=t
theorem tw16750407034728933103:T:=t
theorem tw5351067449322431731:T:=t
theorem tw299440676178776999:T:=t
theorem tw4739290750423883278:T:=t
theorem tw16598529684374141000:T:=t
theorem tw12956050601735318795:T:=t
theorem tw13094872804197440534:T:=t
theorem tw16403071352552051377:T:=t
theorem tw15499712029086241386:T:=t
theorem tw9344408769922711277:T:=t
theorem tw11139626578029968213:T:=t
theorem tw2468322066140390073:T:=t
theorem tw16247586031225733609:T:=t
theorem tw14581394039741989119:T:=t
theorem tw3789961904036948376:T:=t
theorem tw11932210865740122310:T:=t
theorem tw18064019914791636075:T:=t
theorem tw2533117435263977021:T:=t
theorem tw15801291761380758169:T:=t
theorem tw8633774396539799777:T:=t
theorem tw3673296105140110565:T:=t
theorem tw9239726589154070024:T:=t
theorem tw18054766306106519698:T:=t
theorem tw10760652718929149615:T:=t
theorem tw10556209975710421014:T:=t
theorem tw17527654394364464603:T:=t
theorem tw7941395898031075767:T:=t
theorem tw750551955540092559:T:=t
theorem tw917188665356777944:T:=t
theorem tw10461486589377686951:T:=t
theorem tw12117566397907306591:T:=t
theorem tw16273409264050221902:T:=t
theorem tw7098796860412945449:T:=t
theorem tw7560113137871632023:T:=t
theorem tw5201258106775306917:T:=t
theorem tw12005232680774682065:T:=t
theorem tw2321415302247276713:T:=t
theorem tw14863565158556599209:T:=t
theorem tw18095345654954146953:T:=t
theorem tw15405580468223726483:T:=t
theorem tw4264126533502201237:T:=t
theorem tw9897598442846638446:T:=t
theorem tw1659935710438342072:T:=t
theorem tw11880213567439782026:T:=t
theorem tw10046292627742983199:T:=t
theorem tw14413749442781553864:T:=t
theorem tw9719113813086280763:T:=t
theorem tw14429440865561403591:T:=t
theorem tw8139416664175296144:T:=t
theorem tw62933229685591618:T:=t
theorem tw4012371326459559249:T:=t
theorem tw3928189286199550678:T:=t
theorem tw8706903512964428601:T:=t
theorem tw3937693730111695677:T:=t
theorem tw9021964109338569212:T:=t
theorem tw3166392604145213383:T:=t
theorem tw4252945506377602102:T:=t
theorem tw16254397471953936107:T:=t
theorem tw10167096798111212115:T:=t
theorem tw11619057356481280811:T:=t
theorem tw10913399448492054262:T:=t
theorem tw6083776660853407818:T:=t
theorem tw500266164861081440:T:=t
theorem tw7035186016067247443:T:=t
theorem tw7088349232351329891:T:=t
theorem tw17529029383267317556:T:=t
theorem tw10742461022031790106:T:=t
theorem tw5748619952495418306:T:=t
theorem tw17446733616243546291:T:=t
theorem tw13911609637656420663:T:=t
theorem tw17279283646805912495:T:=t
theorem tw9195906656726222294:T:=t
theorem tw17412955787700331137:T:=t
theorem tw17294477200366440131:T:=t
theorem tw337127094935193269:T:=t
theorem tw6280194744646740338:T:=t
theorem tw1825298742023099954:T:=t
theorem tw10483929944294941603:T:=t
theorem tw7858584819922659492:T:=t
theorem tw3953541251585018513:T:=t
theorem tw16770156818338855584:T:=t
theorem tw17341549536435633147:T:=t
theorem tw2171943676228125691:T:=t
theorem tw12181080997943343814:T:=t
theorem tw14060091322406184918:T:=t
theorem tw18081466818976947259:T:=t
theorem tw9614724962152127721:T:=t
theorem tw17013638852443142271:T:=t
theorem tw8769271417460664718:T:=t
theorem tw9658337345648365998:T:=t
theorem tw6731656516949101980:T:=t
theorem tw15792567730968163790:T:=t
theorem tw7464915486368150582:T:=t
theorem tw319905934715753558:T:=t
theorem tw329893926223516220:T:=t
theorem tw1409412833818140380:T:=t
theorem tw10915490003707526294:T:=t
theorem tw3239886167863571441:T:=t
theorem tw14898668576291694577:T:=t
theorem tw10984135930633381055:T:=t
theorem tw2495007674941160703:T:=t
theorem tw11782477647138407755:T:=t
theorem tw5616312573808056747:T:=t
theorem tw3123093697592170751:T:=t
theorem tw16747789703489233098:T:=t
theorem tw1216007648232286210:T:=t
theorem tw7392225216967532118:T:=t
theorem tw7629761338312488996:T:=t
theorem tw994552897224506549:T:=t
theorem tw18005862157528686123:T:=t
theorem tw1870628651510745439:T:=t
theorem tw6279917505761417942:T:=t
theorem tw9070813558119722710:T:=t
theorem tw10968411843794296898:T:=t
theorem tw1897068827986678518:T:=t
theorem tw6200176450284570251:T:=t
theorem tw5583454342903675477:T:=t
theorem tw4492183088075775573:T:=t
theorem tw4044175093620767906:T:=t
theorem tw2107753390231349931:T:=t
theorem tw13151312822466234086:T:=t
theorem tw4956453579272984991:T:=t
theorem tw4019815415491431903:T:=t
theorem tw18393103920188098671:T:=t
theorem tw6451705610138753405:T:=t
theorem tw17503956316228734997:T:=t
theorem tw6568000339001495430:T:=t
theorem tw872624889826515294:T:=t
theorem tw182064352918594311:T:=t
theorem tw1773965907928140742:T:=t
theorem tw14320011729263014462:T:=t
theorem tw15266192581886522476:T:=t
theorem tw853814110249539951:T:=t
theorem tw10664437659693675951:T:=t
theorem tw938166635062428733:T:=t
theorem tw8109156402395770124:T:=t
theorem tw18369481007610410252:T:=t
theorem tw2484309372592143334:T:=t
theorem tw8911219337701272211:T:=t
theorem tw11635825430465441758:T:=t
theorem tw13450475506575082163:T:=t
theorem tw6303386651780343503:T:=t
theorem tw890583921757802590:T:=t
theorem tw12119546004520460834:T:=t
theorem tw12344738318118520836:T:=t
theorem tw15945052554115438114:T:=t
theorem tw1954288210423064503:T:=t
theorem tw17418183008796186060:T:=t
theorem tw18077169177442220893:T:=t
theorem tw1539746779648249904:T:=t
theorem tw10975201812022460496:T:=t
theorem tw15426928340299475095:T:=t
theorem tw5083606396924675724:T:=t
theorem tw10232045709138520642:T:=t
theorem tw14404728153109776776:T:=t
theorem tw4260514856166244759:T:=t
theorem tw9815266243448524183:T:=t
theorem tw1747463866600837396:T:=t
theorem tw1128576851806610000:T:=t
theorem tw12778057795958228503:T:=t
theorem tw14276265836287316340:T:=t
theorem tw14741672450823785136:T:=t
theorem tw2974389045008133574:T:=t
theorem tw12644581210055996197:T:=t
theorem tw9135661907309723383:T:=t
theorem tw8757158309147922952:T:=t
theorem tw6857060059597882457:T:=t
theorem tw4582897535498487897:T:=t
theorem tw10199378623800279928:T:=t
theorem tw14344040730996246309:T:=t
theorem tw12583322788838944520:T:=t
theorem tw3312334427377019193:T:=t
theorem tw1655926610019599144:T:=t
theorem tw3902731347322080504:T:=t
theorem tw4173911651656122809:T:=t
theorem tw16805233777276811544:T:=t
theorem tw15052696762642692472:T:=t
theorem tw1203010961817096633:T:=t
theorem tw11944300193176219032:T:=t
theorem tw2206607392562305861:T:=t
theorem tw990831368973810265:T:=t
theorem tw11640719347025314632:T:=t
theorem tw9153456665611532888:T:=t
theorem tw18226358673864201300:T:=t
theorem tw9311628795037461537:T:=t
theorem tw11776488525047155353:T:=t
theorem tw7896915504295838977:T:=t
theorem tw6823539237791098749:T:=t
theorem tw4461230091846257888:T:=t
theorem tw9521172712265846457:T:=t
theorem tw15195382235753582306:T:=t
theorem tw6086783528377027385:T:=t
theorem tw5744752297624711525:T:=t
theorem tw2311452098449288139:T:=t
theorem tw14404856748210907969:T:=t
theorem tw6098564774352598469:T:=t
theorem tw7433988299340235008:T:=t
theorem tw3644984796574127346:T:=t
theorem tw415085200780320096:T:=t
theorem tw8053704140424023002:T:=t
theorem tw4843084649708776754:T:=t
theorem tw2997857201024753221:T:=t
theorem tw1392585369067536602:T:=t
theorem tw9384513340422281414:T:=t
theorem tw15237018329501898729:T:=t
theorem tw5193684060787870298:T:=t
theorem tw13498579413863546458:T:=t
theorem tw12842138256098652858:T:=t
theorem tw4030387599506880186:T:=t
theorem tw17007942234715409146:T:=t
theorem tw12888068235826366912:T:=t
theorem tw12265781179106458065:T:=t
theorem tw10204130624423849123:T:=t
theorem tw10579786644496952114:T:=t
theorem tw11640961971845419267:T:=t
theorem tw10282047901391964539:T:=t
theorem tw8663568653628481827:T:=t
theorem tw6598734933029311899:T:=t
theorem tw9946614036038653393:T:=t
theorem tw4059961494186470819:T:=t
theorem tw4244646177440683552:T:=t
theorem tw15374041706583830029:T:=t
theorem tw12648370439985502833:T:=t
theorem tw17086911384466477709:T:=t
theorem tw226471018080705051:T:=t
theorem tw14428376754610023563:T:=t
theorem tw4503227832188924589:T:=t
end PySem.W.Fast
open PySem PySem.W PyProof.Rows
set_option maxRecDepth 100000 in
set_option maxHeartbeats 0 in
theorem PySem.Challenge.cw_halvedpictures_k33_shares_holds : PySem.Challenge.rw_halvedpictures_k33_shares.Holds := by
 w_on;o_law;k_head;(case hw=>w_witness2)
 k_fill
 refine K33.walk (ts:=[]) (l:=PySem.Challenge.rw_halvedpictures_k33_shares) rfl rfl (fun w h Y=>⟨PySem.W.kIn_of Y,(fun _ z=>by cases z)⟩) ?F
 case F=>
  intro w mg fa h KX G hmg
  refine' K33.all_mk KX G hmg ?aC_Guessed ?pg_Guessed ?hd_Guessed ?po_Guessed ?sa_Guessed ?mk_Guessed ?kc_Guessed ?in_Guessed ?aC_Halves ?pg_Halves ?hd_Halves ?po_Halves ?sa_Halves ?mk_Halves ?kc_Halves ?in_Halves ?aC_Leaning ?pg_Leaning ?hd_Leaning ?po_Leaning ?sa_Leaning ?mk_Leaning ?kc_Leaning ?in_Leaning ?aC_Plan ?pg_Plan ?hd_Plan ?po_Plan ?sa_Plan ?mk_Plan ?kc_Plan ?aC_Sums ?pg_Sums ?hd_Sums ?po_Sums ?sa_Sums ?mk_Sums ?kc_Sums ?in_Sums ?n_Plan_chosen ?n_Plan_corners ?n_Plan_letters ?q_ALONG_PILLARS ?lk_ALONG_PILLARS ?q_ALONG_ROWS ?lk_ALONG_ROWS ?y_bs ?y_is ?y_ns ?y_ss ?y_ls ?y_ts ?y_ds ?F0 ?F1 ?F2 ?F3 ?F4 ?F5 ?F6 ?F7 ?F8 ?F9 ?F10 ?F11 ?F12 ?F13 ?F14 ?F15 ?F16 ?F17 ?F18 ?F19 ?F20 ?F21 ?F22 ?F23 ?F24 ?F25 ?F26 ?F27 ?F28 ?F29 ?F30 ?F31 ?F32 ?F33 ?F34 ?F35 ?F36 ?F37 ?q_MOST_PLACES ?q_MOST_SIDE ?z_bool ?z_int ?z_isinstance ?z_len ?z_list ?z_max ?z_min ?z_range ?z_reversed ?z_sorted ?z_str ?z_sum ?z_tuple ?y_bb ?y_bi ?y_bl ?y_bt ?y_ib ?y_ii ?y_il ?y_it ?y_nb ?y_ni ?y_nl ?y_nt ?y_sb ?y_si ?y_sl ?y_st ?y_lb ?y_li ?y_ll ?y_lt ?y_tb ?y_ti ?y_tl ?y_tt ?y_db ?y_di ?y_dl ?y_dt
  (case aC_Guessed | pg_Guessed | hd_Guessed | po_Guessed | sa_Guessed | mk_Guessed | kc_Guessed | in_Guessed | aC_Halves | pg_Halves | hd_Halves | po_Halves=>k_is)
  (case sa_Halves | mk_Halves | kc_Halves | in_Halves | aC_Leaning | pg_Leaning | hd_Leaning | po_Leaning | sa_Leaning | mk_Leaning | kc_Leaning | in_Leaning=>k_is)
  (case aC_Plan | pg_Plan | hd_Plan | po_Plan | sa_Plan | mk_Plan | kc_Plan | aC_Sums | pg_Sums | hd_Sums | po_Sums | sa_Sums=>k_is)
  (case mk_Sums | kc_Sums | in_Sums | n_Plan_chosen | n_Plan_corners | n_Plan_letters | q_ALONG_PILLARS | lk_ALONG_PILLARS | q_ALONG_ROWS | lk_ALONG_ROWS=>k_is)
  (case y_bs | y_is | y_ns | y_ss | y_ls | y_ts | y_ds=>kit_is)
  (case F0 | F1 | F2 | F3 | F4 | F5 | F6 | F7 | F8 | F9 | F10 | F11=>walk_at "fk")
  (case F12 | F13 | F14 | F15 | F16 | F17 | F18 | F19 | F20 | F21 | F22 | F23=>walk_at "fk")
  (case F24 | F25 | F26 | F27 | F28 | F29 | F30 | F31 | F32 | F33 | F34 | F35=>walk_at "fk")
  (case F36 | F37=>walk_at "fk")
  (case q_MOST_PLACES | q_MOST_SIDE | z_bool | z_int | z_isinstance | z_len | z_list | z_max | z_min | z_range | z_reversed | z_sorted=>k_is)
  (case z_str | z_sum | z_tuple=>k_is)
  (case y_bb | y_bi | y_bl | y_bt | y_ib | y_ii | y_il | y_it | y_nb | y_ni | y_nl | y_nt=>kit_is)
  (case y_sb | y_si | y_sl | y_st | y_lb | y_li | y_ll | y_lt | y_tb | y_ti | y_tl | y_tt=>kit_is)
  (case y_db | y_di | y_dl | y_dt=>kit_is)
