import PyProof.Rows.All
import Wide.All
import OpenK.AllK
import Wide.FinOn
import Lean
import PyProof.EqAt
import PyProof.EqKinds
import PyProof.TupleCall
import KE.KPairComp
import PySem.Challenge.RW_halvedpictures_k17_flat_and_bent_rows
set_option Elab.async false
set_option linter.all false
set_option maxRecDepth 100000
/-! THE HAND LAYER, for ints, bools, texts, own classes, LISTS and tuples (index, slices, in, append, pop ..), calls, loops. Paste it whole ahead of your own text; what your proof does not reach may be deleted. -/
namespace L2
open PySem PySem.Spec PyProof.Rows

/-- a key: an int or a str -/
abbrev Key := Sum Int Str
def keyIs : Key → Value → Bool
  | .inl k, v => Value.isInt k v
  | .inr x, v => Value.isStrOf x v
def keyH (w : World) : Key → Int
  | .inl k => hashInt k
  | .inr x => hashStr w x
theorem keyIs_shape : ∀ {k : Key} {v : Value}, keyIs k v = true → (∃ i t, k = Sum.inl i ∧ v = Value.int i t) ∨ (∃ x t, k = Sum.inr x ∧ v = Value.str x t)
  | .inl i, v, h => by
    obtain ⟨t, e⟩ := Value.isInt_shape (k := i) (v := v) h
    exact .inl ⟨i, t, rfl, e⟩
  | .inr x, v, h => by
    obtain ⟨t, e⟩ := Value.isStrOf_shape (x := x) (v := v) h
    exact .inr ⟨x, t, rfl, e⟩
theorem key_ll (a b : Int) : decide ((Sum.inl a : Key) = Sum.inl b) = (a == b) := by
  by_cases e : a = b
  · subst e; simp
  · have h : ¬ (Sum.inl a : Key) = Sum.inl b := fun q => e (Sum.inl.inj q)
    rw [decide_eq_false h]
    exact (beq_eq_false_iff_ne.mpr e).symm
theorem key_rr (a b : Str) : decide ((Sum.inr a : Key) = Sum.inr b) = decide (a = b) := by
  by_cases e : a = b
  · subst e; simp
  · have h : ¬ (Sum.inr a : Key) = Sum.inr b := fun q => e (Sum.inr.inj q)
    rw [decide_eq_false h, decide_eq_false e]
theorem key_lr (a : Int) (b : Str) : decide ((Sum.inl a : Key) = Sum.inr b) = false := decide_eq_false (fun q => nomatch q)
theorem key_rl (a : Str) (b : Int) : decide ((Sum.inr a : Key) = Sum.inl b) = false := decide_eq_false (fun q => nomatch q)

def mixKind (prog : Program) (w : World) : PySem.KeyKind prog w Key where
  is := keyIs
  hash := keyH w
  inj := fun v a b ha hb => by
    rcases keyIs_shape ha with ⟨i, t, rfl, rfl⟩ | ⟨x, t, rfl, rfl⟩
    · rcases keyIs_shape hb with ⟨j, u, rfl, e⟩ | ⟨y, u, rfl, e⟩
      · injection e with e1 _; rw [e1]
      · exact nomatch e
    · rcases keyIs_shape hb with ⟨j, u, rfl, e⟩ | ⟨y, u, rfl, e⟩
      · exact nomatch e
      · injection e with e1 _; rw [e1]
  byValue := fun k v h => by
    rcases keyIs_shape h with ⟨i, t, rfl, rfl⟩ | ⟨x, t, rfl, rfl⟩ <;> rfl
  pyHash := fun hv h => by
    rcases keyIs_shape hv with ⟨i, t, rfl, rfl⟩ | ⟨x, t, rfl, rfl⟩
    · exact wpAny_pyHash_int h
    · exact wpAny_pyHash_str h
  eqBool := fun hu hv h => by
    rcases keyIs_shape hu with ⟨i, t, rfl, rfl⟩ | ⟨x, t, rfl, rfl⟩
    · rcases keyIs_shape hv with ⟨j, u, rfl, rfl⟩ | ⟨y, u, rfl, rfl⟩
      · rw [key_ll] at h; exact wpAny_eqBool_int h
      · rw [key_lr] at h; exact SeqAt.EqAt.int_str i t y u _ _ _ _ h
    · rcases keyIs_shape hv with ⟨j, u, rfl, rfl⟩ | ⟨y, u, rfl, rfl⟩
      · rw [key_rl] at h; exact SeqAt.EqAt.str_int x t j u _ _ _ _ h
      · rw [key_rr] at h; exact wpAny_eqBool_str h
  «strs» := fun k x t v h => by
    rcases keyIs_shape h with ⟨i, u, rfl, e⟩ | ⟨y, u, rfl, e⟩
    · exact nomatch e
    · injection e with e1 _
      subst e1
      cases v <;> rfl

end L2

namespace L2
open PySem PySem.Spec PyProof.Rows

/-- a value, without the heap -/
inductive V where
  | non | bl (b : Bool) | int (i : Int) | str (x : Str) | byt (b : Array UInt8) | flt (b : UInt64) | ref (a : Addr) | ty (n : String)
  deriving DecidableEq

def RelV : V → Value → Prop
  | .non, u => u = Value.none
  | .bl b, u => u = Value.bool b
  | .int i, u => ∃ t, u = Value.int i t
  | .str x, u => ∃ t, u = Value.str x t
  | .byt b, u => ∃ t, u = Value.bytes b t
  | .flt b, u => ∃ t, u = Value.float b t
  | .ref a, u => u = Value.ref a
  | .ty n, u => u = Value.type n

abbrev Vals : List V → List Value → Prop := Paired RelV
theorem Vals.length {xs : List V} {us : List Value} (r : Vals xs us) : xs.length = us.length := Paired.length r
theorem Vals.get : ∀ {xs : List V} {us : List Value} {i : Nat} {x : V}, Vals xs us → xs[i]? = some x → ∃ u, us[i]? = some u ∧ RelV x u
  | _, _, _, _, .nil, e => by simp at e
  | _, _, 0, _, .cons r _, e => by simp at e; subst e; exact ⟨_, rfl, r⟩
  | _, _, i + 1, x, .cons _ t, e => by
    obtain ⟨u, h1, h2⟩ := Vals.get (i := i) (x := x) t (by simpa using e)
    exact ⟨u, by simpa using h1, h2⟩
theorem Vals.set {x : V} {u : Value} (r : RelV x u) : ∀ {xs : List V} {us : List Value} (i : Nat), Vals xs us → Vals (xs.set i x) (us.set i u)
  | _, _, _, .nil => .nil
  | _, _, 0, .cons _ t => .cons r t
  | _, _, i + 1, .cons q t => .cons q (Vals.set r i t)
theorem Vals.append : ∀ {xs ys : List V} {us ws : List Value}, Vals xs us → Vals ys ws → Vals (xs ++ ys) (us ++ ws)
  | _, _, _, _, .nil, s => s
  | _, _, _, _, .cons r t, s => .cons r (Vals.append t s)
theorem Vals.take : ∀ {xs : List V} {us : List Value} (n : Nat), Vals xs us → Vals (xs.take n) (us.take n)
  | _, _, 0, _ => .nil
  | _, _, _ + 1, .nil => .nil
  | _, _, n + 1, .cons r t => .cons r (Vals.take n t)
theorem Vals.drop : ∀ {xs : List V} {us : List Value} (n : Nat), Vals xs us → Vals (xs.drop n) (us.drop n)
  | _, _, 0, r => r
  | _, _, _ + 1, .nil => .nil
  | _, _, n + 1, .cons _ t => Vals.drop n t
theorem Vals.none_of : ∀ {xs : List V} {us : List Value} {i : Nat}, Vals xs us → xs[i]? = none → us[i]? = none := fun {xs us i} r e => by
  have h1 := r.length
  have h2 : xs.length ≤ i := List.getElem?_eq_none_iff.mp e
  exact List.getElem?_eq_none_iff.mpr (by omega)

def RelO : Option V → Option Value → Prop
  | some v, some u => RelV v u
  | none, none => True
  | _, _ => False
def KV {κ : Type} : List (κ × V) → List (κ × Value) → Prop := Paired fun (p : κ × V) (q : κ × Value) => p.1 = q.1 ∧ RelV p.2 q.2

/-- a key of a dict (00_mix): an int or a text -/
def kV : Key → V
  | .inl i => .int i
  | .inr x => .str x

/-- what stands at a tracked address -/
inductive HO where
  /-- a list -/
  | lst (xs : List V)
  /-- a tuple (never changes) -/
  | tup (xs : List V)
  /-- a dict whose keys are ints and texts; one whose keys are tuples of ints and texts (the empty one is both) -/
  | dK (kvs : List (Key × V)) | dT (kvs : List (List Key × V))
  /-- a set of ints: its members, its size -/
  | set (S : Int → Bool) (n : Nat)
  /-- an instance of the class at C, its dict at dx, its attributes -/
  | ins (C dx : Addr) (fs : List (Str × V))
  /-- the dict of the instance at x -/
  | own (x : Addr)
  /-- the dict of an exception -/
  | xd (fs : List (Str × V))
  /-- a bound method, f of x -/
  | met (f x : Addr)
  /-- a range object lo, lo + 1, .. below hi -/
  | rng (lo hi : Int)
  /-- a thing that is known to the object (the script; a dict while a loop walks it): read, never written while it is so -/
  | frz (o : Obj) (u : HO)
  /-- a code object's table -/
  | tbl (ps : Array Value)
  /-- any other thing, by what is true of its one object (a def of one's own: SetO a S n := HO.ext fun h => ..) -/
  | ext (φ : Heap → Prop)

abbrev Hp := Addr → Option HO
def upd (H : Hp) (a : Addr) (o : HO) : Hp := fun b => if b = a then some o else H b
theorem upd_same {H : Hp} {a : Addr} {o : HO} : upd H a o a = some o := by unfold upd; rw [if_pos rfl]
theorem upd_ne {H : Hp} {a b : Addr} {o : HO} (h : b ≠ a) : upd H a o b = H b := by unfold upd; rw [if_neg h]
theorem ne_of_none {H : Hp} {a b : Addr} {o : HO} (h : H a = some o) (h' : H b = none) : a ≠ b := by
  intro e; subst e; rw [h] at h'; cases h'

section
variable (P : Program) (w : World)
def ObjOk (H : Hp) (h : Heap) (a : Addr) : HO → Prop
  | .lst xs => xs.length ≤ sizeLine ∧ ∃ (its : List Value) (n : Nat), Vals xs its ∧ h.get? a = some { cls := .type "list", data := .seq its.toArray n }
  | .tup xs => xs.length ≤ sizeLine ∧ ∃ its : List Value, Vals xs its ∧ IsTup h a its.toArray
  | .dK kvs => kvs.length ≤ sizeLine ∧ (a == sysModules) = false ∧ ∃ vs, KV kvs vs ∧ h.DictOf (mixKind P w) a vs
  | .dT kvs => kvs.length ≤ sizeLine ∧ (a == sysModules) = false ∧ ∃ xs : List (List Key × Addr × Value),
      Paired (fun (p : List Key × V) (q : List Key × Addr × Value) => p.1 = q.1 ∧ H q.2.1 = some (.tup (p.1.map kV)) ∧ RelV p.2 q.2.2) kvs xs ∧
      ∃ o es ep, h.get? a = some o ∧ o.ExactDict ∧ o.data = .dict es ep ∧ es.toList = xs.map (entryOfKey (tupleKind (mixKind P w))) ∧ (xs.map (·.1)).Nodup
  | .set S n => h.SetOf (intKind P w) a S n
  | .ins C dx fs => H dx = some (.own a) ∧ fs.length ≤ 1000 ∧ dx ≠ a ∧ h.get? a = some (PySem.W.instObj C dx) ∧
      ∃ mA, h.Ns1 dx mA ∧ (∀ f, RelO (fs.lookup f) (mA f)) ∧ PySem.Within mA (fs.map (·.1))
  | .own _ => ∃ o, h.get? a = some o
  | .xd fs => ∃ mA, h.Ns1 a mA ∧ ∀ f, RelO (fs.lookup f) (mA f)
  | .rng lo hi => ∃ t u v, h.get? a = some { cls := .type "range", data := .fields #[.int lo t, .int hi u, .int 1 v] }
  | .frz o u => h.get? a = some o ∧ ObjOk H h a u
  | .tbl ps => h.get? a = some { cls := .none, data := .fields ps }
  | .met f x => h.get? a = some (PySem.W.methodObj (.ref f) (.ref x))
  | .ext φ => φ h ∧ (∃ o, h.get? a = some o) ∧ ∀ h1 h2 : Heap, φ h1 → (∀ o, h1.get? a = some o → h2.get? a = some o) → φ h2
/-- the abstract heap is held -/
def HOk (H : Hp) (h : Heap) : Prop := ∀ a o, H a = some o → ObjOk P w H h a o
end

section
variable {P : Program} {w : World} {H H' : Hp} {h h' : Heap} {a : Addr} {o : HO}
theorem ObjOk.lt (x : ObjOk P w H h a o) : a < h.objs.size := by
  cases o with
  | lst xs => obtain ⟨_, _, _, _, e⟩ := x; exact Heap.lt_size e
  | tup xs => obtain ⟨_, _, _, p⟩ := x; exact p.lt
  | dK kvs => obtain ⟨_, _, _, _, o, _, _, e, _⟩ := x; exact Heap.lt_size e
  | dT kvs => obtain ⟨_, _, _, _, o, _, _, e, _⟩ := x; exact Heap.lt_size e
  | set S n => obtain ⟨o, _, _, _, e, _⟩ := x; exact Heap.lt_size e
  | ins C dx fs => obtain ⟨_, _, _, e, _⟩ := x; exact Heap.lt_size e
  | own y => obtain ⟨_, e⟩ := x; exact Heap.lt_size e
  | xd fs => obtain ⟨_, ⟨_, _, _, e, _⟩, _⟩ := x; exact Heap.lt_size e
  | rng lo hi => obtain ⟨_, _, _, e⟩ := x; exact Heap.lt_size e
  | frz ob u => obtain ⟨e, _⟩ := x; exact Heap.lt_size e
  | tbl ps => exact Heap.lt_size (show h.get? a = some _ from x)
  | met f y => exact Heap.lt_size (show h.get? a = some _ from x)
  | ext φ => obtain ⟨_, ⟨_, e⟩, _⟩ := x; exact Heap.lt_size e
theorem Paired.mapP {α β : Type} {F G : α → β → Prop} : ∀ {l₁ : List α} {l₂ : List β}, Paired F l₁ l₂ → (∀ a b, F a b → G a b) → Paired G l₁ l₂
  | _, _, .nil, _ => .nil
  | _, _, .cons r t, f => .cons (f _ _ r) (Paired.mapP t f)
/-- what an object's description leans on: its own object, its own dict, the tuples -/
theorem ObjOk.stay (x : ObjOk P w H h a o) (k : ∀ b u, (b = a ∨ H b = some (.own a)) → h.get? b = some u → h'.get? b = some u)
    (ho : ∀ b, H b = some (.own a) → H' b = some (.own a)) (ht : ∀ b xs, H b = some (.tup xs) → H' b = some (.tup xs)) : ObjOk P w H' h' a o := by
  induction o with
  | lst xs => obtain ⟨z, its, n, r, e⟩ := x; exact ⟨z, its, n, r, k _ _ (.inl rfl) e⟩
  | tup xs => obtain ⟨z, its, r, ob, e, c⟩ := x; exact ⟨z, its, r, ob, k _ _ (.inl rfl) e, c⟩
  | dK kvs => obtain ⟨z, y, vs, r, ob, es, ep, e, c⟩ := x; exact ⟨z, y, vs, r, ob, es, ep, k _ _ (.inl rfl) e, c⟩
  | dT kvs =>
    obtain ⟨z, y, xs, r, ob, es, ep, e, c⟩ := x
    exact ⟨z, y, xs, Paired.mapP r fun p q z => ⟨z.1, ht _ _ z.2.1, z.2.2⟩, ob, es, ep, k _ _ (.inl rfl) e, c⟩
  | set S n => obtain ⟨ob, es, ep, t, e, c⟩ := x; exact ⟨ob, es, ep, t, k _ _ (.inl rfl) e, c⟩
  | ins C dx fs =>
    obtain ⟨d, z, ne, e, mA, ⟨od, es, ep, e2, c⟩, r⟩ := x
    exact ⟨ho _ d, z, ne, k _ _ (.inl rfl) e, mA, ⟨od, es, ep, k _ _ (.inr d) e2, c⟩, r⟩
  | own y => obtain ⟨ob, e⟩ := x; exact ⟨ob, k _ _ (.inl rfl) e⟩
  | xd fs => obtain ⟨mA, ⟨od, es, ep, e, c⟩, r⟩ := x; exact ⟨mA, ⟨od, es, ep, k _ _ (.inl rfl) e, c⟩, r⟩
  | rng lo hi => obtain ⟨t, u, v, e⟩ := x; exact ⟨t, u, v, k _ _ (.inl rfl) e⟩
  | frz ob u ih => obtain ⟨e, q⟩ := x; exact ⟨k _ _ (.inl rfl) e, ih q⟩
  | tbl ps =>
    have e : h.get? a = some { cls := .none, data := .fields ps } := x
    show h'.get? a = some { cls := .none, data := .fields ps }
    exact k a _ (.inl rfl) e
  | met f y =>
    have e : h.get? a = some (PySem.W.methodObj (.ref f) (.ref y)) := x
    show h'.get? a = some (PySem.W.methodObj (.ref f) (.ref y))
    exact k a _ (.inl rfl) e
  | ext φ => obtain ⟨p, ⟨o, e⟩, st⟩ := x; exact ⟨st _ _ p fun o q => k _ _ (.inl rfl) q, ⟨o, k _ _ (.inl rfl) e⟩, st⟩
theorem HOk.lt (x : HOk P w H h) (e : H a = some o) : a < h.objs.size := (x a o e).lt
theorem HOk.fresh (x : HOk P w H h) (e : h.objs.size ≤ a) : H a = none := by
  cases q : H a with
  | none => rfl
  | some u => exact absurd (Nat.lt_of_lt_of_le (x.lt q) e) (Nat.lt_irrefl _)
/-- every object of the heap is kept -/
theorem HOk.kept (x : HOk P w H h) (k : ∀ b u, h.get? b = some u → h'.get? b = some u) : HOk P w H h' := fun a o e =>
  (x a o e).stay (fun b u _ q => k b u q) (fun _ q => q) fun _ _ q => q
/-- a new object is laid and tracked -/
theorem HOk.laid (x : HOk P w H h) (k : ∀ b u, h.get? b = some u → h'.get? b = some u) (hp : h.objs.size ≤ a) (new : ObjOk P w (upd H a o) h' a o) : HOk P w (upd H a o) h' := fun b u e => by
  have hn := x.fresh hp
  by_cases hb : b = a
  · subst hb; rw [upd_same] at e; cases e; exact new
  · rw [upd_ne hb] at e
    exact (x b u e).stay (fun c v _ q => k c v q) (fun c q => by rw [upd_ne (ne_of_none q hn)]; exact q) fun c xs q => by rw [upd_ne (ne_of_none q hn)]; exact q
end

/-- what may be read as u: it is u, or a known u -/
def Rd (H : Hp) (a : Addr) (u : HO) : Prop := H a = some u ∨ ∃ o, H a = some (.frz o u)
theorem Rd.ok {P : Program} {w : World} {H : Hp} {h : Heap} {a : Addr} {u : HO} (r : Rd H a u) (x : HOk P w H h) : ObjOk P w H h a u := by
  rcases r with r | ⟨o, r⟩
  · exact x a u r
  · obtain ⟨_, q⟩ := x a _ r
    exact q
/-- what may be written -/
def Mut : Option HO → Prop
  | some (.lst _) => True
  | some (.dK _) => True
  | some (.dT _) => True
  | some (.set _ _) => True
  | some (.ins _ _ _) => True
  | some (.ext _) => True
  | _ => False
section
variable {P : Program} {w : World} {H : Hp} {h h' : Heap} {x e : Addr} {o' : HO}
/-- the object at e is changed: x itself, or the dict of the instance x -/
theorem HOk.write (ok : HOk P w H h) (mu : Mut (H x)) (he : e = x ∨ H e = some (.own x)) (k : ∀ b u, b ≠ e → h.get? b = some u → h'.get? b = some u) (heo : ∃ u, h'.get? e = some u)
    (new : ObjOk P w (upd H x o') h' x o') : HOk P w (upd H x o') h' := fun b u q => by
  have nown : ∀ c y, H c = some (.own y) → c ≠ x := fun c y r z => by subst z; rw [r] at mu; exact mu
  have ntup : ∀ c xs, H c = some (.tup xs) → c ≠ x := fun c xs r z => by subst z; rw [r] at mu; exact mu
  by_cases hb : b = x
  · subst hb; rw [upd_same] at q; cases q; exact new
  · rw [upd_ne hb] at q
    by_cases hbe : b = e
    · have q' : H b = some (.own x) := by
        rcases he with z | z
        · exact absurd (hbe.trans z) hb
        · rw [hbe]; exact z
      rw [q] at q'; cases q'
      obtain ⟨v, hv⟩ := heo
      exact ⟨v, by rw [hbe]; exact hv⟩
    · refine (ok b u q).stay (fun c v hc r => k c v ?_ r) (fun c r => by rw [upd_ne (nown c b r)]; exact r) fun c xs r => by rw [upd_ne (ntup c xs r)]; exact r
      rcases hc with rfl | hc
      · exact hbe
      · rintro rfl
        rcases he with z | z
        · exact nown c b hc z
        · rw [hc] at z; cases z; exact hb rfl
end

/-! ### kept unless tracked; of the frames at fs (the callers') the slots may change (an exception that passes writes there); of the records at ex (iterators) nothing is said -/
structure Un (fs ex : List Addr) (H H' : Hp) (h h' : Heap) : Prop where
  keep : ∀ b o, h.get? b = some o → H b = none → b ∉ fs → b ∉ ex → h'.get? b = some o
  slot : ∀ b o, h.get? b = some o → H b = none → b ∈ fs → b ∉ ex → ∃ sl, h'.get? b = some { o with slots := sl }
  free : ∀ b o, h.get? b = some o → H b = none → b ∉ ex → H' b = none
  there : ∀ b o, h.get? b = some o → b ∉ ex → ∃ o', h'.get? b = some o'
  tups : ∀ b xs, H b = some (.tup xs) → H' b = some (.tup xs)
  frzs : ∀ b o u, H b = some (.frz o u) → H' b = some (.frz o u)
  tbls : ∀ b ps, H b = some (.tbl ps) → ∃ more, H' b = some (.tbl (ps ++ more))
section
variable {fs fs' ex ex' : List Addr} {H H1 H2 : Hp} {h h1 h2 h' : Heap} {a x e : Addr} {o : HO}
theorem Un.any (u : Un fs ex H H1 h h1) {b : Addr} {ob : Obj} (q : h.get? b = some ob) (n : H b = none) (hx : b ∉ ex) : ∃ sl, h1.get? b = some { ob with slots := sl } := by
  by_cases hb : b ∈ fs
  · exact u.slot b ob q n hb hx
  · exact ⟨ob.slots, u.keep b ob q n hb hx⟩
theorem Un.kept (k : ∀ b u, h.get? b = some u → h'.get? b = some u) : Un fs ex H H h h' :=
  ⟨fun b ob q _ _ _ => k b ob q, fun b ob q _ _ _ => ⟨ob.slots, k b ob q⟩, fun _ _ _ n _ => n, fun b ob q _ => ⟨ob, k b ob q⟩, fun _ _ q => q, fun _ _ _ q => q, fun _ ps q => ⟨#[], by rw [q]; simp⟩⟩
theorem Un.refl : Un fs ex H H h h := Un.kept fun _ _ q => q
theorem Un.laid (k : ∀ b u, h.get? b = some u → h'.get? b = some u) (hp : h.objs.size ≤ a) (hn : H a = none) : Un fs ex H (upd H a o) h h' where
  keep := fun b u q _ _ _ => k b u q
  slot := fun b u q _ _ _ => ⟨u.slots, k b u q⟩
  free := fun b u q n _ => by rw [upd_ne (Nat.ne_of_lt (Nat.lt_of_lt_of_le (Heap.lt_size q) hp))]; exact n
  there := fun b u q _ => ⟨u, k b u q⟩
  tups := fun b xs q => by rw [upd_ne (ne_of_none q hn)]; exact q
  frzs := fun b u xs q => by rw [upd_ne (ne_of_none q hn)]; exact q
  tbls := fun b ps q => ⟨#[], by rw [upd_ne (ne_of_none q hn), q]; simp⟩
theorem Un.write (mu : Mut (H x)) (he : e = x ∨ H e = some (.own x)) (k : ∀ b u, b ≠ e → h.get? b = some u → h'.get? b = some u) (heo : ∃ u, h'.get? e = some u) : Un fs ex H (upd H x o) h h' := by
  have hx : ∀ b, H b = none → b ≠ x := fun b n z => by subst z; rw [n] at mu; exact mu
  have hb : ∀ b, H b = none → b ≠ e := fun b n z => by
    subst z
    rcases he with r | r
    · exact hx b n r
    · rw [n] at r; cases r
  have hm : ∀ b u, H b = some u → ¬ Mut (some u) → b ≠ x := fun b u q nm z => by subst z; rw [q] at mu; exact nm mu
  refine ⟨fun b u q n _ _ => k b u (hb b n) q, fun b u q n _ _ => ⟨u.slots, k b u (hb b n) q⟩, fun b u q n _ => by rw [upd_ne (hx b n)]; exact n, fun b u q _ => ?_,
    fun b xs q => by rw [upd_ne (hm b _ q fun z => z)]; exact q, fun b u xs q => by rw [upd_ne (hm b _ q fun z => z)]; exact q, fun b ps q => ⟨#[], by rw [upd_ne (hm b _ q fun z => z), q]; simp⟩⟩
  by_cases hbe : b = e
  · subst hbe; exact heo
  · exact ⟨u, k b u hbe q⟩
end

/-! ### the heap without what is tracked -/
def trk (h : Heap) (H : Hp) : List Addr := (List.range h.objs.size).filter fun a => (H a).isSome
def hidT (h : Heap) (H : Hp) : Heap := PySem.W.hideAll h (trk h H)
theorem hidT_size (h : Heap) (H : Hp) : (hidT h H).objs.size = h.objs.size := PySem.W.hideAll_size _ _
theorem hidT_get {h : Heap} {H : Hp} {b : Addr} {o : Obj} (e : h.get? b = some o) (n : H b = none) : (hidT h H).get? b = some o :=
  PySem.W.hideAll_get _ e fun hm => by
    have q : (H b).isSome = true := (List.mem_filter.mp hm).2
    rw [n] at q; simp at q
theorem of_hidT {h : Heap} {H : Hp} {b : Addr} {o : Obj} (e : (hidT h H).get? b = some o) : h.get? b = some o ∧ H b = none := by
  have e' : h.get? b = some o := PySem.W.of_hideAll (trk h H) e
  refine ⟨e', ?_⟩
  cases q : H b with
  | none => rfl
  | some x =>
    have hm : b ∈ trk h H := List.mem_filter.mpr ⟨List.mem_range.mpr (Heap.lt_size e'), by simp [q]⟩
    have z : (hidT h H).get? b = none := PySem.W.hideAll_none (trk h H) hm
    rw [z] at e; cases e

/-! ### OpenK's ledger, filled with every new object but one -/
def allNews (g h : Heap) (L : Addr) : List (Addr × Obj) := (List.range h.objs.size).filterMap fun a => if a = L ∨ (g.get? a).isSome = true then none else (h.get? a).map fun o => (a, o)
def rest (g h : Heap) (L d : Addr) : List (Addr × Obj) := (allNews g h L).filter fun p => decide (p.1 ≠ d)
end L2

namespace L2
open PySem PySem.Spec PyProof.Rows

/-- the module's facts, over the base: the heap at the law's entry without what is tracked there -/
structure Mod (K : PySem.W.Frag) (mg : Str → Option Value) (base : Heap) : Prop where
  kin : K.In base
  glob : base.Ns mainGlobals mg
  blt : ∃ mb, base.Ns builtinsNs mb ∧ ∀ x : Str, x ≠ "__name__" → mb x = bootBuiltins x
  nolimit : base.NoLimit

/-- the context: a def's body (or a comprehension's block) running. base: fixed through the whole law; s₀, H₀: the entry; outer: the frames whose slots others may change (a def's callers); stack: all frames that run;
   ex: iterators that were made ahead of the entry and are walked here (a comprehension's); fn: the names whose cells were made at the entry (a def: all; a comprehension's block: its own); calm: not within an except suite; pn: pins that every state bears; xe: what is wanted of an exception that leaves the code -/
structure Cx where
  prog : Program
  w : World
  K : PySem.W.Frag
  mg : Str → Option Value
  base : Heap
  A : Around
  N : List Str
  s₀ : Shared
  H₀ : Hp
  env : Env
  outer : List Env
  stack : List Env
  ex : List Addr
  fn : Str → Bool
  calm : Bool
  pn : List (Addr × Obj)
  xe : Value → Shared → Prop
/-- the callers' frames -/
def frs (l : List Env) : List Addr := l.filterMap (·.frame)
abbrev Cx.fs (X : Cx) : List Addr := frs X.outer

def Vis (sc : Scope) (x : Str) : Prop := sc.names.lookup x = some .local ∨ sc.names.lookup x = some .cell ∨ sc.names.lookup x = some .free
def Loc (sc : Scope) (x : Str) : Prop := sc.names.lookup x = some .local ∨ sc.names.lookup x = some .cell
def Look (env : Env) (h : Heap) (m : Str → Option Value) (x : Str) (u : Value) : Prop :=
  (env.kindOf x = some .local ∧ m x = some u) ∨ ((env.kindOf x = some .cell ∨ env.kindOf x = some .free) ∧ ∃ c, env.cells.lookup x = some c ∧ h.IsCell c (some u))

structure Cx.Ok (X : Cx) : Prop where
  mod : Mod X.K X.mg X.base
  kind : X.env.scope.kind = .function
  glob : X.env.globals = mainGlobals
  blt : X.env.builtins = builtinsNs
  above : X.s₀.heap.objs.size ≤ X.env.locals
  inj : ∀ x y c, X.env.cells.lookup x = some c → X.env.cells.lookup y = some c → x = y
  has : ∀ x, (X.env.kindOf x = some .cell ∨ X.env.kindOf x = some .free) → ∃ c, X.env.cells.lookup x = some c
  cab : ∀ x c, X.fn x = true → X.env.cells.lookup x = some c → X.s₀.heap.objs.size ≤ c
  hd : X.calm = true → X.A.handled = none
  frames : X.A.frames = some X.stack
  stk : X.stack = X.outer ∨ (X.stack = X.env :: X.outer ∧ X.env.frame = some X.env.locals)
  exf : ∀ b ∈ X.ex, b ≠ X.env.locals ∧ ∀ x c, X.env.cells.lookup x = some c → c ≠ b
  bs : ∀ b o, X.base.get? b = some o → X.s₀.heap.get? b = some o ∧ X.H₀ b = none
  bsz : X.base.objs.size ≤ X.s₀.heap.objs.size
  noex : ∀ b o, X.base.get? b = some o → b ∉ X.ex
  exfs : ∀ b ∈ X.ex, b ∉ X.fs
  funs : X.s₀.heap.FunFrames X.base X.outer
  frf : ∀ b ∈ X.fs, X.H₀ b = none

structure Inv (X : Cx) (pins : List (Addr × Obj)) (σ : List (Option V)) (H : Hp) (s : Shared) : Prop where
  ok : X.Ok
  os : s.os = X.s₀.os
  bare : AllBare s.gens
  base : Un X.fs X.ex X.H₀ H X.s₀.heap s.heap
  loc : ∃ m, s.heap.Ns X.env.locals m ∧ ∀ (i : Nat) (x : Str) (v : V), X.N[i]? = some x → σ[i]? = some (some v) → Vis X.env.scope x → ∃ u, RelV v u ∧ Look X.env s.heap m x u
  cell : ∀ x c, X.env.cells.lookup x = some c → ∃ v, s.heap.IsCell c v
  free : H X.env.locals = none
  freeC : ∀ x c, X.env.cells.lookup x = some c → H c = none
  pin : ∀ p ∈ X.pn ++ pins, s.heap.get? p.1 = some p.2 ∧ H p.1 = none ∧ p.1 ≠ X.env.locals ∧ p.1 ∉ X.fs ∧ ∀ v, p.2.data ≠ .cell v
  hok : HOk X.prog X.w H s.heap
  len : σ.length = X.N.length

section
variable {X : Cx} {pins : List (Addr × Obj)} {σ : List (Option V)} {H H' : Hp} {s : Shared} {h' : Heap}

theorem Cx.Ok.nofr (ok : X.Ok) {b : Addr} {o : Obj} (e : X.base.get? b = some o) : b ∉ X.fs := fun hb => by
  have := (ok.funs.mem hb).1
  rw [e] at this; cases this
theorem Inv.bs (I : Inv X pins σ H s) : ∀ b o, X.base.get? b = some o → s.heap.get? b = some o ∧ H b = none := fun b o e =>
  ⟨I.base.keep b o (I.ok.bs b o e).1 (I.ok.bs b o e).2 (I.ok.nofr e) (I.ok.noex b o e), I.base.free b o (I.ok.bs b o e).1 (I.ok.bs b o e).2 (I.ok.noex b o e)⟩
theorem Inv.bk (I : Inv X pins σ H s) : ∀ b o, X.base.get? b = some o → s.heap.get? b = some o := fun b o e => (I.bs b o e).1
theorem Inv.mod (I : Inv X pins σ H s) : Mod X.K X.mg X.base := I.ok.mod
theorem Inv.kIn (I : Inv X pins σ H s) : X.K.In s.heap := I.ok.mod.kin.keeps I.bk
theorem Inv.lt (I : Inv X pins σ H s) : X.env.locals < s.heap.objs.size := let ⟨_, hn, _⟩ := I.loc; hn.lt
theorem Inv.sz (I : Inv X pins σ H s) : X.s₀.heap.objs.size ≤ s.heap.objs.size := Nat.le_trans I.ok.above (Nat.le_of_lt I.lt)
theorem Inv.nofs (I : Inv X pins σ H s) {a : Addr} (h : s.heap.objs.size ≤ a) : a ∉ X.fs := fun hb => by
  obtain ⟨_, o, ho, _⟩ := I.ok.funs.mem hb
  exact absurd (Nat.lt_of_lt_of_le (Heap.lt_size ho) (Nat.le_trans I.sz h)) (Nat.lt_irrefl _)
theorem Inv.cne (I : Inv X pins σ H s) : ∀ x c, X.env.cells.lookup x = some c → c ≠ X.env.locals := fun x c e z => by
  obtain ⟨v, o, ho, hd⟩ := I.cell x c e
  obtain ⟨m, ⟨o', es, ep, ho', hd', _⟩, _⟩ := I.loc
  rw [z, ho'] at ho; cases ho; rw [hd'] at hd; cases hd
theorem Inv.funs (I : Inv X pins σ H s) : s.heap.FunFrames X.base X.outer := by
  have all : ∀ (l : List Env), (∀ b ∈ frs l, b ∈ X.fs) → X.s₀.heap.FunFrames X.base l → s.heap.FunFrames X.base l := by
    intro l
    induction l with
    | nil => intro _ _; trivial
    | cons env r ih =>
      intro hs hl
      obtain ⟨hk, ⟨L, o, hf, hn, ho, hd⟩, hr⟩ := hl
      have hL : L ∈ X.fs := hs L (by unfold frs; rw [List.filterMap_cons, hf]; exact List.mem_cons_self)
      obtain ⟨sl, e⟩ := I.base.slot L o ho (I.ok.frf L hL) hL fun z => I.ok.exfs L z hL
      exact ⟨hk, ⟨L, _, hf, hn, e, hd⟩, ih (fun b hb => hs b (by unfold frs; rw [List.filterMap_cons, hf]; exact List.mem_cons_of_mem _ hb)) hr⟩
  exact all X.outer (fun _ hb => hb) I.ok.funs

/-- the frames that run, for a call -/
theorem Inv.stack (I : Inv X pins σ H s) : s.heap.FunFrames X.base X.stack := by
  rcases I.ok.stk with e | ⟨e, hf⟩
  · rw [e]; exact I.funs
  · rw [e]
    obtain ⟨m, hn, _⟩ := I.loc
    refine .cons (by rw [I.ok.kind]; decide) hf hn ?_ I.funs
    exact Heap.get?_none_of_le (Nat.le_trans I.ok.bsz I.ok.above)
theorem Inv.stkSub (I : Inv X pins σ H s) : ∀ b ∈ frs X.stack, b ∈ X.env.locals :: X.fs := fun b hb => by
  rcases I.ok.stk with e | ⟨e, hf⟩
  · rw [e] at hb; exact List.mem_cons_of_mem _ hb
  · rw [e] at hb
    unfold frs at hb
    rw [List.filterMap_cons, hf] at hb
    exact hb
theorem Inv.stkFree (I : Inv X pins σ H s) : ∀ b ∈ frs X.stack, H b = none := fun b hb => by
  rcases List.mem_cons.mp (I.stkSub b hb) with e | hb
  · rw [e]; exact I.free
  · obtain ⟨_, o, ho, _⟩ := I.ok.funs.mem hb
    exact I.base.free b o ho (I.ok.frf b hb) fun z => I.ok.exfs b z hb

/-- THE STEP: the untracked objects but the frame and the records at ch are kept (the callers' frames up to slots), the frame's map is kept, the new abstract heap is held -/
theorem Inv.step {g' : Array GenState} {t' : Nat} {d' : Drawn} {ch : List Addr} (I : Inv X pins σ H s)
    (hch : ∀ b ∈ ch, (b ∈ X.ex ∨ X.s₀.heap.objs.size ≤ b) ∧ b ≠ X.env.locals ∧ (∀ x c, X.env.cells.lookup x = some c → c ≠ b) ∧ ∀ p ∈ X.pn ++ pins, p.1 ≠ b)
    (keep : ∀ b o, b ≠ X.env.locals → b ∉ X.fs → b ∉ ch → s.heap.get? b = some o → H b = none → h'.get? b = some o)
    (slot : ∀ b o, b ≠ X.env.locals → b ∈ X.fs → b ∉ ch → s.heap.get? b = some o → H b = none → ∃ sl, h'.get? b = some { o with slots := sl }) (free : ∀ b o, b ∉ ch → s.heap.get? b = some o → H b = none → H' b = none)
    (there : ∀ b o, b ∉ ch → s.heap.get? b = some o → ∃ o', h'.get? b = some o')
    (tups : ∀ b xs, H b = some (.tup xs) → H' b = some (.tup xs)) (frzs : ∀ b o u, H b = some (.frz o u) → H' b = some (.frz o u)) (tbls : ∀ b ps, H b = some (.tbl ps) → ∃ more, H' b = some (.tbl (ps ++ more)))
    (ns : ∀ m, s.heap.Ns X.env.locals m → h'.Ns X.env.locals m) (hok : HOk X.prog X.w H' h') (hg : AllBare g') :
    Inv X pins σ H' { s with heap := h', gens := g', drawn := d', toks := t' } := by
  have neL : ∀ b o, X.s₀.heap.get? b = some o → b ≠ X.env.locals := fun b o e => Nat.ne_of_lt (Nat.lt_of_lt_of_le (Heap.lt_size e) I.ok.above)
  have neC : ∀ b o, X.s₀.heap.get? b = some o → b ∉ X.ex → b ∉ ch := fun b o e hx hb => by
    rcases (hch b hb).1 with z | z
    · exact hx z
    · exact absurd (Nat.lt_of_lt_of_le (Heap.lt_size e) z) (Nat.lt_irrefl _)
  have cellK : ∀ x c, X.env.cells.lookup x = some c → ∀ v, s.heap.IsCell c v → h'.IsCell c v := fun x c e v ⟨o, ho, hd⟩ => by
    have nch : c ∉ ch := fun z => (hch c z).2.2.1 x c e rfl
    by_cases hc : c ∈ X.fs
    · obtain ⟨sl, q⟩ := slot c o (I.cne x c e) hc nch ho (I.freeC x c e)
      exact ⟨_, q, hd⟩
    · exact ⟨o, keep c o (I.cne x c e) hc nch ho (I.freeC x c e), hd⟩
  refine ⟨I.ok, I.os, hg, ⟨fun b o e n hb hx => ?_, fun b o e n hb hx => ?_, fun b o e n hx => ?_, fun b o e hx => ?_, fun b xs e => tups b xs (I.base.tups b xs e), fun b o xs e => frzs b o xs (I.base.frzs b o xs e), fun b ps e => ?_⟩, ?_, fun x c e => ?_, ?_, fun x c e => ?_, fun p hp => ?_, hok, I.len⟩
  · exact keep b o (neL b o e) hb (neC b o e hx) (I.base.keep b o e n hb hx) (I.base.free b o e n hx)
  · obtain ⟨sl, e1⟩ := I.base.slot b o e n hb hx
    obtain ⟨sl', e2⟩ := slot b _ (neL b o e) hb (neC b o e hx) e1 (I.base.free b o e n hx)
    exact ⟨sl', e2⟩
  · obtain ⟨o', e1⟩ := I.base.there b o e hx
    exact free b o' (neC b o e hx) e1 (I.base.free b o e n hx)
  · obtain ⟨o', e1⟩ := I.base.there b o e hx
    exact there b o' (neC b o e hx) e1
  · obtain ⟨m1, e1⟩ := I.base.tbls b ps e
    obtain ⟨m2, e2⟩ := tbls b _ e1
    exact ⟨m1 ++ m2, by rw [e2, Array.append_assoc]⟩
  · obtain ⟨m, hn, hl⟩ := I.loc
    refine ⟨m, ns m hn, fun i x v e1 e2 e3 => ?_⟩
    obtain ⟨u, r, l⟩ := hl i x v e1 e2 e3
    refine ⟨u, r, ?_⟩
    rcases l with l | ⟨k, c, e, z⟩
    · exact .inl l
    · exact .inr ⟨k, c, e, cellK x c e _ z⟩
  · obtain ⟨v, z⟩ := I.cell x c e
    exact ⟨v, cellK x c e v z⟩
  · obtain ⟨m, ⟨o, _, _, ho, _⟩, _⟩ := I.loc
    exact free _ o (fun z => (hch _ z).2.1 rfl) ho I.free
  · obtain ⟨v, o, ho, hd⟩ := I.cell x c e
    exact free c o (fun z => (hch c z).2.2.1 x c e rfl) ho (I.freeC x c e)
  · obtain ⟨e, n, ne, nf, d⟩ := I.pin p hp
    have nch : p.1 ∉ ch := fun z => (hch p.1 z).2.2.2 p hp rfl
    exact ⟨keep p.1 p.2 ne nf nch e n, free p.1 p.2 nch e n, ne, nf, d⟩
/-- .. where the frame's own object is kept too -/
theorem Inv.un {t' : Nat} (I : Inv X pins σ H s) (u : Un X.fs [] H H' s.heap h') (hok : HOk X.prog X.w H' h') : Inv X pins σ H' { s with heap := h', toks := t' } := by
  obtain ⟨m, ⟨o, es, ep, ho, r⟩, _⟩ := id I.loc
  obtain ⟨sl, hL⟩ := u.any ho I.free (by simp)
  exact I.step (g' := s.gens) (d' := s.drawn) (ch := []) (fun _ z => nomatch z) (fun b o _ hb _ e n => u.keep b o e n hb (by simp)) (fun b o _ hb _ e n => u.slot b o e n hb (by simp)) (fun b o _ e n => u.free b o e n (by simp)) (fun b o _ e => u.there b o e (by simp)) u.tups u.frzs u.tbls (fun m' hm => by
    obtain ⟨o', es', ep', ho', r'⟩ := hm
    rw [ho] at ho'; cases ho'
    exact ⟨_, es', ep', hL, r'⟩) hok I.bare
/-- behind a call (or a comprehension's block): the slots of this frame may have changed too, the records at ch may have turned -/
theorem Inv.call {g' : Array GenState} {t' : Nat} {d' : Drawn} {ch : List Addr} (I : Inv X pins σ H s) (u : Un (frs X.stack) ch H H' s.heap h') (hok : HOk X.prog X.w H' h') (hg : AllBare g')
    (hch : ∀ b ∈ ch, (b ∈ X.ex ∨ X.s₀.heap.objs.size ≤ b) ∧ b ≠ X.env.locals ∧ (∀ x c, X.env.cells.lookup x = some c → c ≠ b) ∧ ∀ p ∈ X.pn ++ pins, p.1 ≠ b) :
    Inv X pins σ H' { s with heap := h', gens := g', drawn := d', toks := t' } := by
  obtain ⟨m, ⟨o, es, ep, ho, r⟩, _⟩ := id I.loc
  obtain ⟨sl, hL⟩ := u.any ho I.free fun z => (hch _ z).2.1 rfl
  exact I.step (ch := ch) hch (fun b o hL hb hc e n => u.keep b o e n (fun z => (List.mem_cons.mp (I.stkSub b z)).elim hL hb) hc) (fun b o _ _ hc e n => u.any e n hc) (fun b o hc e n => u.free b o e n hc) (fun b o hc e => u.there b o e hc) u.tups u.frzs u.tbls (fun m' hm => by
    obtain ⟨o', es', ep', ho', r'⟩ := hm
    rw [ho] at ho'; cases ho'
    exact ⟨_, es', ep', hL, r'⟩) hok hg
/-- an untracked record of ours (an iterator) has turned -/
theorem Inv.turned {t' : Nat} {it : Addr} (I : Inv X pins σ H s) (k : ∀ b o, b ≠ it → s.heap.get? b = some o → h'.get? b = some o) (hn : H it = none) (hL : it ≠ X.env.locals)
    (h1 : it ∈ X.ex ∨ X.s₀.heap.objs.size ≤ it) (h2 : ∀ x c, X.env.cells.lookup x = some c → c ≠ it) (h3 : ∀ p ∈ X.pn ++ pins, p.1 ≠ it) : Inv X pins σ H { s with heap := h', toks := t' } := by
  have nit : ∀ b u, H b = some u → b ≠ it := fun b u e z => by rw [z, hn] at e; cases e
  refine I.step (g' := s.gens) (d' := s.drawn) (ch := [it]) (fun b hb => ?_) (fun b o _ _ hc e _ => k b o (fun z => hc (by simp [z])) e) (fun b o _ _ hc e _ => ⟨o.slots, k b o (fun z => hc (by simp [z])) e⟩) (fun _ _ _ _ n => n)
    (fun b o hc e => ⟨o, k b o (fun z => hc (by simp [z])) e⟩) (fun _ _ e => e) (fun _ _ _ e => e) (fun b ps e => ⟨#[], by rw [e]; simp⟩) (fun m hm => ?_) (fun b u e => ?_) I.bare
  · have e : b = it := by simpa using hb
    subst e
    exact ⟨h1, hL, h2, h3⟩
  · obtain ⟨o, es, ep, ho, r⟩ := hm
    exact ⟨o, es, ep, k _ o (Ne.symm hL) ho, r⟩
  · refine (I.hok b u e).stay (fun c v hc q => k c v ?_ q) (fun _ q => q) fun _ _ q => q
    rcases hc with z | z
    · rw [z]; exact nit b u e
    · exact nit c _ z
theorem Inv.tok (I : Inv X pins σ H s) (t : Nat) : Inv X pins σ H { s with toks := t } := I.un (h' := s.heap) (t' := t) Un.refl I.hok
/-- all objects kept -/
theorem Inv.kept {t' : Nat} (I : Inv X pins σ H s) (k : ∀ b u, s.heap.get? b = some u → h'.get? b = some u) : Inv X pins σ H { s with heap := h', toks := t' } := I.un (Un.kept k) (I.hok.kept k)
/-- a new object laid and tracked -/
theorem Inv.laid {a : Addr} {o : HO} {t' : Nat} (I : Inv X pins σ H s) (k : ∀ b u, s.heap.get? b = some u → h'.get? b = some u) (hp : s.heap.objs.size ≤ a) (new : ObjOk X.prog X.w (upd H a o) h' a o) :
    Inv X pins σ (upd H a o) { s with heap := h', toks := t' } := I.un (Un.laid k hp (I.hok.fresh hp)) (I.hok.laid k hp new)
/-- an object written -/
theorem Inv.write {x e : Addr} {o : HO} {t' : Nat} (I : Inv X pins σ H s) (mu : Mut (H x)) (he : e = x ∨ H e = some (.own x)) (k : ∀ b u, b ≠ e → s.heap.get? b = some u → h'.get? b = some u) (heo : ∃ u, h'.get? e = some u)
    (new : ObjOk X.prog X.w (upd H x o) h' x o) : Inv X pins σ (upd H x o) { s with heap := h', toks := t' } := I.un (Un.write mu he k heo) (I.hok.write mu he k heo new)
theorem Inv.pins_of {pins' : List (Addr × Obj)} (I : Inv X pins σ H s) (h : ∀ p ∈ pins', s.heap.get? p.1 = some p.2 ∧ H p.1 = none ∧ p.1 ≠ X.env.locals ∧ p.1 ∉ X.fs ∧ ∀ v, p.2.data ≠ .cell v) : Inv X pins' σ H s :=
  ⟨I.ok, I.os, I.bare, I.base, I.loc, I.cell, I.free, I.freeC, fun p hp => (List.mem_append.mp hp).elim (fun z => I.pin p (List.mem_append_left _ z)) (h p), I.hok, I.len⟩

theorem nodup_ix {N : List Str} (hN : N.Nodup) {i j : Nat} {x : Str} (a : N[i]? = some x) (b : N[j]? = some x) : i = j := by
  obtain ⟨h1, e1⟩ := List.getElem?_eq_some_iff.mp a
  obtain ⟨h2, e2⟩ := List.getElem?_eq_some_iff.mp b
  exact (List.getElem_inj hN).mp (e1.trans e2.symm)

/-- a name is stored; what changed -/
theorem store_ok2 {M : Model} {A : Around} {E : Value → Shared → Prop} {i : Nat} {x : Str} {v : V} {u : Value} {Q : Unit → Shared → Prop} (I : Inv X pins σ H s) (hN : X.N.Nodup) (hi : X.N[i]? = some x) (hx : Loc X.env.scope x) (r : RelV v u)
    (h : ∀ s', Inv X pins (σ.set i (some v)) H s' → (∃ a, Heap.SameBut a s.heap s'.heap ∧ (a = X.env.locals ∨ X.env.cells.lookup x = some a)) → Q () s') (hf : X.fn x = true ∨ X.env.scope.names.lookup x = some .local := by first | exact .inl rfl | exact .inr rfl | assumption) : wpAny M A (storeName X.env x u) Q E s := by
  obtain ⟨m, hn, hl⟩ := id I.loc
  have hcls : (X.env.scope.kind == .class || (X.env.scope.kind == .module && X.env.locals != X.env.globals)) = false := by rw [I.ok.kind]; rfl
  have hiσ : i < σ.length := by rw [I.len]; exact (List.getElem?_eq_some_iff.mp hi).1
  have cne := I.cne
  have tracked : ∀ {a : Addr} {h' : Heap}, (∃ o, s.heap.get? a = some o ∧ H a = none) → Heap.SameBut a s.heap h' → HOk X.prog X.w H h' := fun {a h'} ha hs b ob e => by
    obtain ⟨_, _, hfree⟩ := ha
    refine (I.hok b ob e).stay (fun c w' hc q => (hs.2 c ?_).trans q) (fun _ q => q) fun _ _ q => q
    rintro rfl
    rcases hc with rfl | hc
    · rw [hfree] at e; cases e
    · rw [hfree] at hc; cases hc
  rcases hx with hk | hk
  · refine wpAny_storeName_local hk hn (fun h' hn' hs => ?_) hcls
    obtain ⟨oL, _, _, hoL, _⟩ := id hn
    refine h _ ⟨I.ok, I.os, I.bare, ⟨fun b o e n hb hx => ?_, fun b o e n hb hx => ?_, I.base.free, fun b o e hx => ?_, I.base.tups, I.base.frzs, I.base.tbls⟩, ⟨_, hn', fun j y v' e1 e2 e3 => ?_⟩, fun y c e => ?_, I.free, I.freeC, fun p hp => ?_, tracked ⟨oL, hoL, I.free⟩ hs, by simpa using I.len⟩ ⟨_, hs, .inl rfl⟩
    · exact (hs.2 b (Nat.ne_of_lt (Nat.lt_of_lt_of_le (Heap.lt_size e) I.ok.above))).trans (I.base.keep b o e n hb hx)
    · obtain ⟨sl, e1⟩ := I.base.slot b o e n hb hx
      exact ⟨sl, (hs.2 b (Nat.ne_of_lt (Nat.lt_of_lt_of_le (Heap.lt_size e) I.ok.above))).trans e1⟩
    · obtain ⟨o', e1⟩ := I.base.there b o e hx
      exact ⟨o', (hs.2 b (Nat.ne_of_lt (Nat.lt_of_lt_of_le (Heap.lt_size e) I.ok.above))).trans e1⟩
    · by_cases hj : j = i
      · subst hj
        rw [hi] at e1; cases e1
        rw [List.getElem?_set_self hiσ] at e2
        cases e2
        exact ⟨u, r, .inl ⟨hk, by simp⟩⟩
      · rw [List.getElem?_set_ne (Ne.symm hj)] at e2
        obtain ⟨u', r', q⟩ := hl j y v' e1 e2 e3
        refine ⟨u', r', ?_⟩
        rcases q with ⟨k, e⟩ | ⟨k, c, e, z⟩
        · refine .inl ⟨k, ?_⟩
          have : y ≠ x := fun e => hj (nodup_ix hN e1 (e ▸ hi))
          simp [this, e]
        · exact .inr ⟨k, c, e, z.sameBut hs (cne y c e)⟩
    · obtain ⟨w', z⟩ := I.cell y c e
      exact ⟨w', z.sameBut hs (cne y c e)⟩
    · obtain ⟨e, n, ne, nf, d⟩ := I.pin p hp
      exact ⟨(hs.2 p.1 ne).trans e, n, ne, nf, d⟩
  · have hfn : X.fn x = true := by
      rcases hf with z | z
      · exact z
      · rw [z] at hk; cases hk
    obtain ⟨c, hc⟩ := I.ok.has x (.inl hk)
    obtain ⟨w', z⟩ := I.cell x c hc
    refine wpAny_storeName_cell I.ok.kind hk hc z (fun h' hc' hs => ?_)
    obtain ⟨oc, hoc, hocd⟩ := id z
    refine h { s with heap := h' } ⟨I.ok, I.os, I.bare, ⟨fun b o e n hb hx => ?_, fun b o e n hb hx => ?_, I.base.free, fun b o e hx => ?_, I.base.tups, I.base.frzs, I.base.tbls⟩, ⟨m, hn.sameBut hs (Ne.symm (cne x c hc)), fun j y v' e1 e2 e3 => ?_⟩, fun y c' e => ?_, I.free, I.freeC, fun p hp => ?_, tracked ⟨oc, hoc, I.freeC x c hc⟩ hs, by simpa using I.len⟩ ⟨c, hs, .inr hc⟩
    · exact (hs.2 b (Nat.ne_of_lt (Nat.lt_of_lt_of_le (Heap.lt_size e) (I.ok.cab x c hfn hc)))).trans (I.base.keep b o e n hb hx)
    · obtain ⟨sl, e1⟩ := I.base.slot b o e n hb hx
      exact ⟨sl, (hs.2 b (Nat.ne_of_lt (Nat.lt_of_lt_of_le (Heap.lt_size e) (I.ok.cab x c hfn hc)))).trans e1⟩
    · obtain ⟨o', e1⟩ := I.base.there b o e hx
      exact ⟨o', (hs.2 b (Nat.ne_of_lt (Nat.lt_of_lt_of_le (Heap.lt_size e) (I.ok.cab x c hfn hc)))).trans e1⟩
    · by_cases hj : j = i
      · subst hj
        rw [hi] at e1; cases e1
        rw [List.getElem?_set_self hiσ] at e2
        cases e2
        exact ⟨u, r, .inr ⟨.inl hk, c, hc, hc'⟩⟩
      · rw [List.getElem?_set_ne (Ne.symm hj)] at e2
        obtain ⟨u', r', q⟩ := hl j y v' e1 e2 e3
        refine ⟨u', r', ?_⟩
        rcases q with q | ⟨k, c', e, z'⟩
        · exact .inl q
        · refine .inr ⟨k, c', e, z'.sameBut hs ?_⟩
          rintro rfl
          exact hj (nodup_ix hN e1 (I.ok.inj _ _ _ e hc ▸ hi))
    · by_cases hcc : c' = c
      · subst hcc; exact ⟨_, hc'⟩
      · obtain ⟨w2, z2⟩ := I.cell y c' e
        exact ⟨w2, z2.sameBut hs hcc⟩
    · obtain ⟨e, n, ne, nf, d⟩ := I.pin p hp
      refine ⟨(hs.2 p.1 ?_).trans e, n, ne, nf, d⟩
      intro q
      rw [q, hoc] at e
      have q' : oc = p.2 := Option.some.inj e
      exact d w' (by rw [← q']; exact hocd)
theorem store_ok {M : Model} {A : Around} {E : Value → Shared → Prop} {i : Nat} {x : Str} {v : V} {u : Value} {Q : Unit → Shared → Prop} (I : Inv X pins σ H s) (hN : X.N.Nodup) (hi : X.N[i]? = some x) (hx : Loc X.env.scope x) (r : RelV v u)
    (h : ∀ s', Inv X pins (σ.set i (some v)) H s' → Q () s') (hf : X.fn x = true ∨ X.env.scope.names.lookup x = some .local := by first | exact .inl rfl | exact .inr rfl | assumption) : wpAny M A (storeName X.env x u) Q E s :=
  store_ok2 I hN hi hx r (fun s' I' _ => h s' I') hf
/-- behind a call or a block, the state as it is -/
theorem Inv.call' {s' : Shared} {ch : List Addr} (I : Inv X pins σ H s) (ho : s'.os = s.os) (u : Un (frs X.stack) ch H H' s.heap s'.heap) (hok : HOk X.prog X.w H' s'.heap) (hg : AllBare s'.gens)
    (hch : ∀ b ∈ ch, (b ∈ X.ex ∨ X.s₀.heap.objs.size ≤ b) ∧ b ≠ X.env.locals ∧ (∀ x c, X.env.cells.lookup x = some c → c ≠ b) ∧ ∀ p ∈ X.pn ++ pins, p.1 ≠ b) : Inv X pins σ H' s' := by
  obtain ⟨h', g', d', t', o'⟩ := s'
  have e : o' = s.os := ho
  subst e
  exact I.call (g' := g') (t' := t') (d' := d') u hok hg hch
end

/-! ### the judgements -/
/-- an exception: its class, its own dict's address (where it has one), the abstract heap behind it -/
abbrev XK := Value → Option Addr → Hp → Prop
abbrev St := List (Option V)
abbrev VK := V → Hp → Prop
/-- an expression's reading; a test's; an argument list's -/
abbrev TE := St → Hp → VK → Prop
abbrev TT := St → Hp → (Bool → Hp → Prop) → Prop
abbrev TA := St → Hp → (List V → Hp → Prop) → Prop
/-- what is wanted behind a statement -/
structure Ends where
  nx : St → Hp → Prop
  rt : VK
  bk : St → Hp → Prop := fun _ _ => False
  ct : St → Hp → Prop := fun _ _ => False
abbrev TS := Ends → St → Hp → Prop

def EP (X : Cx) (pins : List (Addr × Obj)) (σ : St) (Q : VK) (u : Value) (s' : Shared) : Prop := ∃ v H', Inv X pins σ H' s' ∧ RelV v u ∧ Q v H'
def TP (X : Cx) (pins : List (Addr × Obj)) (σ : St) (Q : Bool → Hp → Prop) (b : Bool) (s' : Shared) : Prop := ∃ H', Inv X pins σ H' s' ∧ Q b H'
def AP (X : Cx) (pins : List (Addr × Obj)) (σ : St) (Q : List V → Hp → Prop) (us : List Value) (s' : Shared) : Prop := ∃ vs H', Inv X pins σ H' s' ∧ Vals vs us ∧ Q vs H'
def SP (X : Cx) (pins : List (Addr × Obj)) (D : Ends) (f : Flow) (s' : Shared) : Prop :=
  match f with
  | .next => ∃ σ' H', Inv X pins σ' H' s' ∧ D.nx σ' H'
  | .brk => ∃ σ' H', Inv X pins σ' H' s' ∧ D.bk σ' H'
  | .cont => ∃ σ' H', Inv X pins σ' H' s' ∧ D.ct σ' H'
  | .ret u => ∃ v σ' H', Inv X pins σ' H' s' ∧ RelV v u ∧ D.rt v H'

def PE (X : Cx) (e : Expr) (t : TE) : Prop :=
  ∀ (pins : List (Addr × Obj)) (s : Shared) (σ : St) (H : Hp) (Q : VK), Inv X pins σ H s → t σ H Q → wpAny (model X.prog X.w) X.A (eval e X.env) (EP X pins σ Q) X.xe s
def PT (X : Cx) (e : Expr) (t : TT) : Prop :=
  ∀ (pins : List (Addr × Obj)) (s : Shared) (σ : St) (H : Hp) (Q : Bool → Hp → Prop), Inv X pins σ H s → t σ H Q → wpAny (model X.prog X.w) X.A (isTrue e X.env (eval e X.env)) (TP X pins σ Q) X.xe s
/-- a test whatever its 'whole' is (and, or) -/
def PW (X : Cx) (e : Expr) (t : TT) : Prop :=
  ∀ (whole : Sem Value) (pins : List (Addr × Obj)) (s : Shared) (σ : St) (H : Hp) (Q : Bool → Hp → Prop), Inv X pins σ H s → t σ H Q → wpAny (model X.prog X.w) X.A (isTrue e X.env whole) (TP X pins σ Q) X.xe s
theorem PW.pt {X : Cx} {e : Expr} {t : TT} (h : PW X e t) : PT X e t := h _
/-- an argument list (no star), from the left -/
def PA (X : Cx) (es : List Expr) (t : TA) : Prop :=
  ∀ (pos : Pos) (pins : List (Addr × Obj)) (s : Shared) (σ : St) (H : Hp) (Q : List V → Hp → Prop), Inv X pins σ H s → t σ H Q → wpAny (model X.prog X.w) X.A (spliced (backTo pos (starEach es X.env))) (AP X pins σ Q) X.xe s
def PS (X : Cx) (st : Stmt) (t : TS) : Prop :=
  ∀ (pins : List (Addr × Obj)) (s : Shared) (σ : St) (H : Hp) (D : Ends), Inv X pins σ H s → t D σ H → wpAny (model X.prog X.w) X.A (exec st X.env) (SP X pins D) X.xe s
def PSs (X : Cx) (st : List Stmt) (t : TS) : Prop :=
  ∀ (pins : List (Addr × Obj)) (s : Shared) (σ : St) (H : Hp) (D : Ends), Inv X pins σ H s → t D σ H → wpAny (model X.prog X.w) X.A (execs st X.env) (SP X pins D) X.xe s
/-- weaken the end -/
theorem thn {α : Type} {t : Sem α} {Q Q' : α → Shared → Prop} {M : Model} {A : Around} {E : Value → Shared → Prop} {s : Shared} (h : wpAny M A t Q E s) (hQ : ∀ a s, Q a s → Q' a s) : wpAny M A t Q' E s := wpAny_mono h hQ fun _ _ x => x
end L2

namespace L2
open PySem PySem.Spec PyProof.Rows
section
variable {X : Cx}

/-- two expressions in a row -/
theorem bin {a b : Expr} {ta tb : TE} (ha : PE X a ta) (hb : PE X b tb) {pins : List (Addr × Obj)} {s : Shared} {σ : St} {H : Hp} {R : V → V → Hp → Prop} (I : Inv X pins σ H s) (h : ta σ H fun x H1 => tb σ H1 fun y H2 => R x y H2)
    {α : Type} {Q : α → Shared → Prop} {f : Value → Value → Sem α}
    (hf : ∀ v u s2 x y H2, Inv X pins σ H2 s2 → RelV x v → RelV y u → R x y H2 → wpAny (model X.prog X.w) X.A (f v u) Q X.xe s2) :
    wpAny (model X.prog X.w) X.A (eval a X.env) (fun v s₁ => wpAny (model X.prog X.w) X.A (eval b X.env) (fun u s₂ => wpAny (model X.prog X.w) X.A (f v u) Q X.xe s₂) X.xe s₁) X.xe s := by
  refine thn (ha pins s σ H _ I h) fun v s1 ⟨x, H1, I1, r1, q1⟩ => ?_
  refine thn (hb pins s1 σ H1 _ I1 q1) fun u s2 ⟨y, H2, I2, r2, q2⟩ => ?_
  exact hf v u s2 x y H2 I2 r1 r2 q2

/-! ### names and constants -/
def tVar (i : Nat) : TE := fun σ H Q => ∃ v, σ[i]? = some (some v) ∧ Q v H
def tC (v : V) : TE := fun _ H Q => Q v H
theorem pe_var {i : Nat} {x : Str} {pos : Pos} (hN : X.N[i]? = some x) (hv : Vis X.env.scope x) (hd : (x == ("__debug__" : Str)) = false := by decide) (hcd : (x == ("__classdict__" : Str)) = false := by decide) : PE X (.Name x pos) (tVar i) := by
  intro pins s σ H Q I h
  obtain ⟨v, e, h⟩ := h
  obtain ⟨m, hn, hl⟩ := I.loc
  obtain ⟨u, r, l⟩ := hl i x v hN e hv
  have fin : EP X pins σ Q u s := ⟨v, H, I, r, h⟩
  rcases l with ⟨hk, hm⟩ | ⟨hk, c, hc, hcell⟩
  · exact wpAny_Name (wpAny_loadName_local I.ok.kind hk hn hm fin) hd
  · rcases hk with hk | hk
    · exact wpAny_Name (wpAny_loadName_cell I.ok.kind hk hc hcell fin) hd
    · exact wpAny_Name (wpAny_loadName_free I.ok.kind hk hc hcell fin hcd) hd
theorem pe_int {i j pos} : PE X (.Constant (.int i) j pos) (tC (.int i)) := fun _ _ _ H _ I h => wpAny_Constant_int ⟨.int i, H, I.tok _, ⟨_, rfl⟩, h⟩
theorem pe_bl {b j pos} : PE X (.Constant (.bool b) j pos) (tC (.bl b)) := fun _ _ _ H _ I h => Constant_bool ⟨.bl b, H, I, rfl, h⟩
theorem pe_str {x j pos} : PE X (.Constant (.str x) j pos) (tC (.str x)) := fun _ _ _ H _ I h => Calls.Constant_str ⟨.str x, H, I.tok _, ⟨_, rfl⟩, h⟩

/-- a global name of the def -/
def Gl (X : Cx) (x : Str) : Prop := X.env.kindOf x = some .globalImplicit
theorem ld_glob {E : Value → Shared → Prop} {pins : List (Addr × Obj)} {s : Shared} {σ : St} {H : Hp} {x : Str} {u : Value} {pos : Pos} {Q : Value → Shared → Prop} (I : Inv X pins σ H s) (hg : Gl X x) (hm : X.mg x = some u) (h : Q u s)
    (hd : (x == ("__debug__" : Str)) = false := by decide) : wpAny (model X.prog X.w) X.A (eval (.Name x pos) X.env) Q E s :=
  Calls.Name_function_global I.ok.kind hg (Calls.loadGlobal_global (by rw [I.ok.glob]; exact I.mod.glob.keeps I.bk) hm h) hd
theorem ld_blt {E : Value → Shared → Prop} {pins : List (Addr × Obj)} {s : Shared} {σ : St} {H : Hp} {x : Str} {u : Value} {pos : Pos} {Q : Value → Shared → Prop} (I : Inv X pins σ H s) (hg : Gl X x) (hm : X.mg x = none) (hv : bootBuiltins x = some u) (h : Q u s)
    (hn : x ≠ "__name__" := by decide) (hd : (x == ("__debug__" : Str)) = false := by decide) : wpAny (model X.prog X.w) X.A (eval (.Name x pos) X.env) Q E s := by
  obtain ⟨mb, h1, h2⟩ := I.mod.blt
  exact Calls.Name_function_global I.ok.kind hg (Calls.loadGlobal_builtin (by rw [I.ok.glob]; exact I.mod.glob.keeps I.bk) hm (by rw [I.ok.blt]; exact h1.keeps I.bk) ((h2 x hn).trans hv) h) hd
/-- a module's constant, a class, a function, as a value -/
theorem pe_glob {x : Str} {v : V} {u : Value} {pos : Pos} (hg : Gl X x) (hm : X.mg x = some u) (r : RelV v u) (hd : (x == ("__debug__" : Str)) = false := by decide) : PE X (.Name x pos) (tC v) :=
  fun _ _ _ H _ I h => ld_glob I hg hm ⟨v, H, I, r, h⟩ hd
theorem pe_bltn {x : Str} {v : V} {u : Value} {pos : Pos} (hg : Gl X x) (hm : X.mg x = none) (hv : bootBuiltins x = some u) (r : RelV v u) (hn : x ≠ "__name__" := by decide) (hd : (x == ("__debug__" : Str)) = false := by decide) : PE X (.Name x pos) (tC v) :=
  fun _ _ _ H _ I h => ld_blt I hg hm hv ⟨v, H, I, r, h⟩ hn hd

/-! ### arithmetic -/
/-- two ints -/
def t2I (ta tb : TE) (k : Int → Int → Hp → Prop) : St → Hp → Prop := fun σ H => ta σ H fun x H1 => tb σ H1 fun y H2 => ∃ i j, x = .int i ∧ y = .int j ∧ k i j H2
def tAdd (ta tb : TE) : TE := fun σ H Q => t2I ta tb (fun i j H2 => Q (.int (i + j)) H2) σ H
def tSub (ta tb : TE) : TE := fun σ H Q => t2I ta tb (fun i j H2 => Q (.int (i - j)) H2) σ H
/-- the left factor below 2^64 -/
def tMul (ta tb : TE) : TE := fun σ H Q => t2I ta tb (fun i j H2 => (-(2 ^ 64) < i ∧ i < 2 ^ 64) ∧ Q (.int (i * j)) H2) σ H
variable {a b : Expr} {ta tb : TE} {pos : Pos}
/-! ### comparisons -/
def PC (X : Cx) (op : CmpOp) (a b : Expr) (t : TE) : Prop :=
  ∀ (pins : List (Addr × Obj)) (s : Shared) (σ : St) (H : Hp) (Q : VK), Inv X pins σ H s → t σ H Q →
    wpAny (model X.prog X.w) X.A (eval a X.env) (fun v s₁ => wpAny (model X.prog X.w) X.A (eval b X.env) (fun u s₂ => wpAny (model X.prog X.w) X.A (compareOp op v u) (EP X pins σ Q) X.xe s₂) X.xe s₁) X.xe s
def tCmp (p : Int → Int → Bool) (ta tb : TE) : TE := fun σ H Q => t2I ta tb (fun i j H2 => Q (.bl (p i j)) H2) σ H
abbrev tLt : TE → TE → TE := tCmp fun i j => decide (i < j)
abbrev tLe : TE → TE → TE := tCmp fun i j => decide (i ≤ j)
abbrev tGt : TE → TE → TE := tCmp fun i j => decide (j < i)
abbrev tGe : TE → TE → TE := tCmp fun i j => decide (j ≤ i)
abbrev tEqI : TE → TE → TE := tCmp fun i j => decide (i = j)
abbrev tNeI : TE → TE → TE := tCmp fun i j => !decide (i = j)
/-- is None -/
def tIsN (ta : TE) : TE := fun σ H Q => ta σ H fun x H1 => Q (.bl (decide (x = .non))) H1
def tNotN (ta : TE) : TE := fun σ H Q => ta σ H fun x H1 => Q (.bl (!decide (x = .non))) H1
/-- a comparison as a value, as a test -/
def tB (t : TE) : TT := fun σ H Q => t σ H fun x H1 => ∃ c, x = .bl c ∧ Q c H1
theorem pt_cmp {op : CmpOp} {t : TE} (h : PC X op a b t) (h1 : behindInMarks op b = false := by first | exact nobehind _ (by decide) (by decide) | rfl) : PT X (.Compare a [op] [b] pos) (tB t) := by
  intro pins s σ H Q I hw
  refine wpAny_isTrue_Compare1 (thn (h pins s σ H _ I hw) fun v s1 h1 => thn h1 fun u s2 h2 => thn h2 fun c s3 ⟨x, H1, I1, r1, q1⟩ => ?_) h1
  obtain ⟨d, rfl, q⟩ := q1
  cases r1
  exact wpAny_truthy_bool ⟨H1, I1, q⟩
/-- an expression whose value is a bool, as a test -/
theorem pt_val {e : Expr} {t : TE} (h : PE X e t) (he : ∀ whole, isTrue e X.env whole = (do let v ← whole; standAt e.pos; holding [v] (truthy v)) := by intro _; rfl) : PT X e (tB t) := by
  intro pins s σ H Q I hw
  refine isTrue_plain (thn (h pins s σ H _ I hw) fun v s1 ⟨x, H1, I1, r1, q1⟩ => ?_) (he _)
  obtain ⟨d, rfl, q⟩ := q1
  cases r1
  exact wpAny_truthy_bool ⟨H1, I1, q⟩

/-! ### and, or, not -/
variable {tA tB' : TT} {rest : List Expr}
def tAnd (t u : TT) : TT := fun σ H Q => t σ H fun c H1 => if c = true then u σ H1 Q else Q false H1
def tOr (t u : TT) : TT := fun σ H Q => t σ H fun c H1 => if c = true then Q true H1 else u σ H1 Q
def tNot (t : TT) : TT := fun σ H Q => t σ H fun c H1 => Q (!c) H1
theorem pw_and1 (ha : PT X a tA) : PW X (.BoolOp .And [a] pos) tA := by
  intro wh pins s σ H Q I h
  refine isTrue_and (thn (ha pins s σ H Q I h) fun c s1 e => ?_)
  cases c with
  | true => exact isTrue_and_nil e
  | false => exact e
theorem pw_or1 (ha : PT X a tA) : PW X (.BoolOp .Or [a] pos) tA := by
  intro wh pins s σ H Q I h
  refine isTrue_or (thn (ha pins s σ H Q I h) fun c s1 e => ?_)
  cases c with
  | false => exact isTrue_or_nil e
  | true => exact e
theorem pw_and (ha : PT X a tA) (hb : PW X (.BoolOp .And (b :: rest) pos) tB') : PW X (.BoolOp .And (a :: b :: rest) pos) (tAnd tA tB') := by
  intro wh pins s σ H Q I h
  refine isTrue_and (thn (ha pins s σ H _ I h) fun c s1 ⟨H1, I1, q1⟩ => ?_)
  cases c with
  | true => exact hb wh pins s1 σ H1 Q I1 q1
  | false => exact ⟨H1, I1, q1⟩
theorem pw_or (ha : PT X a tA) (hb : PW X (.BoolOp .Or (b :: rest) pos) tB') : PW X (.BoolOp .Or (a :: b :: rest) pos) (tOr tA tB') := by
  intro wh pins s σ H Q I h
  refine isTrue_or (thn (ha pins s σ H _ I h) fun c s1 ⟨H1, I1, q1⟩ => ?_)
  cases c with
  | true => exact ⟨H1, I1, q1⟩
  | false => exact hb wh pins s1 σ H1 Q I1 q1
theorem pt_not (ha : PT X a tA) : PT X (.UnaryOp .Not a pos) (tNot tA) := by
  intro pins s σ H Q I h
  exact isTrue_not (ha pins s σ H (fun c H1 => Q (!c) H1) I h)
/-- .. as values (bools) -/
def tAndV (ta tb : TE) : TE := fun σ H Q => ta σ H fun x H1 => ∃ c, x = .bl c ∧ if c = true then tb σ H1 Q else Q (.bl false) H1
def tOrV (ta tb : TE) : TE := fun σ H Q => ta σ H fun x H1 => ∃ c, x = .bl c ∧ if c = true then Q (.bl true) H1 else tb σ H1 Q
def tNotV (ta : TE) : TE := fun σ H Q => ta σ H fun x H1 => ∃ c, x = .bl c ∧ Q (.bl (!c)) H1
theorem pe_one {op} {t : TE} (h : PE X a t) : PE X (.BoolOp op [a] pos) t := fun pins s σ H Q I hw => BoolOp_one (h pins s σ H Q I hw)
theorem pe_and (ha : PE X a ta) (hb : PE X (.BoolOp .And (b :: rest) pos) tb) : PE X (.BoolOp .And (a :: b :: rest) pos) (tAndV ta tb) := by
  intro pins s σ H Q I h
  refine BoolOp_and (thn (ha pins s σ H _ I h) fun v s1 ⟨x, H1, I1, r1, q1⟩ => ?_)
  obtain ⟨c, rfl, q1⟩ := q1
  cases r1
  refine wpAny_truthy_bool ?_
  cases c with
  | true => exact hb pins s1 σ H1 Q I1 q1
  | false => exact ⟨.bl false, H1, I1, rfl, q1⟩
/-- a if t else b -/
def tIf (t : TT) (ta tb : TE) : TE := fun σ H Q => t σ H fun c H1 => if c = true then ta σ H1 Q else tb σ H1 Q
end
end L2

namespace L2
open PySem PySem.Spec PyProof.Rows

/-! ### a list, a tuple that is read: tracked, frozen, or an object of the module -/
def SqL (K : PySem.W.Frag) (H : Hp) (a : Addr) (xs : List V) : Prop :=
  Rd H a (.lst xs) ∨
    ∃ (o : Obj) (its : Array Value) (n : Nat), K.lookup a = some o ∧ o.cls = .type "list" ∧ o.dict = none ∧ o.data = .seq its n ∧ its.size ≤ sizeLine ∧ Vals xs its.toList
def SqT (K : PySem.W.Frag) (H : Hp) (a : Addr) (xs : List V) : Prop :=
  Rd H a (.tup xs) ∨
    ∃ (o : Obj) (its : Array Value) (n : Nat), K.lookup a = some o ∧ o.cls = .type "tuple" ∧ o.data = .seq its n ∧ its.size ≤ sizeLine ∧ Vals xs its.toList
def absV : Value → Option V
  | .none => some .non
  | .bool b => some (.bl b)
  | .int i _ => some (.int i)
  | .str x _ => some (.str x)
  | .bytes b _ => some (.byt b)
  | .float b _ => some (.flt b)
  | .ref a => some (.ref a)
  | .type n => some (.ty n)
  | _ => none
theorem RelV.abs {x : V} {u : Value} (r : RelV x u) : absV u = some x := by
  cases x with
  | non => cases r; rfl
  | bl _ => cases r; rfl
  | int _ => obtain ⟨t, rfl⟩ := r; rfl
  | str _ => obtain ⟨t, rfl⟩ := r; rfl
  | byt _ => obtain ⟨t, rfl⟩ := r; rfl
  | flt _ => obtain ⟨t, rfl⟩ := r; rfl
  | ref _ => cases r; rfl
  | ty _ => cases r; rfl
theorem RelV.inj {x y : V} {u : Value} (r : RelV x u) (q : RelV y u) : x = y := Option.some.inj (r.abs.symm.trans q.abs)
theorem Vals.inj : ∀ {xs ys : List V} {us : List Value}, Vals xs us → Vals ys us → xs = ys
  | _, _, _, .nil, .nil => rfl
  | _, _, _, .cons r t, .cons r' t' => by rw [r.inj r', Vals.inj t t']
section
variable {X : Cx} {pins : List (Addr × Obj)} {σ : St} {H : Hp} {s : Shared} {a : Addr} {xs ys : List V}
theorem SqL.of {K : PySem.W.Frag} (h : H a = some (.lst xs)) : SqL K H a xs := .inl (.inl h)
theorem Inv.list (I : Inv X pins σ H s) (h : SqL X.K H a xs) : ∃ its : List Value, Vals xs its ∧ PlainL s.heap a its.toArray ∧ xs.length ≤ sizeLine := by
  rcases h with h | ⟨o, its, n, hk, hc, hd, hs, hz, r⟩
  · obtain ⟨z, its, n, r, e⟩ := h.ok I.hok
    exact ⟨its, r, ⟨_, n, e, rfl, rfl, rfl⟩, z⟩
  · refine ⟨its.toList, r, ⟨o, n, I.kIn a o hk, hc, hd, by simpa using hs⟩, ?_⟩
    have e := r.length
    simp only [Array.length_toList] at e
    omega
theorem Inv.tuple (I : Inv X pins σ H s) (h : SqT X.K H a xs) : ∃ its : List Value, Vals xs its ∧ IsTup s.heap a its.toArray ∧ xs.length ≤ sizeLine := by
  rcases h with h | ⟨o, its, n, hk, hc, hs, hz, r⟩
  · obtain ⟨z, its, r, p⟩ := h.ok I.hok
    exact ⟨its, r, p, z⟩
  · refine ⟨its.toList, r, ⟨o, I.kIn a o hk, hc, n, by simpa using hs⟩, ?_⟩
    have e := r.length
    simp only [Array.length_toList] at e
    omega
theorem Inv.list_inj (I : Inv X pins σ H s) (h : SqL X.K H a xs) (h' : SqL X.K H a ys) : xs = ys := by
  obtain ⟨its, r, ⟨o, n, e, _, _, d⟩, _⟩ := I.list h
  obtain ⟨its', r', ⟨o', n', e', _, _, d'⟩, _⟩ := I.list h'
  rw [e] at e'; cases e'
  rw [d] at d'
  injection d' with d1 _
  have : its = its' := by simpa using congrArg Array.toList d1
  subst this
  exact r.inj r'
end

/-! ### another wish about exceptions -/
abbrev Cx.wish (X : Cx) (E : Value → Shared → Prop) : Cx := { X with xe := E }
/-- no exception leaves -/
abbrev Cx.nox (X : Cx) : Cx := X.wish fun _ _ => False
theorem Cx.Ok.wish {X : Cx} (ok : X.Ok) (E : Value → Shared → Prop) : (X.wish E).Ok :=
  ⟨ok.mod, ok.kind, ok.glob, ok.blt, ok.above, ok.inj, ok.has, ok.cab, ok.hd, ok.frames, ok.stk, ok.exf, ok.bs, ok.bsz, ok.noex, ok.exfs, ok.funs, ok.frf⟩
theorem Cx.Ok.unwish {X : Cx} {E : Value → Shared → Prop} (ok : (X.wish E).Ok) : X.Ok :=
  ⟨ok.mod, ok.kind, ok.glob, ok.blt, ok.above, ok.inj, ok.has, ok.cab, ok.hd, ok.frames, ok.stk, ok.exf, ok.bs, ok.bsz, ok.noex, ok.exfs, ok.funs, ok.frf⟩
section
variable {X : Cx} {pins : List (Addr × Obj)} {σ : St} {H : Hp} {s : Shared} {E : Value → Shared → Prop}
theorem Inv.wish (I : Inv X pins σ H s) (E : Value → Shared → Prop) : Inv (X.wish E) pins σ H s := ⟨I.ok.wish E, I.os, I.bare, I.base, I.loc, I.cell, I.free, I.freeC, I.pin, I.hok, I.len⟩
theorem Inv.unwish (I : Inv (X.wish E) pins σ H s) : Inv X pins σ H s := ⟨I.ok.unwish, I.os, I.bare, I.base, I.loc, I.cell, I.free, I.freeC, I.pin, I.hok, I.len⟩
theorem SP.unwish {D : Ends} {f : Flow} {s' : Shared} (h : SP (X.wish E) pins D f s') : SP X pins D f s' := by
  cases f with
  | next => obtain ⟨σ', H', I, q⟩ := h; exact ⟨σ', H', I.unwish, q⟩
  | brk => obtain ⟨σ', H', I, q⟩ := h; exact ⟨σ', H', I.unwish, q⟩
  | cont => obtain ⟨σ', H', I, q⟩ := h; exact ⟨σ', H', I.unwish, q⟩
  | ret u => obtain ⟨v, σ', H', I, r, q⟩ := h; exact ⟨v, σ', H', I.unwish, r, q⟩
theorem PSs.nox {st : List Stmt} {t : TS} (h : PSs X.nox st t) : PSs X st t := fun pins s σ H D I hw =>
  wpAny_mono (h pins s σ H D (I.wish _) hw) (fun _ _ q => q.unwish) fun _ _ z => False.elim z
end

/-! ### blocks and small statements -/
section
variable {X : Cx} {st : Stmt} {rest : List Stmt} {t u : TS} {e : Expr} {te : TE} {pos : Pos}
def tNext : TS := fun D σ H => D.nx σ H
def tSeq (t u : TS) : TS := fun D σ H => t { D with nx := u D } σ H
theorem pss_nil : PSs X [] tNext := fun _ _ σ H _ I h => wpAny_execs_nil ⟨σ, H, I, h⟩
theorem pss_cons (h1 : PS X st t) (h2 : PSs X rest u) : PSs X (st :: rest) (tSeq t u) := by
  intro pins s σ H D I h
  refine wpAny_execs_cons (thn (h1 pins s σ H { D with nx := u D } I h) fun f s1 q => ?_)
  cases f with
  | next =>
    obtain ⟨σ', H', I', q⟩ := q
    exact h2 pins s1 σ' H' D I' q
  | ret v => exact q
  | brk => exact q
  | cont => exact q
theorem pss_one (h1 : PS X st t) : PSs X [st] t := by
  intro pins s σ H D I h
  refine wpAny_execs_cons (thn (h1 pins s σ H D I h) fun f s1 q => ?_)
  cases f with
  | next => exact wpAny_execs_nil q
  | ret v => exact q
  | brk => exact q
  | cont => exact q
def tBreak : TS := fun D σ H => D.bk σ H
def tCont : TS := fun D σ H => D.ct σ H
/-- in a def's body nothing is shown -/
theorem Inv.quiet {pins : List (Addr × Obj)} {σ : St} {H : Hp} {s : Shared} (I : Inv X pins σ H s) : interactive X.env = false := by simp [interactive, I.ok.kind]
/-- an expression whose value is dropped -/
def tDrop (te : TE) : TS := fun D σ H => te σ H fun _ H1 => D.nx σ H1
theorem ps_expr (he : PE X e te) (hs : swapsWith e none pos.line X.env = pure false := by rfl) : PS X (.Expr e pos) (tDrop te) := by
  intro pins s σ H D I h
  exact wpAny_Expr_any (thn (he pins s σ H _ I h) fun v s1 ⟨x, H1, I1, r1, q1⟩ => ⟨σ, H1, I1, q1⟩) I.quiet hs
def tRet (te : TE) : TS := fun D σ H => te σ H D.rt
theorem ps_ret (he : PE X e te) : PS X (.Return (some e) pos) (tRet te) := by
  intro pins s σ H D I h
  exact wpAny_Return_some (thn (he pins s σ H _ I h) fun v s1 ⟨x, H1, I1, r1, q1⟩ => ⟨x, σ, H1, I1, r1, q1⟩)
def tRetN : TS := fun D _ H => D.rt .non H
def tIfS (c : TT) (t u : TS) : TS := fun D σ H => c σ H fun b H1 => if b = true then t D σ H1 else u D σ H1
theorem ps_if {c : Expr} {a b : List Stmt} {tc : TT} (hc : PT X c tc) (ha : PSs X a t) (hb : PSs X b u) : PS X (.If c a b pos) (tIfS tc t u) := by
  intro pins s σ H D I h
  refine wpAny_If (thn (hc pins s σ H _ I h) fun d s1 ⟨H1, I1, q1⟩ => ?_)
  cases d with
  | true => exact ha pins s1 σ H1 D I1 q1
  | false => exact hb pins s1 σ H1 D I1 q1
/-- code that the proof never comes to -/
def tNever : TS := fun _ _ _ => False
theorem ps_never : PS X st tNever := fun _ _ _ _ _ _ h => h.elim
end

/-! ### targets -/
abbrev TG := V → St → Hp → (St → Hp → Prop) → Prop
abbrev TGs := List V → St → Hp → (St → Hp → Prop) → Prop
def PG (X : Cx) (target : Expr) (t : TG) : Prop :=
  ∀ (pins : List (Addr × Obj)) (s : Shared) (σ : St) (H : Hp) (v : V) (u : Value) (Q : St → Hp → Prop), Inv X pins σ H s → RelV v u → t v σ H Q →
    wpAny (model X.prog X.w) X.A (assign target X.env u) (fun _ s' => ∃ σ' H', Inv X pins σ' H' s' ∧ Q σ' H') X.xe s
/-- several targets, one after another -/
def PGs (X : Cx) (ts : List Expr) (t : TGs) : Prop :=
  ∀ (pins : List (Addr × Obj)) (s : Shared) (σ : St) (H : Hp) (vs : List V) (us : List Value) (Q : St → Hp → Prop), Inv X pins σ H s → Vals vs us → t vs σ H Q →
    wpAny (model X.prog X.w) X.A (assignInOrder ((assignEach ts X.env).map (·.2)) us) (fun _ s' => ∃ σ' H', Inv X pins σ' H' s' ∧ Q σ' H') X.xe s
/-- o[i] = v, by values -/
abbrev TSet := V → V → V → Hp → (Hp → Prop) → Prop
def PSet (X : Cx) (t : TSet) : Prop :=
  ∀ (pins : List (Addr × Obj)) (s : Shared) (σ : St) (H : Hp) (o i v : V) (ov iv u : Value) (Q : Hp → Prop), Inv X pins σ H s → RelV o ov → RelV i iv → RelV v u → t o i v H Q →
    wpAny (model X.prog X.w) X.A (setItem ov iv u) (fun _ s' => ∃ H', Inv X pins σ H' s' ∧ Q H') X.xe s
/-- a op= b, by values -/
abbrev TIp := V → V → Hp → VK → Prop
def PIp (X : Cx) (op : Operator) (t : TIp) : Prop :=
  ∀ (pins : List (Addr × Obj)) (s : Shared) (σ : St) (H : Hp) (x y : V) (v u : Value) (Q : VK), Inv X pins σ H s → RelV x v → RelV y u → t x y H Q →
    wpAny (model X.prog X.w) X.A (inplaceOp op v u) (EP X pins σ Q) X.xe s
section
variable {X : Cx} {pos : Pos}
def gName (i : Nat) : TG := fun v σ H Q => Q (σ.set i (some v)) H
theorem pg_name {i : Nat} {x : Str} (hN : X.N.Nodup) (hi : X.N[i]? = some x) (hx : Loc X.env.scope x) (hf : X.fn x = true ∨ X.env.scope.names.lookup x = some .local := by first | exact .inl rfl | exact .inr rfl | assumption) : PG X (.Name x pos) (gName i) := by
  intro pins s σ H v u Q I r h
  exact wpAny_assign_Name (store_ok I hN hi hx r (fun s' I' => ⟨_, H, I', h⟩) hf)
def gNil : TGs := fun vs σ H Q => vs = [] ∧ Q σ H
def gCons (t : TG) (u : TGs) : TGs := fun vs σ H Q => ∃ v r, vs = v :: r ∧ t v σ H fun σ' H' => u r σ' H' Q
theorem pgs_nil : PGs X [] gNil := by
  intro pins s σ H vs us Q I r h
  obtain ⟨e, h⟩ := h
  subst e
  cases r
  exact assignInOrder_nil ⟨σ, H, I, h⟩
theorem pgs_cons {e : Expr} {es : List Expr} {t : TG} {u : TGs} (h1 : PG X e t) (h2 : PGs X es u)
    (hs : (assignEach (e :: es) X.env).map (·.2) = assign e X.env :: (assignEach es X.env).map (·.2) := by rfl) : PGs X (e :: es) (gCons t u) := by
  intro pins s σ H vs us Q I r h
  obtain ⟨v, vr, e1, h⟩ := h
  subst e1
  cases r with
  | cons r rr =>
    rw [hs]
    refine assignInOrder_cons (thn (h1 pins s σ H _ _ _ I r h) fun _ s1 ⟨σ1, H1, I1, q1⟩ => ?_)
    exact h2 pins s1 σ1 H1 _ _ Q I1 rr q1
/-- (a, b, ..) = a tuple of that length -/
def gTup (K : PySem.W.Frag) (n : Nat) (t : TGs) : TG := fun v σ H Q => ∃ a xs, v = .ref a ∧ SqT K H a xs ∧ xs.length = n ∧ t xs σ H Q
theorem pg_tup {es : List Expr} {k : Nat} {t : TGs} {n : Nat} (hc : X.calm = true) (h : PGs X es t)
    (hn : (assignEach es X.env).length = n := by rfl) (hst : (assignEach es X.env).findIdx? (·.1) = none := by rfl) : PG X (.Tuple es k pos) (gTup X.K n t) := by
  intro pins s σ H v u Q I r hw
  obtain ⟨a, xs, e1, hq, hl, hw⟩ := hw
  subst e1
  cases r
  obtain ⟨its, rv, ht, hz⟩ := I.tuple hq
  refine assign_Tuple_tuple (I.ok.hd hc) ht (by simp [hn, ← hl, rv.length]) hst fun h' hx => ?_
  have I1 : Inv X pins σ H { s with heap := h' } := I.kept (t' := s.toks) fun b o e => hx b o (Nat.ne_of_lt (Heap.lt_size e)) e
  exact h pins _ σ H xs _ Q I1 (by simpa using rv) hw
/-- o[i] = .. -/
def gSub (to ti : TE) (t : TSet) : TG := fun v σ H Q => to σ H fun o H1 => ti σ H1 fun i H2 => t o i v H2 fun H3 => Q σ H3
theorem pg_sub {o i : Expr} {to ti : TE} {t : TSet} (ho : PE X o to) (hi : PE X i ti) (hs : PSet X t)
    (ha : ∀ v, assign (.Subscript o i pos) X.env v = (do
      let ov ← holding [v] (eval o X.env)
      let iv ← holding [v, ov] (eval i X.env)
      standAt pos
      holding [v, ov, iv] (setItem ov iv v)
      release [v, ov, iv] []) := by intro _; rfl) : PG X (.Subscript o i pos) (gSub to ti t) := by
  intro pins s σ H v u Q I r h
  rw [ha]
  refine wpAny_bind (wpAny_holding (thn (ho pins s σ H _ I h) fun ov s1 ⟨x, H1, I1, r1, q1⟩ => ?_))
  refine wpAny_bind (wpAny_holding (thn (hi pins s1 σ H1 _ I1 q1) fun iv s2 ⟨y, H2, I2, r2, q2⟩ => ?_))
  refine wpAny_bind (wpAny_standAt (wpAny_bind (wpAny_holding (thn (hs pins s2 σ H2 x y v ov iv u _ I2 r1 r2 r q2) fun _ s3 ⟨H3, I3, q3⟩ => ?_))))
  exact wpAny_release ⟨σ, H3, I3, q3⟩
/-- target = value -/
def tAsg (te : TE) (g : TG) : TS := fun D σ H => te σ H fun x H1 => g x σ H1 D.nx
theorem ps_asg {tg e : Expr} {te : TE} {g : TG} (he : PE X e te) (hg : PG X tg g) (hs : swapsWithSole [tg] e pos.line X.env = pure false := by rfl) (hw : swappedStores [tg] e X.env = pure none := by rfl)
    (h1 : (assignEach [tg] X.env).map (·.2) = [assign tg X.env] := by rfl) : PS X (.Assign [tg] e pos) (tAsg te g) := by
  intro pins s σ H D I h
  refine wpAny_Assign_stores (thn (he pins s σ H _ I h) fun v s1 ⟨x, H1, I1, r1, q1⟩ => ?_) hs hw
  rw [h1]
  exact thn (hg pins s1 σ H1 x v _ I1 r1 q1) fun _ s2 q => q
/-- name = value -/
theorem ps_set {i : Nat} {x : Str} {e : Expr} {te : TE} {pos' : Pos} (hN : X.N.Nodup) (hi : X.N[i]? = some x) (hx : Loc X.env.scope x) (he : PE X e te) (hs : swapsWith e (some (.Name x pos')) pos.line X.env = pure false := by rfl) (hf : X.fn x = true ∨ X.env.scope.names.lookup x = some .local := by first | exact .inl rfl | exact .inr rfl | assumption) :
    PS X (.Assign [.Name x pos'] e pos) (tAsg te (gName i)) := by
  intro pins s σ H D I h
  refine wpAny_Assign_Name (thn (he pins s σ H _ I h) fun v s1 ⟨y, H1, I1, r1, q1⟩ => ?_) hs
  exact store_ok I1 hN hi hx r1 (fun s2 I2 => ⟨_, H1, I2, q1⟩) hf
/-- a, b = x, y with plain local names: stored from the right; the pair itself is not tracked (the opening rows as in PyProof/Rows/TupAssign.lean:23) -/
def tPar (i j : Nat) (ta : TA) : TS := fun D σ H => ta σ H fun vs H1 => ∃ v w, vs = [v, w] ∧ D.nx ((σ.set i (some v)).set j (some w)) H1
theorem ps_par {i j : Nat} {x y : Str} {a b : Expr} {ta : TA} {px py pt : Pos} {kt k2 pt2} (hc : X.calm = true) (hN : X.N.Nodup) (hi : X.N[i]? = some x) (hj : X.N[j]? = some y) (hij : i ≠ j)
    (hx : X.env.scope.names.lookup x = some .local) (hy : X.env.scope.names.lookup y = some .local) (ha : PA X [a, b] ta)
    (hw : swappedStores [.Tuple [.Name x px, .Name y py] kt pt] (.Tuple [a, b] k2 pt2) X.env = pure (some [x, y]))
    (hs : swapsWithSole [.Tuple [.Name x px, .Name y py] kt pt] (.Tuple [a, b] k2 pt2) pos.line X.env = pure false := by rfl) :
    PS X (.Assign [.Tuple [.Name x px, .Name y py] kt pt] (.Tuple [a, b] k2 pt2) pos) (tPar i j ta) := by
  intro pins s σ H D I h
  rw [exec_Assign_arm]
  refine wpAny_bind (wpAny_standAt ?_)
  rw [hs]
  refine wpAny_bind (wpAny_pure ?_)
  rw [if_neg (by decide)]
  refine wpAny_bind (Tuple_ (thn (ha _ pins s σ H _ I h) fun us s1 ⟨vs, H1, I1, r1, q1⟩ => ?_))
  obtain ⟨v, w, e1, q1⟩ := q1
  subst e1
  obtain ⟨u1, u2, rfl, rv, rw'⟩ : ∃ u1 u2, us = [u1, u2] ∧ RelV v u1 ∧ RelV w u2 := by
    cases r1 with
    | cons p q =>
      cases q with
      | cons p' q' =>
        cases q'
        exact ⟨_, _, rfl, p, p'⟩
  refine wpAny_newObj_type ?_ (by show 2 ≤ sizeLine; decide)
  have I2 : Inv X pins σ H1 { s1 with heap := s1.heap.push { cls := .type "tuple", data := .seq [u1, u2].toArray } } := I1.kept (t' := s1.toks) fun b o e => Heap.get?_push_of_some _ e
  rw [hw]
  refine wpAny_bind (wpAny_pure ?_)
  show wpAny (model X.prog X.w) X.A (do rule "assign.swapped-stores"; let items ← unpackItems (.ref s1.heap.objs.size) 2 none; assignInOrder [fun v => bindName X.env y v, fun v => bindName X.env x v] items.reverse; pure Flow.next) _ _ _
  refine wpAny_bind (wpAny_rule (wpAny_bind (unpackItems_tuple (items := #[u1, u2]) (I.ok.hd hc) (IsTup.new s1.heap _) fun h' hx' => ?_)))
  have I3 := I2.kept (h' := h') (t' := s1.toks) fun b o e => hx' b o (Nat.ne_of_lt (Heap.lt_size e)) e
  show wpAny _ _ (assignInOrder [fun v => bindName X.env y v, fun v => bindName X.env x v] [u2, u1] >>= fun _ => pure Flow.next) _ _ _
  refine wpAny_bind (assignInOrder_cons (wpAny_bindName (store_ok I3 hN hj (.inl hy) rw' (fun s2 I4 => ?_) (.inr hy))))
  refine assignInOrder_cons (wpAny_bindName (store_ok I4 hN hi (.inl hx) rv (fun s3 I5 => assignInOrder_nil (wpAny_pure ?_)) (.inr hx)))
  rw [List.set_comm _ _ (Ne.symm hij)] at I5
  exact ⟨_, H1, I5, q1⟩
/-- name op= e -/
def tAug (i : Nat) (te : TE) (ti : TIp) : TS := fun D σ H => ∃ x, σ[i]? = some (some x) ∧ te σ H fun y H1 => ti x y H1 fun z H2 => D.nx (σ.set i (some z)) H2
/-- o[i] op= e -/
def tAugS (to ti te : TE) (tget : V → V → Hp → VK → Prop) (tip : TIp) (tset : TSet) : TS := fun D σ H => to σ H fun o H1 => ti σ H1 fun i H2 => tget o i H2 fun x H3 => te σ H3 fun y H4 => tip x y H4 fun z H5 => tset o i z H5 fun H6 => D.nx σ H6
/-- o[i], by values -/
def PGet (X : Cx) (t : V → V → Hp → VK → Prop) : Prop :=
  ∀ (pins : List (Addr × Obj)) (s : Shared) (σ : St) (H : Hp) (o i : V) (ov iv : Value) (Q : VK), Inv X pins σ H s → RelV o ov → RelV i iv → t o i H Q →
    wpAny (model X.prog X.w) X.A (getItem ov iv) (EP X pins σ Q) X.xe s
/-- ints -/
def ipI (f : Int → Int → Int) : TIp := fun x y H Q => ∃ i j, x = .int i ∧ y = .int j ∧ Q (.int (f i j)) H
end

/-! ### while -/
section
variable {X : Cx} {pos : Pos}
/-- the invariant W with its measure -/
def tWhile (c : TT) (tb : TS) : TS := fun D σ H => ∃ W : Nat → St → Hp → Prop, (∃ m, W m σ H) ∧ ∀ m σ H, W m σ H →
  c σ H fun b H1 => if b = true then ∃ N : St → Hp → Prop, (∀ σ' H', N σ' H' → ∃ m', m' < m ∧ W m' σ' H') ∧ tb { D with nx := N, ct := N, bk := D.nx } σ H1 else D.nx σ H1
end

/-! ### what a loop or a comprehension walks -/
/-- at turn i: it yields x (the heap may grow), or it stops -/
structure It where
  go : Nat → Hp → Prop
  yld : Nat → Hp → V → Hp → Prop
  stop : Nat → Hp → Prop
/-- the iterator's own objects may turn: they are not the frame's, not pinned, younger than the entry (or a comprehension's own) -/
def FpOk (X : Cx) (pins : List (Addr × Obj)) (H : Hp) (b : Addr) : Prop :=
  H b = none ∧ b ≠ X.env.locals ∧ b ∉ X.fs ∧ (b ∈ X.ex ∨ X.s₀.heap.objs.size ≤ b) ∧ (∀ x c, X.env.cells.lookup x = some c → c ≠ b) ∧ ∀ p ∈ X.pn ++ pins, p.1 ≠ b
theorem Inv.fpOk {X : Cx} {pins : List (Addr × Obj)} {σ : St} {H H' : Hp} {s : Shared} {b : Addr} (I : Inv X pins σ H s) (hb : s.heap.objs.size ≤ b) (hn : H' b = none) : FpOk X pins H' b := by
  refine ⟨hn, Nat.ne_of_gt (Nat.lt_of_lt_of_le I.lt hb), I.nofs hb, .inr (Nat.le_trans I.sz hb), fun x c e z => ?_, fun p hp z => ?_⟩
  · obtain ⟨v, q⟩ := I.cell x c e
    exact absurd (Nat.lt_of_lt_of_le q.lt (by rw [z]; exact hb)) (Nat.lt_irrefl _)
  · exact absurd (Nat.lt_of_lt_of_le (Heap.lt_size (I.pin p hp).1) (by rw [z]; exact hb)) (Nat.lt_irrefl _)
structure Turn (P : Program) (w : World) (K : PySem.W.Frag) (tg : Expr) (J : It) (fp : List Addr) (it : Addr) (tn : Nat → Heap → Prop) : Prop where
  mem : it ∈ fp
  obj : ∀ i h, tn i h → ∀ b ∈ fp, ∃ o, h.get? b = some o ∧ ∀ v, o.data ≠ .cell v
  keep : ∀ i h h', tn i h → (∀ b ∈ fp, ∀ o, h.get? b = some o → h'.get? b = some o) → tn i h'
  item : ∀ (X : Cx), X.prog = P → X.w = w → X.K = K → X.calm = true → ∀ (i : Nat) (pins : List (Addr × Obj)) (s : Shared) (σ : St) (H : Hp) (E : Value → Shared → Prop), Inv X pins σ H s → (∀ b ∈ fp, FpOk X pins H b) → tn i s.heap → J.go i H →
    wpAny (model P w) X.A (pyNext (.ref it)) (fun r s1 => ∃ u, r = some u ∧
      wpAny (model P w) X.A (letOwnedTupleGo tg (.ref it) u) (fun _ s2 => ∃ x H', Inv X pins σ H' s2 ∧ RelV x u ∧ J.yld i H x H' ∧ tn (i + 1) s2.heap ∧ ∀ b ∈ fp, H' b = none) E s1) E s
  done : ∀ (X : Cx), X.prog = P → X.w = w → X.K = K → X.calm = true → ∀ (i : Nat) (pins : List (Addr × Obj)) (s : Shared) (σ : St) (H : Hp) (E : Value → Shared → Prop), Inv X pins σ H s → (∀ b ∈ fp, FpOk X pins H b) → tn i s.heap → J.stop i H →
    wpAny (model P w) X.A (pyNext (.ref it)) (fun r s1 => r = none ∧ Inv X pins σ H s1) E s
  self : ∀ (A : Around) (i : Nat) (s : Shared) (Q : Value → Shared → Prop) (E : Value → Shared → Prop), tn i s.heap → Q (.ref it) s → wpAny (model P w) A (pyIter (.ref it)) Q E s
abbrev TI := St → Hp → (It → Hp → Prop) → Prop
/-- an iterator has come -/
def PIE (X : Cx) (pins : List (Addr × Obj)) (σ : St) (tg : Expr) (R : It → Hp → Prop) (itv : Value) (s2 : Shared) : Prop :=
  ∃ (it : Addr) (fp : List Addr) (tn : Nat → Heap → Prop) (J : It) (H' : Hp), itv = .ref it ∧ Inv X pins σ H' s2 ∧ Turn X.prog X.w X.K tg J fp it tn ∧ tn 0 s2.heap ∧ (∀ b ∈ fp, FpOk X pins H' b) ∧ R J H'
def PI (X : Cx) (tg iter : Expr) (wi : TI) : Prop :=
  ∀ (pins : List (Addr × Obj)) (s : Shared) (σ : St) (H : Hp) (R : It → Hp → Prop), Inv X pins σ H s → wi σ H R →
    wpAny (model X.prog X.w) X.A (eval iter X.env) (fun v s1 => wpAny (model X.prog X.w) X.A (pyIter v) (PIE X pins σ tg R) X.xe s1) X.xe s

/-- the step ahead of the store is nothing for an iterator that keeps no tuple -/
theorem go_of {M : Model} {A : Around} {E : Value → Shared → Prop} {s : Shared} {tg : Expr} {it : Addr} {u : Value} {o : Obj} {n : String} {vs : Array Value} {Q : Unit → Shared → Prop} (ho : s.heap.get? it = some o) (hc : o.cls = .type n) (hd : o.data = .fields vs)
    (hn : ["enumerate", "zip", "dict_itemiterator", "dict_reverseitemiterator", "odict_iterator", "itertools.zip_longest", "itertools.pairwise"].contains n = false) (hQ : Q () s) : wpAny M A (letOwnedTupleGo tg (.ref it) u) Q E s := by
  unfold letOwnedTupleGo
  cases tg <;> first
    | exact wpAny_pure hQ
    | (cases u <;> first
        | exact wpAny_pure hQ
        | (refine wpAny_bind (wpAny_load ho ?_)
           rw [hc, hd]
           show wpAny M A (if (["enumerate", "zip", "dict_itemiterator", "dict_reverseitemiterator", "odict_iterator", "itertools.zip_longest", "itertools.pairwise"].contains n && vs[0]? == some (rawInt _)) = true then _ else _) Q E s
           rw [if_neg (by intro h; rw [hn, Bool.false_and] at h; cases h)]
           exact wpAny_pure hQ))

/-- the list at a, as it stands at each turn (a loop may append to it) -/
def Itl (K : PySem.W.Frag) (a : Addr) : It :=
  ⟨fun i H => ∃ xs x, SqL K H a xs ∧ xs[i]? = some x, fun i H x H' => H' = H ∧ ∀ xs, SqL K H a xs → xs[i]? = some x, fun i H => ∃ xs, SqL K H a xs ∧ xs.length ≤ i⟩
def Itt (K : PySem.W.Frag) (a : Addr) : It :=
  ⟨fun i H => ∃ xs x, SqT K H a xs ∧ xs[i]? = some x, fun i H x H' => H' = H ∧ ∀ xs, SqT K H a xs → xs[i]? = some x, fun i H => ∃ xs, SqT K H a xs ∧ xs.length ≤ i⟩
/-- lo, lo + 1, .. (n of them) -/
def Itr (lo : Int) (n : Nat) : It := ⟨fun i _ => i < n, fun i H x H' => H' = H ∧ x = .int (lo + i), fun i _ => n ≤ i⟩
theorem turn_list {P : Program} {w : World} {K : PySem.W.Frag} {tg : Expr} (a it : Addr) : Turn P w K tg (Itl K a) [it] it (fun i h => h.IsListIter it a i) where
  mem := by simp
  obj := fun i h st b hb => by
    have e : b = it := by simpa using hb
    subst e
    obtain ⟨o, e, c, d⟩ := st
    exact ⟨o, e, fun v z => by rw [d] at z; cases z⟩
  keep := fun i h h' st k => st.at fun o e => k it (by simp) o e
  item := by
    intro X hP hw hK hc i pins s σ H E I hf st hg
    subst hP hw hK
    obtain ⟨xs, x, hq, hx⟩ := hg
    obtain ⟨its, rv, p, hz⟩ := I.list hq
    obtain ⟨u, hu, ru⟩ := rv.get hx
    obtain ⟨f0, f1, f2, f3, f4, f5⟩ := hf it (by simp)
    refine wpAny_pyNext_list_item st p.isList (x := u) (by simpa using hu) fun h' st' sb => ?_
    have I1 : Inv X pins σ H { s with heap := h' } := I.turned (t' := s.toks) (fun b o hb e => (sb.2 b hb).trans e) f0 f1 f3 f4 f5
    obtain ⟨o, e, c, d⟩ := id st'
    exact ⟨u, rfl, go_of (s := { s with heap := h' }) e c d (by decide) ⟨x, H, I1, ru, ⟨rfl, fun ys hy => by rw [I.list_inj hy hq]; exact hx⟩, st', fun b hb => (hf b hb).1⟩⟩
  done := by
    intro X hP hw hK hc i pins s σ H E I hf st hg
    subst hP hw hK
    obtain ⟨xs, hq, hx⟩ := hg
    obtain ⟨its, rv, p, hz⟩ := I.list hq
    obtain ⟨f0, f1, f2, f3, f4, f5⟩ := hf it (by simp)
    have hl := rv.length
    exact wpAny_pyNext_list_end (I.ok.hd hc) st p.isList (by simp; omega) fun h' eb => ⟨rfl, I.turned (t' := s.toks) (fun b o hb e => eb b o hb e) f0 f1 f3 f4 f5⟩
  self := fun _ _ _ _ _ st h => wpAny_pyIter_listiter st h
theorem turn_range {P : Program} {w : World} {K : PySem.W.Frag} {tg : Expr} (it : Addr) (lo : Int) (n : Nat) : Turn P w K tg (Itr lo n) [it] it (fun i h => IsRangeIter h it (lo + (i : Nat) * 1) ((n : Int) - (i : Nat)) 1) where
  mem := by simp
  obj := fun i h st b hb => by
    have e : b = it := by simpa using hb
    subst e
    exact ⟨_, st, fun v z => by
      have z' : Data.fields _ = Data.cell v := z
      cases z'⟩
  keep := fun i h h' st k => k it (by simp) _ st
  item := by
    intro X hP hw hK hc i pins s σ H E I hf st hg
    subst hP hw hK
    obtain ⟨f0, f1, f2, f3, f4, f5⟩ := hf it (by simp)
    have W := Walks.range (prog := X.prog) (w := X.w) (I.ok.hd hc) it lo 1 n
    refine W.item i s _ _ hg st fun v h' tk hv st' kk => ?_
    obtain ⟨t, rfl⟩ := hv
    have I1 : Inv X pins σ H { s with heap := h', toks := tk } := I.turned (fun b o hb e => kk b o (by simpa using hb) e) f0 f1 f3 f4 f5
    refine ⟨_, rfl, go_of (s := { s with heap := h', toks := tk }) (n := "range_iterator") st' rfl rfl (by decide) ⟨.int (lo + i), H, I1, ⟨t, ?_⟩, ⟨rfl, rfl⟩, st', fun b hb => (hf b hb).1⟩⟩
    rw [Int.mul_one]
  done := by
    intro X hP hw hK hc i pins s σ H E I hf st hg
    subst hP hw hK
    obtain ⟨f0, f1, f2, f3, f4, f5⟩ := hf it (by simp)
    exact wpAny_pyNext_range_end (I.ok.hd hc) st (by have : n ≤ i := hg; omega) fun h' eb => ⟨rfl, I.turned (t' := s.toks) (fun b o hb e => eb b o hb e) f0 f1 f3 f4 f5⟩
  self := fun _ _ _ _ _ st h => wpAny_pyIter_rangeiter st h
end L2

namespace L2
open PySem PySem.Spec PyProof.Rows
section
variable {X : Cx} {tg : Expr}
def iList (K : PySem.W.Frag) (tl : TE) : TI := fun σ H R => tl σ H fun x H1 => ∃ a, x = .ref a ∧ (∃ xs, SqL K H1 a xs) ∧ R (Itl K a) H1
def iTup (K : PySem.W.Frag) (tl : TE) : TI := fun σ H R => tl σ H fun x H1 => ∃ a, x = .ref a ∧ (∃ xs, SqT K H1 a xs) ∧ R (Itt K a) H1
theorem pi_list {l : Expr} {tl : TE} (hl : PE X l tl) : PI X tg l (iList X.K tl) := by
  intro pins s σ H R I h
  refine thn (hl pins s σ H _ I h) fun v s1 ⟨x, H1, I1, r1, q1⟩ => ?_
  obtain ⟨a, e, ⟨xs, hq⟩, q⟩ := q1
  subst e
  cases r1
  obtain ⟨its, rv, p, hz⟩ := I1.list hq
  refine wpAny_pyIter_list p.isList ?_
  refine ⟨s1.heap.objs.size, [s1.heap.objs.size], _, _, H1, rfl, I1.kept (t' := s1.toks) fun b o e => Heap.get?_push_of_some _ e, turn_list a _, ⟨_, Heap.get?_push_size _ rfl, rfl, rfl⟩, fun b hb => ?_, q⟩
  have e : b = s1.heap.objs.size := by simpa using hb
  subst e
  exact I1.fpOk (Nat.le_refl _) (I1.hok.fresh (Nat.le_refl _))
/-- a range object just made, walked -/
theorem range_it {pins : List (Addr × Obj)} {σ : St} {H : Hp} {s : Shared} {R : It → Hp → Prop} {E : Value → Shared → Prop} {lo hi : Int} {t u v : Tok} {tk : Nat} (I : Inv X pins σ H s) (h1 : -(2 ^ 62) ≤ lo) (h2 : lo < 2 ^ 62) (h3 : -(2 ^ 62) ≤ hi) (h4 : hi < 2 ^ 62)
    (q : R (Itr lo (hi - lo).toNat) H) : wpAny (model X.prog X.w) X.A (pyIter (.ref s.heap.objs.size)) (PIE X pins σ tg R) E { s with heap := s.heap.push { cls := .type "range", data := .fields #[.int lo t, .int hi u, .int 1 v] }, toks := tk } := by
  refine wpAny_pyIter_range (IsRange.new ..) (small_one h1 h2 h3 h4) ?_
  have I1 : Inv X pins σ H { s with heap := s.heap.push { cls := .type "range", data := .fields #[.int lo t, .int hi u, .int 1 v] }, toks := tk } := I.kept fun b o e => Heap.get?_push_of_some _ e
  refine ⟨(s.heap.push { cls := .type "range", data := .fields #[.int lo t, .int hi u, .int 1 v] }).objs.size, [(s.heap.push { cls := .type "range", data := .fields #[.int lo t, .int hi u, .int 1 v] }).objs.size], _, _, H, rfl,
    I1.kept (t' := tk) fun b o e => Heap.get?_push_of_some _ e, turn_range _ lo (hi - lo).toNat, ?_, fun b hb => ?_, q⟩
  · have e1 : lo + ((0 : Nat) : Int) * 1 = lo := by simp
    have e2 : (((hi - lo).toNat : Nat) : Int) - ((0 : Nat) : Int) = Builtin.Range.rangeSize lo hi 1 := by rw [rangeSize_one]; split <;> omega
    show IsRangeIter _ _ (lo + ((0 : Nat) : Int) * 1) ((((hi - lo).toNat : Nat) : Int) - ((0 : Nat) : Int)) 1
    rw [e1, e2]
    exact Heap.get?_push_size _ rfl
  · have e : b = (s.heap.push { cls := .type "range", data := .fields #[.int lo t, .int hi u, .int 1 v] }).objs.size := by simpa using hb
    subst e
    exact I1.fpOk (Nat.le_refl _) (I1.hok.fresh (Nat.le_refl _))
def iRng1 (ta : TA) : TI := fun σ H R => ta σ H fun vs H1 => ∃ j : Int, vs = [.int j] ∧ -(2 ^ 62) ≤ j ∧ j < 2 ^ 62 ∧ R (Itr 0 j.toNat) H1
def iRng2 (ta : TA) : TI := fun σ H R => ta σ H fun vs H1 => ∃ i j : Int, vs = [.int i, .int j] ∧ (-(2 ^ 62) ≤ i ∧ i < 2 ^ 62 ∧ -(2 ^ 62) ≤ j ∧ j < 2 ^ 62) ∧ R (Itr i (j - i).toNat) H1
theorem pi_range1 {a : Expr} {ta : TA} {p pos : Pos} (hg : Gl X "range") (hm : X.mg "range" = none) (ha : PA X [a] ta) (hs : starEach [a] X.env = [(false, eval a X.env)] := by rfl) : PI X tg (.Call (.Name "range" p) [a] [] pos) (iRng1 ta) := by
  intro pins s σ H R I h
  refine Call_ (ld_blt I hg hm boot_range (PyProof.Rows.callWith_type1 (thn (ha pos pins s σ H _ I h) fun us s1 ⟨vs, H1, I1, r1, q1⟩ => ?_) hs rfl))
  obtain ⟨j, e, q1, q2, q⟩ := q1
  subst e
  cases r1 with
  | cons r rr =>
    cases rr
    obtain ⟨t, rfl⟩ := r
    exact call_range_1 (range_it I1 (by omega) (by omega) q1 q2 (by simpa using q))
/-! ### for -/
/-- W: the invariant by the turn and a measure; N: what the body is to reach -/
def tFor (wi : TI) (g : TG) (tb : TS) : TS := fun D σ H => wi σ H fun J H1 => ∃ W : Nat → Nat → St → Hp → Prop, (∃ m, W 0 m σ H1) ∧ ∀ i m σ H, W i m σ H →
  (J.stop i H ∧ D.nx σ H) ∨ (J.go i H ∧ ∃ N : St → Hp → Prop, (∀ σ' H', N σ' H' → ∃ m', m' < m ∧ W (i + 1) m' σ' H') ∧ ∀ x H', J.yld i H x H' → g x σ H' fun σ2 H2 => tb { D with nx := N, ct := N, bk := D.nx } σ2 H2)
/-- the records at fp as they stand -/
def pinsAt (fp : List Addr) (h : Heap) : List (Addr × Obj) := fp.filterMap fun b => (h.get? b).map fun o => (b, o)
theorem mem_pinsAt {fp : List Addr} {h : Heap} {b : Addr} {o : Obj} (hb : b ∈ fp) (e : h.get? b = some o) : (b, o) ∈ pinsAt fp h := List.mem_filterMap.mpr ⟨b, hb, by rw [e]; rfl⟩
theorem of_pinsAt {fp : List Addr} {h : Heap} {p : Addr × Obj} (hp : p ∈ pinsAt fp h) : p.1 ∈ fp ∧ h.get? p.1 = some p.2 := by
  obtain ⟨b, hb, e⟩ := List.mem_filterMap.mp hp
  cases q : h.get? b with
  | none => rw [q] at e; cases e
  | some o =>
    rw [q] at e
    have e' : (b, o) = p := Option.some.inj e
    subst e'
    exact ⟨hb, q⟩
theorem Inv.pinned {pins : List (Addr × Obj)} {σ : St} {H : Hp} {s : Shared} {fp : List Addr} (I : Inv X pins σ H s) (hf : ∀ b ∈ fp, FpOk X pins H b) (ho : ∀ b ∈ fp, ∃ o, s.heap.get? b = some o ∧ ∀ v, o.data ≠ .cell v) : Inv X (pins ++ pinsAt fp s.heap) σ H s :=
  I.pins_of fun p hp => (List.mem_append.mp hp).elim (fun z => I.pin p (List.mem_append_right _ z)) fun z => by
    obtain ⟨hb, e⟩ := of_pinsAt z
    obtain ⟨f0, f1, f2, _⟩ := hf p.1 hb
    obtain ⟨o, e', d⟩ := ho p.1 hb
    rw [e] at e'; cases e'
    exact ⟨e, f0, f1, f2, d⟩
theorem Inv.unpinned {pins pl : List (Addr × Obj)} {σ : St} {H : Hp} {s : Shared} (I : Inv X (pins ++ pl) σ H s) : Inv X pins σ H s := I.pins_of fun p hp => I.pin p (List.mem_append_right _ (List.mem_append_left _ hp))
theorem ps_for {iter : Expr} {body : List Stmt} {wi : TI} {g : TG} {tb : TS} {pos : Pos} (hp : PassesOwn (model X.prog X.w) X.A X.env X.xe) (hc : X.calm = true) (hi : PI X tg iter wi) (hg : PG X tg g) (hb : PSs X body tb)
    (hs : ∀ x, foldedSetIterable iter X.env x = pure x := by intro _; rfl) : PS X (.For tg iter body [] pos) (tFor wi g tb) := by
  intro pins s σ H D I h
  refine wpAny_For (thn (hi pins s σ H _ I h) fun v s1 h1 => thn h1 fun itv s2 h2 => ?_) hs
  obtain ⟨it, fp, tn, J, H2, e, I2, T, st2, f2, W, ⟨m0, w0⟩, turn⟩ := h2
  subst e
  -- what stays true of the iterator's objects through the loop
  have stat : ∀ {H' : Hp}, (∀ b ∈ fp, H' b = none) → ∀ b ∈ fp, FpOk X pins H' b := fun hn b hb => ⟨hn b hb, (f2 b hb).2⟩
  refine codeAny_forLoop_any (fun n s' => ∃ i σ' H', Inv X pins σ' H' s' ∧ tn i s'.heap ∧ (∀ b ∈ fp, H' b = none) ∧ W i n σ' H') ?_ m0 ⟨0, σ, H2, I2, st2, fun b hb => (f2 b hb).1, w0⟩
  rintro n s3 ⟨i, σ3, H3, I3, st3, fr3, w3⟩
  rcases turn i n σ3 H3 w3 with ⟨stop, qn⟩ | ⟨go, N, hN, step⟩
  · refine wpAny_passesOwn hp (thn (T.done X rfl rfl rfl hc i pins s3 σ3 H3 X.xe I3 (stat fr3) st3 stop) fun r s4 ⟨hr, I4⟩ => ?_)
    subst hr
    exact wpAny_execs_nil ⟨σ3, H3, I4, qn⟩
  · refine wpAny_passesOwn hp (thn (T.item X rfl rfl rfl hc i pins s3 σ3 H3 X.xe I3 (stat fr3) st3 go) fun r s4 ⟨u, hr, h4⟩ => ?_)
    subst hr
    refine wpAny_passesOwn hp (thn h4 fun _ s5 ⟨x, H5, I5, r5, y5, st5, fr5⟩ => ?_)
    have I5' := I5.pinned (stat fr5) (T.obj _ _ st5)
    refine wpAny_passesOwn hp (thn (hg _ s5 σ3 H5 x u _ I5' r5 (step x H5 y5)) fun _ s6 ⟨σ6, H6, I6, q6⟩ => ?_)
    refine wpAny_passesOwn hp (thn (hb _ s6 σ6 H6 _ I6 q6) fun f s7 q7 => ?_)
    have again : ∀ {σ7 : St} {H7 : Hp}, Inv X (pins ++ pinsAt fp s5.heap) σ7 H7 s7 → N σ7 H7 → ∃ m, m < n ∧ ∃ i σ' H', Inv X pins σ' H' s7 ∧ tn i s7.heap ∧ (∀ b ∈ fp, H' b = none) ∧ W i m σ' H' := fun {σ7 H7} I7 n7 => by
      obtain ⟨m', hm, w7⟩ := hN σ7 H7 n7
      refine ⟨m', hm, i + 1, σ7, H7, I7.unpinned, T.keep _ _ _ st5 fun b hb o e => (I7.pin (b, o) (List.mem_append_right _ (List.mem_append_right _ (mem_pinsAt hb e)))).1, fun b hb => ?_, w7⟩
      obtain ⟨o, e, d⟩ := T.obj _ _ st5 b hb
      exact (I7.pin (b, o) (List.mem_append_right _ (List.mem_append_right _ (mem_pinsAt hb e)))).2.1
    cases f with
    | next => obtain ⟨σ7, H7, I7, n7⟩ := q7; exact again I7 n7
    | cont => obtain ⟨σ7, H7, I7, n7⟩ := q7; exact again I7 n7
    | brk => obtain ⟨σ7, H7, I7, q7⟩ := q7; exact ⟨σ7, H7, I7.unpinned, q7⟩
    | ret v => obtain ⟨x7, σ7, H7, I7, r7, q7⟩ := q7; exact ⟨x7, σ7, H7, I7.unpinned, r7, q7⟩
end

/-! ### the forms one uses -/
end L2

namespace L2
open PySem PySem.Spec PyProof.Rows

abbrev R2 := V → V → Hp → VK → Prop
/-- a two-place operation on values: f is binaryOp op, inplaceOp op or compareOp op -/
def OpR (X : Cx) (f : Value → Value → Sem Value) (r : R2) : Prop :=
  ∀ (pins : List (Addr × Obj)) (s : Shared) (σ : St) (H : Hp) (x y : V) (v u : Value) (Q : VK), Inv X pins σ H s → RelV x v → RelV y u → r x y H Q →
    wpAny (model X.prog X.w) X.A (f v u) (EP X pins σ Q) X.xe s
/-- a one-place operation -/
def UnR (X : Cx) (f : Value → Sem Value) (r : V → Hp → VK → Prop) : Prop :=
  ∀ (pins : List (Addr × Obj)) (s : Shared) (σ : St) (H : Hp) (x : V) (v : Value) (Q : VK), Inv X pins σ H s → RelV x v → r x H Q →
    wpAny (model X.prog X.w) X.A (f v) (EP X pins σ Q) X.xe s
/-- a call of a value that is known (a builtin, a type) with values -/
def CallR (X : Cx) (f : Value) (r : List V → Hp → VK → Prop) : Prop :=
  ∀ (pins : List (Addr × Obj)) (s : Shared) (σ : St) (H : Hp) (xs : List V) (us : List Value) (Q : VK), Inv X pins σ H s → Vals xs us → r xs H Q →
    wpAny (model X.prog X.w) X.A (call f us) (EP X pins σ Q) X.xe s
/-- a value's truth -/
def TruR (X : Cx) (r : V → Hp → (Bool → Hp → Prop) → Prop) : Prop :=
  ∀ (pins : List (Addr × Obj)) (s : Shared) (σ : St) (H : Hp) (x : V) (v : Value) (Q : Bool → Hp → Prop), Inv X pins σ H s → RelV x v → r x H Q →
    wpAny (model X.prog X.w) X.A (truthy v) (TP X pins σ Q) X.xe s

def tOp (r : R2) (ta tb : TE) : TE := fun σ H Q => ta σ H fun x H1 => tb σ H1 fun y H2 => r x y H2 Q
def tUn (r : V → Hp → VK → Prop) (ta : TE) : TE := fun σ H Q => ta σ H fun x H1 => r x H1 Q
/-- ints in, under C, and a value out -/
def rI (C : Int → Int → Prop) (g : Int → Int → V) : R2 := fun x y H Q => ∃ i j, x = .int i ∧ y = .int j ∧ C i j ∧ Q (g i j) H
def rI0 (g : Int → Int → V) : R2 := fun x y H Q => ∃ i j, x = .int i ∧ y = .int j ∧ Q (g i j) H
def rU (g : Int → V) : V → Hp → VK → Prop := fun x H Q => ∃ i, x = .int i ∧ Q (g i) H

section
variable {X : Cx} {a b c : Expr} {ta tb tc : TE} {pos : Pos}

theorem binT (ha : PE X a ta) (hb : PE X b tb) {pins : List (Addr × Obj)} {s : Shared} {σ : St} {H : Hp} {R : V → V → Hp → Prop} (I : Inv X pins σ H s)
    (h : ta σ H fun x H1 => tb σ H1 fun y H2 => R x y H2) {Q : Value → Shared → Prop} {f : Value → Value → Sem Value}
    (hf : ∀ v u s2 x y H2, Inv X pins σ H2 s2 → RelV x v → RelV y u → R x y H2 → wpAny (model X.prog X.w) X.A (f v u) Q X.xe s2) :
    wpAny (model X.prog X.w) X.A (eval a X.env) (fun v s₁ => wpAny (model X.prog X.w) X.A (eval b X.env) (fun u s₂ => wpAny (model X.prog X.w) X.A (f v u) Q X.xe s₂) X.xe s₁) X.xe s := by
  refine thn (ha pins s σ H _ I h) fun v s1 ⟨x, H1, I1, r1, q1⟩ => ?_
  refine thn (hb pins s1 σ H1 _ I1 q1) fun u s2 ⟨y, H2, I2, r2, q2⟩ => ?_
  exact hf v u s2 x y H2 I2 r1 r2 q2

theorem pe_op {op : Operator} {r : R2} (ho : OpR X (binaryOp op) r) (ha : PE X a ta) (hb : PE X b tb) : PE X (.BinOp a op b pos) (tOp r ta tb) := by
  intro pins s σ H Q I h
  exact wpAny_BinOp (binT ha hb I h fun v u s2 x y H2 I2 rx ry q => ho pins s2 σ H2 x y v u Q I2 rx ry q)
theorem pe_un {op : UnaryOp} {r : V → Hp → VK → Prop} (ho : UnR X (unaryOp op) r) (ha : PE X a ta) : PE X (.UnaryOp op a pos) (tUn r ta) := by
  intro pins s σ H Q I h
  exact UnaryOp_ (thn (ha pins s σ H _ I h) fun v s1 ⟨x, H1, I1, r1, q1⟩ => ho pins s1 σ H1 x v Q I1 r1 q1)
/-! ### ints -/
theorem opI {f : Value → Value → Sem Value} {C : Int → Int → Prop} {g : Int → Int → Int}
    (rule : ∀ (i j : Int) (t u : Tok) (s : Shared) (Q : Value → Shared → Prop) (E : Value → Shared → Prop), C i j → Q (.int (g i j) s.toks) { s with toks := s.toks + 1 } → wpAny (model X.prog X.w) X.A (f (.int i t) (.int j u)) Q E s) :
    OpR X f (rI C fun i j => .int (g i j)) := by
  intro pins s σ H x y v u Q I rx ry h
  obtain ⟨i, j, rfl, rfl, hc, q⟩ := h
  obtain ⟨t, rfl⟩ := rx
  obtain ⟨t', rfl⟩ := ry
  exact rule i j t t' s _ _ hc ⟨.int (g i j), H, I.tok _, ⟨_, rfl⟩, q⟩
theorem opI0 {f : Value → Value → Sem Value} {g : Int → Int → Int}
    (rule : ∀ (i j : Int) (t u : Tok) (s : Shared) (Q : Value → Shared → Prop) (E : Value → Shared → Prop), Q (.int (g i j) s.toks) { s with toks := s.toks + 1 } → wpAny (model X.prog X.w) X.A (f (.int i t) (.int j u)) Q E s) :
    OpR X f (rI0 fun i j => .int (g i j)) := by
  intro pins s σ H x y v u Q I rx ry h
  obtain ⟨i, j, rfl, rfl, q⟩ := h
  obtain ⟨t, rfl⟩ := rx
  obtain ⟨t', rfl⟩ := ry
  exact rule i j t t' s _ _ ⟨.int (g i j), H, I.tok _, ⟨_, rfl⟩, q⟩
theorem opB0 {f : Value → Value → Sem Value} {g : Int → Int → Bool}
    (rule : ∀ (i j : Int) (t u : Tok) (s : Shared) (Q : Value → Shared → Prop) (E : Value → Shared → Prop), Q (.bool (g i j)) s → wpAny (model X.prog X.w) X.A (f (.int i t) (.int j u)) Q E s) :
    OpR X f (rI0 fun i j => .bl (g i j)) := by
  intro pins s σ H x y v u Q I rx ry h
  obtain ⟨i, j, rfl, rfl, q⟩ := h
  obtain ⟨t, rfl⟩ := rx
  obtain ⟨t', rfl⟩ := ry
  exact rule i j t t' s _ _ ⟨.bl (g i j), H, I, rfl, q⟩

def CDiv (i j : Int) : Prop := 0 < j ∧ j < 1073741824
def CDivN (i j : Int) : Prop := j ≠ 0 ∧ j.natAbs < 1073741824
def CPow (i j : Int) : Prop := 0 ≤ j ∧ j ≤ 1000000 ∧ i.natAbs < 2 ^ 64
def CMul (i j : Int) : Prop := (-(2 ^ 64) < i ∧ i < 2 ^ 64) ∨ (-(2 ^ 64) < j ∧ j < 2 ^ 64)
theorem CMul.ok {i j : Int} (h : CMul i j) : IntMulOk i j := by
  rcases h with ⟨h1, h2⟩ | ⟨h1, h2⟩
  · exact .of_left (intBits_le_64 h1 h2)
  · exact .of_right (intBits_le_64 h1 h2)
theorem op_add : OpR X (binaryOp .Add) (rI0 fun i j => .int (i + j)) := opI0 fun _ _ _ _ _ _ _ q => add_int q
theorem op_sub : OpR X (binaryOp .Sub) (rI0 fun i j => .int (i - j)) := opI0 fun _ _ _ _ _ _ _ q => sub_int q
theorem op_mul : OpR X (binaryOp .Mult) (rI CMul fun i j => .int (i * j)) := opI fun _ _ _ _ _ _ _ hc q => mul_int q hc.ok
/-- // by a positive divisor -/
theorem op_fdiv : OpR X (binaryOp .FloorDiv) (rI CDiv fun i j => .int (i / j)) := opI fun i j _ _ _ _ _ hc q => by
  have h1 : (0 : Int) < j := hc.1
  have h2 : j < 1073741824 := hc.2
  exact floordiv_int (by omega) (by rw [Int.fdiv_eq_ediv_of_nonneg i (by omega)]; exact q) (.inl (PyProof.noPylong_small (by omega)))
/-- % by a positive divisor of any size -/
theorem op_mod : OpR X (binaryOp .Mod) (rI (fun _ j => 0 < j) fun i j => .int (i % j)) := opI fun i j _ _ _ _ _ hc q => by
  have h1 : (0 : Int) < j := hc
  exact mod_int' (by omega) (by rw [Int.fmod_eq_emod_of_nonneg i (by omega)]; exact q)
theorem op_pow : OpR X (binaryOp .Pow) (rI CPow fun i j => .int (i ^ j.toNat)) := opI fun _ _ _ _ _ _ _ hc q => pow_int_small hc.1 hc.2.1 hc.2.2 q
theorem unI {f : Value → Sem Value} {g : Int → Int}
    (rule : ∀ (i : Int) (t : Tok) (s : Shared) (Q : Value → Shared → Prop) (E : Value → Shared → Prop), Q (.int (g i) s.toks) { s with toks := s.toks + 1 } → wpAny (model X.prog X.w) X.A (f (.int i t)) Q E s) :
    UnR X f (rU fun i => .int (g i)) := by
  intro pins s σ H x v Q I rx h
  obtain ⟨i, rfl, q⟩ := h
  obtain ⟨t, rfl⟩ := rx
  exact rule i t s _ _ ⟨.int (g i), H, I.tok _, ⟨_, rfl⟩, q⟩
theorem un_neg : UnR X (unaryOp .USub) (rU fun i => .int (-i)) := unI fun _ _ _ _ _ q => neg_int q
end

/-! ### comparisons -/
/-- the scalars that == tells apart as data does -/
def scal : V → V → Bool
  | .non, .non => true | .non, .int _ => true | .int _, .non => true | .non, .bl _ => true | .bl _, .non => true | .non, .str _ => true | .str _, .non => true
  | .int _, .int _ => true | .bl _, .bl _ => true | .str _, .str _ => true | .byt _, .byt _ => true
  | .int _, .str _ => true | .str _, .int _ => true | .bl _, .str _ => true | .str _, .bl _ => true
  | _, _ => false
def rEq : R2 := fun x y H Q => scal x y = true ∧ Q (.bl (decide (x = y))) H
def rNe : R2 := fun x y H Q => scal x y = true ∧ Q (.bl (!decide (x = y))) H

section
variable {X : Cx} {a b c : Expr} {ta tb tc : TE} {pos : Pos}
theorem fin_bl {pins : List (Addr × Obj)} {σ : St} {H : Hp} {s : Shared} {Q : VK} {k k' : Bool} (I : Inv X pins σ H s) (q : Q (.bl k) H) (e : k = k') : EP X pins σ Q (.bool k') s := by
  subst e
  exact ⟨.bl k, H, I, rfl, q⟩
theorem op_lt : OpR X (compareOp .Lt) (rI0 fun i j => .bl (decide (i < j))) := opB0 fun _ _ _ _ _ _ _ q => lt_int q
theorem op_le : OpR X (compareOp .LtE) (rI0 fun i j => .bl (decide (i ≤ j))) := opB0 fun _ _ _ _ _ _ _ q => le_int q
theorem op_gt : OpR X (compareOp .Gt) (rI0 fun i j => .bl (decide (j < i))) := opB0 fun _ _ _ _ _ _ _ q => gt_int q
/-- is, is not of two objects that are tracked lists or instances -/
def isObj : HO → Bool
  | .lst _ => true
  | .ins _ _ _ => true
  | _ => false
/-- two rules for one operation: by cases -/
theorem OpR.or {f : Value → Value → Sem Value} {r r' : R2} (h : OpR X f r) (h' : OpR X f r') : OpR X f (fun x y H Q => r x y H Q ∨ r' x y H Q) := by
  intro pins s σ H x y v u Q I rx ry q
  rcases q with q | q
  · exact h pins s σ H x y v u Q I rx ry q
  · exact h' pins s σ H x y v u Q I rx ry q

theorem nomark (b : Expr) {op : CmpOp} (h : op ≠ .In := by decide) (h2 : op ≠ .NotIn := by decide) : behindInMarks op b = false := by
  have e1 : (op == CmpOp.In) = false := by cases op <;> first | rfl | exact absurd rfl h
  have e2 : (op == CmpOp.NotIn) = false := by cases op <;> first | rfl | exact absurd rfl h2
  cases b <;> simp [behindInMarks, e1, e2]
/-- a comparison as a value; hm: nomark b, or (for in, not in) by with_unfolding_all rfl -/
theorem pe_cmpR {op : CmpOp} {r : R2} (ho : OpR X (compareOp op) r) (ha : PE X a ta) (hb : PE X b tb) (hm : behindInMarks op b = false) : PE X (.Compare a [op] [b] pos) (tOp r ta tb) := by
  intro pins s σ H Q I h
  exact wpAny_Compare1 (binT ha hb I h fun v u s2 x y H2 I2 rx ry q => ho pins s2 σ H2 x y v u Q I2 rx ry q) hm
/-- a reading of a value as a test -/
def tTest (t : TE) : TT := fun σ H Q => t σ H fun x H' => ∃ k, x = .bl k ∧ Q k H'
theorem pt_cmpR {op : CmpOp} {r : R2} (ho : OpR X (compareOp op) r) (ha : PE X a ta) (hb : PE X b tb) (hm : behindInMarks op b = false) : PT X (.Compare a [op] [b] pos) (tTest (tOp r ta tb)) := by
  intro pins s σ H Q I h
  refine wpAny_isTrue_Compare1 (thn (ha pins s σ H _ I h) fun v s1 ⟨x, H1, I1, r1, q1⟩ => thn (hb pins s1 σ H1 _ I1 q1) fun u s2 ⟨y, H2, I2, r2, q2⟩ =>
    thn (ho pins s2 σ H2 x y v u _ I2 r1 r2 q2) fun c s3 ⟨z, H3, I3, r3, k, e, q3⟩ => ?_) hm
  subst e
  cases r3
  exact wpAny_truthy_bool ⟨H3, I3, q3⟩
/-- a op1 b op2 c -/
def tChain (r r' : R2) (ta tb tc : TE) : TE := fun σ H Q => ta σ H fun x H1 => tb σ H1 fun y H2 => r x y H2 fun z H3 => ∃ k, z = .bl k ∧
  (if k = true then tc σ H3 fun w' H4 => r' y w' H4 Q else Q (.bl false) H3)
theorem pe_chain {op op' : CmpOp} {r r' : R2} (ho : OpR X (compareOp op) r) (ho' : OpR X (compareOp op') r') (ha : PE X a ta) (hb : PE X b tb) (hc : PE X c tc)
    (hm : lastMarks [op, op'] [b, c] = false := by with_unfolding_all rfl) : PE X (.Compare a [op, op'] [b, c] pos) (tChain r r' ta tb tc) := by
  intro pins s σ H Q I h
  refine Compare_chain (thn (ha pins s σ H _ I h) fun v s1 ⟨x, H1, I1, r1, q1⟩ => chain_link (thn (hb pins s1 σ H1 _ I1 q1) fun u s2 ⟨y, H2, I2, r2, q2⟩ =>
    thn (ho pins s2 σ H2 x y v u _ I2 r1 r2 q2) fun d s3 ⟨z, H3, I3, r3, k, e, q3⟩ => ?_)) hm
  subst e
  cases r3
  refine wpAny_truthy_bool ?_
  cases k with
  | false => exact ite_ff ⟨.bl false, H3, I3, rfl, q3⟩
  | true => exact ite_tt (chain_last (thn (hc pins s3 σ H3 _ I3 q3) fun w' s4 ⟨z', H4, I4, r4, q4⟩ => ho' pins s4 σ H4 y z' u w' Q I4 r2 r4 q4))
theorem pt_chain {op op' : CmpOp} {r r' : R2} (ho : OpR X (compareOp op) r) (ho' : OpR X (compareOp op') r') (ha : PE X a ta) (hb : PE X b tb) (hc : PE X c tc)
    (hm : lastMarks [op, op'] [b, c] = false := by with_unfolding_all rfl) : PT X (.Compare a [op, op'] [b, c] pos) (tTest (tChain r r' ta tb tc)) := by
  intro pins s σ H Q I h
  refine isTrue_chain (thn (ha pins s σ H _ I h) fun v s1 ⟨x, H1, I1, r1, q1⟩ => test_link (thn (hb pins s1 σ H1 _ I1 q1) fun u s2 ⟨y, H2, I2, r2, q2⟩ =>
    thn (ho pins s2 σ H2 x y v u _ I2 r1 r2 q2) fun d s3 ⟨z, H3, I3, r3, k, e, q3⟩ => ?_)) hm
  subst e
  cases r3
  refine wpAny_truthy_bool ?_
  cases k with
  | false =>
    obtain ⟨k', e', q'⟩ := q3
    cases e'
    exact ite_ff ⟨H3, I3, q'⟩
  | true =>
    refine ite_tt (test_last (thn (hc pins s3 σ H3 _ I3 q3) fun w' s4 ⟨z', H4, I4, r4, q4⟩ => thn (ho' pins s4 σ H4 y z' u w' _ I4 r2 r4 q4) fun d' s5 ⟨z2, H5, I5, r5, k2, e2, q5⟩ => ?_))
    subst e2
    cases r5
    exact wpAny_truthy_bool ⟨H5, I5, q5⟩

/-! ### truth -/
/-- a value's truth by the abstract heap -/
def TruV (K : PySem.W.Frag) (x : V) (H : Hp) (k : Bool) : Prop :=
  match x with
  | .non => k = false
  | .bl b => k = b
  | .int i => k = (i != 0)
  | .str y => y.length ≤ sizeLine ∧ k = ((y.length : Int) != 0)
  | .byt y => y.size ≤ sizeLine ∧ k = ((y.size : Int) != 0)
  | .ref p => (∃ xs, SqL K H p xs ∧ k = !xs.isEmpty) ∨ (∃ xs, SqT K H p xs ∧ k = !xs.isEmpty) ∨ ∃ kvs, H p = some (.dK kvs) ∧ k = !kvs.isEmpty
  | _ => False
theorem line63 : (sizeLine : Nat) < 2 ^ 63 := by rw [sizeLine_eq]; decide
theorem op_add_str : OpR X (binaryOp .Add) (fun x y H Q => ∃ i j, x = .str i ∧ y = .str j ∧ i.length + j.length ≤ sizeLine ∧ Q (.str (i ++ j)) H) := by
  intro pins s σ H x y v u Q I rx ry h
  obtain ⟨i, j, rfl, rfl, hz, q⟩ := h
  obtain ⟨t, rfl⟩ := rx
  obtain ⟨t', rfl⟩ := ry
  exact add_str (fun t' tk => ⟨.str (i ++ j), H, I.tok _, ⟨_, rfl⟩, q⟩) hz
def PlainIxT (b : Expr) : Prop := ∀ o i, subscripted b false o i = operate [o, i] (getItem o i)
/-! ### scalar builtins, by CallR -/
theorem vals1 {x : V} {us : List Value} (r : Vals [x] us) : ∃ u, us = [u] ∧ RelV x u := by
  cases r with
  | cons r1 r2 => cases r2; exact ⟨_, rfl, r1⟩
theorem vals2 {x y : V} {us : List Value} (r : Vals [x, y] us) : ∃ u w', us = [u, w'] ∧ RelV x u ∧ RelV y w' := by
  cases r with
  | cons r1 r2 =>
    cases r2 with
    | cons r3 r4 => cases r4; exact ⟨_, _, rfl, r1, r3⟩
theorem call_max2 (hc : X.calm = true) : CallR X (.builtin "max") (fun xs H Q => ∃ i j, xs = [.int i, .int j] ∧ Q (.int (if j > i then j else i)) H) := by
  intro pins s σ H xs us Q I r h
  obtain ⟨i, j, rfl, q⟩ := h
  obtain ⟨u, w', rfl, ⟨t, rfl⟩, ⟨t', rfl⟩⟩ := vals2 r
  refine max_two_ints (I.ok.hd hc) fun h' tk k => ⟨_, H, I.kept k, ?_, q⟩
  by_cases hj : j > i
  · rw [if_pos hj, if_pos hj]; exact ⟨_, rfl⟩
  · rw [if_neg hj, if_neg hj]; exact ⟨_, rfl⟩
theorem call_min2 (hc : X.calm = true) : CallR X (.builtin "min") (fun xs H Q => ∃ i j, xs = [.int i, .int j] ∧ Q (.int (if j < i then j else i)) H) := by
  intro pins s σ H xs us Q I r h
  obtain ⟨i, j, rfl, q⟩ := h
  obtain ⟨u, w', rfl, ⟨t, rfl⟩, ⟨t', rfl⟩⟩ := vals2 r
  refine min_two_ints (I.ok.hd hc) fun h' tk k => ⟨_, H, I.kept k, ?_, q⟩
  by_cases hj : j < i
  · rw [if_pos hj, if_pos hj]; exact ⟨_, rfl⟩
  · rw [if_neg hj, if_neg hj]; exact ⟨_, rfl⟩
theorem call_int1 : CallR X (.type "int") (fun xs H Q => (∃ i, xs = [.int i] ∧ Q (.int i) H) ∨ ∃ k, xs = [.bl k] ∧ Q (.int (if k then 1 else 0)) H) := by
  intro pins s σ H xs us Q I r h
  rcases h with ⟨i, rfl, q⟩ | ⟨k, rfl, q⟩
  · obtain ⟨u, rfl, t, rfl⟩ := vals1 r
    exact call_int_int ⟨.int i, H, I, ⟨_, rfl⟩, q⟩
  · obtain ⟨u, rfl, r1⟩ := vals1 r
    cases r1
    exact call_int_bool ⟨.int (if k then 1 else 0), H, I.tok _, ⟨_, rfl⟩, q⟩
/-- len of a str, a bytes, a list, a tuple -/
def LenV (K : PySem.W.Frag) (x : V) (H : Hp) (n : Nat) : Prop :=
  match x with
  | .str y => y.length ≤ sizeLine ∧ n = y.length
  | .byt y => y.size ≤ sizeLine ∧ n = y.size
  | .ref p => (∃ xs, SqL K H p xs ∧ n = xs.length) ∨ ∃ xs, SqT K H p xs ∧ n = xs.length
  | _ => False
end
end L2

namespace L2
open PySem PySem.Spec PyProof.Rows

/-! ### an instance, its attributes a map -/
structure ObjM (h : Heap) (x dx C : Addr) (mA : Str → Option Value) : Prop where
  obj : h.get? x = some (PySem.W.instObj C dx)
  ns : h.Ns1 dx mA
  ne : dx ≠ x

theorem lookIn_ns {h : Heap} {dx : Addr} {mA : Str → Option Value} (n : h.Ns1 dx mA) : ∃ od, h.get? dx = some od ∧ ∀ name, PySem.W.lookIn name od = some (mA name) := by
  obtain ⟨o, es, ep, ho, hd, hk, _, hm⟩ := n
  refine ⟨o, ho, fun name => ?_⟩
  have e := hm name
  unfold nsFind findBy at e
  rw [← Array.find?_toList] at e
  unfold PySem.W.lookIn
  rw [hd]
  dsimp only
  split
  · rename_i y q
    rw [q] at e
    exact congrArg some e
  · rename_i q
    rw [q] at e
    have a : es.toList.any (·.refKey) = false := by
      rw [List.any_eq_false]
      intro y hy
      obtain ⟨z, t, hkey⟩ := hk y (Array.mem_toList_iff.mp hy)
      simp [DictEntry.refKey, hkey]
    have a' : ¬ es.toList.any (·.refKey) = true := by rw [a]; exact Bool.false_ne_true
    rw [if_neg a']
    exact congrArg some e

theorem ObjM.look {h : Heap} {x dx C : Addr} {mA : Str → Option Value} (I : ObjM h x dx C mA) : ∃ od, PySem.W.InstAt h x (PySem.W.instObj C dx) C (some od) ∧ ∀ name, PySem.W.lookIn name od = some (mA name) :=
  let ⟨od, ho, hl⟩ := lookIn_ns I.ns
  ⟨od, ⟨I.obj, rfl, rfl, ho⟩, hl⟩

section
variable {prog : Program} {w : World} {A : Around} {E : Value → Shared → Prop} {s : Shared} {K : PySem.W.Frag} {x dx C f : Addr} {mA : Str → Option Value} {name : Str} {v : Value}

theorem get_meth {pl : Sem Bool} {Q : Value × List Value → Shared → Prop} (X : K.In s.heap) (I : ObjM s.heap x dx C mA) (hg : PySem.W.plainGet K C name = true)
    (hf : PySem.W.findIn K (.ref C) name = some (some (.ref f))) (ht : PySem.W.isFn K (.ref f) = true) (hv : mA name = none) (h : Q (.ref f, [.ref x]) s) :
    wpAny (model prog w) A (getMethod (.ref x) name pl) Q E s := by
  obtain ⟨od, J, hl⟩ := I.look
  exact PySem.W.method_fn X J (PySem.W.plainGet_of hg).1 (PySem.W.plainGet_of hg).2 hf (beq_iff_eq.mp ht) (by show (PySem.W.lookIn name od).map (·.isSome) = some false; rw [hl, hv]; rfl) h

/-- C() where there is no __init__ but object's -/
theorem make_map0 {R : Result → Shared → Prop} (X : K.In s.heap) (hm : PySem.W.makesIn K C = true)
    (hi : PySem.W.findIn K (.ref C) "__init__" = some (some (.builtin "object.__init__")))
    (hb : ∀ self, PySem.W.Looks (model prog w) s.heap (bindSpecial (.builtin "object.__init__") self) (.builtin "object.__init__", [self]))
    (h : codeAny (model prog w) (A.under (.builtin "type.__call__" ⟨[.ref C], []⟩)) (.call (.builtin "object.__init__") ⟨[.ref (s.heap.objs.size + 1)], []⟩) (PySem.W.InitBack (s.heap.objs.size + 1) R)
      { s with heap := (s.heap.push PySem.W.emptyDict).push (PySem.W.instObj C s.heap.objs.size) }) :
    codeAny (model prog w) A (.call (.ref C) ⟨[], []⟩) R s := by
  obtain ⟨hh, g, d, t, os⟩ := s
  exact PySem.W.make_core (PySem.W.makes_of X hm) (PySem.W.looks_findIn X hi) hb (.inr ⟨rfl, rfl⟩) h
end

/-! ### the attributes as a list of pairs -/
def putF (f : Str) (v : V) : List (Str × V) → List (Str × V)
  | [] => [(f, v)]
  | (g, x) :: r => if g = f then (g, v) :: r else (g, x) :: putF f v r
theorem RelO.none_of {o : Option Value} (r : RelO none o) : o = none := by
  cases o with
  | none => rfl
  | some u => exact (show False from r).elim
section
variable {P : Program} {w : World} {H H' : Hp} {h h' : Heap} {a C dx : Addr} {fs fs' : List (Str × V)}
theorem ins_get (hok : HOk P w H h) (e : H a = some (.ins C dx fs)) : ∃ mA, ObjM h a dx C mA ∧ (∀ f, RelO (fs.lookup f) (mA f)) ∧ PySem.Within mA (fs.map (·.1)) ∧ fs.length ≤ 1000 ∧ H dx = some (.own a) := by
  obtain ⟨d, z, ne, ob, mA, n, r, q⟩ := (show ObjOk P w H h a (.ins C dx fs) from hok a _ e)
  exact ⟨mA, ⟨ob, n, ne⟩, r, q, z, d⟩
end

/-! ### what of the text a class must have -/
structure Cls (K : PySem.W.Frag) (C : Addr) : Prop where
  pg : PySem.W.plainGet K C Str.empty = true
  hd : PySem.W.hasDictIn K C = true
  po : PySem.W.plainOver K C = true
  sa : PySem.W.findIn K (.ref C) "__setattr__" = some (some (.builtin "object.__setattr__"))
theorem Cls.get {K : PySem.W.Frag} {C : Addr} (c : Cls K C) (f : Str) : PySem.W.plainGet K C f = true := c.pg
/-- no class of it has the name -/
def NoAttr (K : PySem.W.Frag) (C : Addr) (f : Str) : Prop := PySem.W.findIn K (.ref C) f = some none
/-- a constant of the class -/
structure Con (K : PySem.W.Frag) (C : Addr) (f : Str) (v : V) (u : Value) : Prop where
  at_ : PySem.W.findIn K (.ref C) f = some (some u)
  rel : RelV v u
  get : PySem.W.specialIn K u "__get__" = some none
  cp : PySem.W.copiedNames.contains f = false
/-- a method: a plain def of the class or of one above it -/
structure Meth (K : PySem.W.Frag) (C : Addr) (m : Str) (f : Addr) : Prop where
  at_ : PySem.W.findIn K (.ref C) m = some (some (.ref f))
  fn : PySem.W.isFn K (.ref f) = true
  kp : PySem.W.keepIn K (.ref f) = true

section
variable {X : Cx} {pins : List (Addr × Obj)} {σ : St} {H : Hp} {s : Shared} {a C dx : Addr} {fs : List (Str × V)} {f : Str} {v : V} {A : Around} {E : Value → Shared → Prop}

theorem getmeth_ok {m : Str} {g : Addr} {pl : Sem Bool} {Q : Value × List Value → Shared → Prop} (I : Inv X pins σ H s) (e : H a = some (.ins C dx fs)) (c : Cls X.K C) (k : Meth X.K C m g) (l : fs.lookup m = none)
    (h : Q (.ref g, [.ref a]) s) : wpAny (model X.prog X.w) A (getMethod (.ref a) m pl) Q E s := by
  obtain ⟨mA, O, r, _, _, _⟩ := ins_get I.hok e
  have hn : mA m = none := RelO.none_of (by rw [← l]; exact r m)
  exact get_meth I.kIn O (c.get m) k.at_ k.fn hn h

/-- a new instance, tracked, without attributes -/
theorem Inv.made (I : Inv X pins σ H s) : Inv X pins σ (upd (upd H s.heap.objs.size (.own (s.heap.objs.size + 1))) (s.heap.objs.size + 1) (.ins C s.heap.objs.size []))
    { s with heap := (s.heap.push PySem.W.emptyDict).push (PySem.W.instObj C s.heap.objs.size) } := by
  have e1 : (s.heap.push PySem.W.emptyDict).get? s.heap.objs.size = some PySem.W.emptyDict := Heap.get?_push_size s.heap rfl
  have e2 : ((s.heap.push PySem.W.emptyDict).push (PySem.W.instObj C s.heap.objs.size)).get? (s.heap.objs.size + 1) = some (PySem.W.instObj C s.heap.objs.size) := by
    have := Heap.get?_push_size (s.heap.push PySem.W.emptyDict) (o := PySem.W.instObj C s.heap.objs.size) rfl
    rwa [Heap.size_push] at this
  have e3 : (s.heap.push PySem.W.emptyDict).Ns s.heap.objs.size (fun _ => none) := ⟨PySem.W.emptyDict, #[], _, e1, rfl, (fun e he => absurd he (by simp)), fun _ => rfl⟩
  have I1 := I.laid (a := s.heap.objs.size) (o := .own (s.heap.objs.size + 1)) (h' := s.heap.push PySem.W.emptyDict) (t' := s.toks) (fun b u q => Heap.get?_push_of_some _ q) (Nat.le_refl _) ⟨_, e1⟩
  refine I1.laid (a := s.heap.objs.size + 1) (o := .ins C s.heap.objs.size []) (t' := s.toks) (fun b u q => Heap.get?_push_of_some _ q) (Nat.le_of_eq (Heap.size_push _ _)) ?_
  have ne : s.heap.objs.size ≠ s.heap.objs.size + 1 := Nat.ne_of_lt (Nat.lt_succ_self _)
  refine ⟨by rw [upd_ne ne, upd_same], Nat.zero_le _, ne, e2, fun _ => none, (Heap.Ns1.of_empty e3).at fun o q => Heap.get?_push_of_some _ q, fun _ => True.intro, fun y hy => absurd rfl hy⟩

end

/-! ### readings and rules -/
/-- e.f, an attribute of the instance -/
def tFld (K : PySem.W.Frag) (ta : TE) (f : Str) : TE := fun σ H Q => ta σ H fun x H1 => ∃ a C dx fs v, x = .ref a ∧ H1 a = some (.ins C dx fs) ∧ Cls K C ∧ NoAttr K C f ∧ fs.lookup f = some v ∧ Q v H1
/-- e.f, a constant of the class -/
def tCon (K : PySem.W.Frag) (ta : TE) (f : Str) : TE := fun σ H Q => ta σ H fun x H1 => ∃ a C dx fs v u, x = .ref a ∧ H1 a = some (.ins C dx fs) ∧ Cls K C ∧ Con K C f v u ∧ fs.lookup f = none ∧ Q v H1
/-- e.f = value -/
def sFld (K : PySem.W.Frag) (ta tv : TE) (f : Str) : TS := fun D σ H => tv σ H fun y H1 => ta σ H1 fun x H2 => ∃ a C dx fs, x = .ref a ∧ H2 a = some (.ins C dx fs) ∧ Cls K C ∧ NoAttr K C f ∧ fs.length < 1000 ∧
  D.nx σ (upd H2 a (.ins C dx (putF f y fs)))
/-- an augmented operator on two values -/
def InOp (X : Cx) (op : Operator) (rd : V → V → Hp → VK → Prop) : Prop :=
  ∀ (pins : List (Addr × Obj)) (s : Shared) (σ : St) (H : Hp) (x y : V) (u v : Value) (Q : VK), Inv X pins σ H s → RelV x u → RelV y v → rd x y H Q → wpAny (model X.prog X.w) X.A (inplaceOp op u v) (EP X pins σ Q) X.xe s
/-- e.f op= value -/
def sFldAug (K : PySem.W.Frag) (ta tv : TE) (rd : V → V → Hp → VK → Prop) (f : Str) : TS := fun D σ H => ta σ H fun x H1 => ∃ a C dx fs v, x = .ref a ∧ H1 a = some (.ins C dx fs) ∧ Cls K C ∧ NoAttr K C f ∧ fs.lookup f = some v ∧
  tv σ H1 fun y H2 => rd v y H2 fun z H3 => ∃ dx' fs', H3 a = some (.ins C dx' fs') ∧ fs'.length < 1000 ∧ D.nx σ (upd H3 a (.ins C dx' (putF f z fs')))

section
variable {X : Cx} {o e value : Expr} {f : Str} {pos pos' tpos : Pos} {ta tv : TE}
def rAdd : V → V → Hp → VK → Prop := fun x y H Q => ∃ i j, x = .int i ∧ y = .int j ∧ Q (.int (i + j)) H
def rSub : V → V → Hp → VK → Prop := fun x y H Q => ∃ i j, x = .int i ∧ y = .int j ∧ Q (.int (i - j)) H
/-- what is between an instance and its method: the tree of a method call -/
theorem methcall_of {pl : Sem Bool} {m : Str} {apos : Pos} {args : List Expr} {pins : List (Addr × Obj)} {s : Shared} {σ : St} {H : Hp} {Q : Value → Shared → Prop} {te : TE} (he : PE X e te) (I : Inv X pins σ H s)
    (h : te σ H fun x H1 => ∃ a C dx fs g, x = .ref a ∧ H1 a = some (.ins C dx fs) ∧ Cls X.K C ∧ Meth X.K C m g ∧ fs.lookup m = none ∧
      ∀ s1, Inv X pins σ H1 s1 → wpAny (model X.prog X.w) X.A (callWith pos (.ref g) [.ref a] (backTo pos (starEach args X.env)) (backToKw pos (keywordEach [] X.env))) Q X.xe s1)
    (ht : eval (.Call (.Attribute e m apos) args [] pos) X.env = (do
      let ov ← eval e X.env
      standAt apos.atName
      let (f, first) ← holding [ov] (getMethod ov m pl)
      callWith pos f first (backTo pos (starEach args X.env)) (backToKw pos (keywordEach [] X.env)))) :
    wpAny (model X.prog X.w) X.A (eval (.Call (.Attribute e m apos) args [] pos) X.env) Q X.xe s := by
  refine PySem.W.methodCall_KW (pl := pl) (thn (he pins s σ H _ I h) fun u s1 ⟨x, H1, I1, rx, a, C, dx, fs, g, ex, ea, c, k, l, q⟩ => ?_) ht
  subst ex
  obtain rfl : u = Value.ref a := rx
  exact getmeth_ok I1 ea c k l (q s1 I1)
end

/-! ### isinstance -/
section
variable {X : Cx} {pins : List (Addr × Obj)} {σ : St} {H : Hp} {s : Shared} {A : Around} {E : Value → Shared → Prop} {Q : Value → Shared → Prop} {c : Value} {b : Bool}
/-- the type of a value, as the fragment's deciders take it; for an instance its class -/
inductive TyOf (K : PySem.W.Frag) (H : Hp) : V → Value → Prop where
  | non : TyOf K H .non (.type "NoneType")
  | bl (x : Bool) : TyOf K H (.bl x) (.type "bool")
  | int (i : Int) : TyOf K H (.int i) (.type "int")
  | str (x : Str) : TyOf K H (.str x) (.type "str")
  | flt (x : UInt64) : TyOf K H (.flt x) (.type "float")
  | lst {a : Addr} {xs : List V} (e : H a = some (.lst xs)) : TyOf K H (.ref a) (.type "list")
  | frz {a : Addr} {o : Obj} {xs : List V} (e : H a = some (.frz o (.lst xs))) : TyOf K H (.ref a) (.type "list")
  | tup {a : Addr} {xs : List V} (e : H a = some (.tup xs)) : TyOf K H (.ref a) (.type "tuple")
  | dK {a : Addr} {kvs : List (Key × V)} (e : H a = some (.dK kvs)) : TyOf K H (.ref a) (.type "dict")
  | dT {a : Addr} {kvs : List (List Key × V)} (e : H a = some (.dT kvs)) : TyOf K H (.ref a) (.type "dict")
  | ins {a C dx : Addr} {fs : List (Str × V)} (e : H a = some (.ins C dx fs)) (cl : Cls K C) (ha : PySem.W.findIn K (.ref C) "__class__" = some (some (.builtin "object.__class__")))
      (hn : PySem.W.specialIn K (.builtin "object.__class__") "__get__" = some (some (.builtin "getset_descriptor.__get__"))) (htk : PySem.W.takesIn K (.builtin "object.__class__") = some true)
      (hm : PySem.W.mroIn K C (.type "object") = some true) : TyOf K H (.ref a) (.ref C)
/-- isinstance(x, c) for one class c, a built-in or an own one: kitOne's answer -/
theorem isinst_ok {x : V} {u t : Value} (I : Inv X pins σ H s) (rx : RelV x u) (ty : TyOf X.K H x t) (e : PySem.W.kitOne X.K t c = some b) (h : ∀ tk, Q (.bool b) { s with toks := tk }) :
    wpAny (model X.prog X.w) A (call (.builtin "isinstance") [u, c]) Q E s := by
  cases ty with
  | non => cases (show u = Value.none from rx); exact PySem.W.kia_one PySem.W.kitx_none I.kIn True.intro e (fun z => nomatch z) h
  | bl y => cases (show u = Value.bool y from rx); exact PySem.W.kia_one PySem.W.kitx_bool I.kIn True.intro e (fun z => nomatch z) h
  | int i => obtain ⟨t, q⟩ := (show ∃ t, u = Value.int i t from rx); cases q; exact PySem.W.kia_one PySem.W.kitx_int I.kIn True.intro e (fun z => nomatch z) h
  | str y => obtain ⟨t, q⟩ := (show ∃ t, u = Value.str y t from rx); cases q; exact PySem.W.kia_one PySem.W.kitx_str I.kIn True.intro e (fun z => nomatch z) h
  | flt y => obtain ⟨t, q⟩ := (show ∃ t, u = Value.float y t from rx); cases q; exact PySem.W.kia_one PySem.W.kitx_float I.kIn True.intro e (fun z => nomatch z) h
  | @lst a xs ea =>
    cases (show u = Value.ref a from rx)
    obtain ⟨_, _, n, _, h1⟩ := (show ObjOk X.prog X.w H s.heap a (.lst xs) from I.hok a _ ea)
    exact PySem.W.kia_one PySem.W.kitx_list I.kIn ⟨_, h1, rfl⟩ e (fun z => nomatch z) h
  | @frz a ob xs ea =>
    cases (show u = Value.ref a from rx)
    obtain ⟨_, _, _, n, _, h1⟩ := (show ObjOk X.prog X.w H s.heap a (.frz ob (.lst xs)) from I.hok a _ ea)
    exact PySem.W.kia_one PySem.W.kitx_list I.kIn ⟨_, h1, rfl⟩ e (fun z => nomatch z) h
  | @tup a xs ea =>
    cases (show u = Value.ref a from rx)
    obtain ⟨_, _, _, p⟩ := (show ObjOk X.prog X.w H s.heap a (.tup xs) from I.hok a _ ea)
    obtain ⟨o, h1, h2, _⟩ := p
    exact PySem.W.kia_one PySem.W.kitx_tuple I.kIn ⟨o, h1, h2⟩ e (fun z => nomatch z) h
  | @dK a kvs ea =>
    cases (show u = Value.ref a from rx)
    obtain ⟨_, _, vs, _, p⟩ := (show ObjOk X.prog X.w H s.heap a (.dK kvs) from I.hok a _ ea)
    obtain ⟨o, es, ep, h1, h2, _⟩ := p
    exact PySem.W.kia_one PySem.W.kitx_dict I.kIn ⟨o, h1, h2.1⟩ e (fun z => nomatch z) h
  | @dT a kvs ea =>
    cases (show u = Value.ref a from rx)
    obtain ⟨_, _, xs, _, o, es, ep, h1, h2, _⟩ := (show ObjOk X.prog X.w H s.heap a (.dT kvs) from I.hok a _ ea)
    exact PySem.W.kia_one PySem.W.kitx_dict I.kIn ⟨o, h1, h2.1⟩ e (fun z => nomatch z) h
  | @ins a C dx fs ea cl ha hn htk hm =>
    cases (show u = Value.ref a from rx)
    obtain ⟨mA, O, _⟩ := ins_get I.hok ea
    obtain ⟨od, J, _⟩ := O.look
    exact PySem.W.kia_one (PySem.W.kitx_own (cl.get _) cl.hd ha hn htk hm) I.kIn J e (fun z => nomatch z) h
end
end L2

namespace L2
open PySem PySem.Spec PyProof.Rows

/-! ### room -/
structure Room (k : Nat) (A : Around) : Prop where
  hd : A.handled = none
  dp : A.depth + 3 * k + 5 < recursionLimit
  un : A.units + 16 * k + 200 < cLine
  gd : A.guards = some []
theorem Room.mono {j k : Nat} {A : Around} (r : Room k A) (h : j ≤ k) : Room j A := ⟨r.hd, by have := r.dp; omega, by have := r.un; omega, r.gd⟩
theorem Room.deeper {k : Nat} {A : Around} (r : Room (k + 1) A) (env : Env) : Room k (A.deeper env) :=
  ⟨r.hd, by have := r.dp; show A.depth + 1 + 3 * k + 5 < _; omega, by have := r.un; show A.units + 3 + 16 * k + 200 < _; omega, r.gd⟩
theorem Room.depth {k : Nat} {A : Around} (r : Room k A) : A.depth < recursionLimit := by have := r.dp; omega
/-! ### argument lists and displays -/
def tNil : TA := fun _ H Q => Q [] H
def tCons (ta : TE) (tr : TA) : TA := fun σ H Q => ta σ H fun x H1 => tr σ H1 fun xs H2 => Q (x :: xs) H2
section
variable {X : Cx} {e : Expr} {es : List Expr} {te : TE} {t : TA} {pos : Pos}
theorem pa_nil : PA X [] tNil := fun _ _ _ _ H Q I h => Calls.spliced_nil ⟨[], H, I, .nil, h⟩
theorem pa_cons (ha : PE X e te) (hr : PA X es t) (hs : starEach (e :: es) X.env = (false, eval e X.env) :: starEach es X.env := by rfl) : PA X (e :: es) (tCons te t) := by
  intro pos pins s σ H Q I h
  rw [hs]
  show wpAny _ _ (spliced ((false, eval e X.env) :: backTo pos (starEach es X.env))) _ _ s
  refine Calls.spliced_cons (thn (ha pins s σ H _ I h) fun u s1 ⟨x, H1, I1, r1, q1⟩ => ?_)
  exact thn (hr pos pins s1 σ H1 _ I1 q1) fun us s2 ⟨xs, H2, I2, r2, q2⟩ => ⟨x :: xs, H2, I2, .cons r1 r2, q2⟩

/-- a tuple, a list of written items -/
def tTup (t : TA) : TE := fun σ H Q => t σ H fun xs H1 => xs.length ≤ sizeLine ∧ ∀ p, H1 p = none → Q (.ref p) (upd H1 p (.tup xs))
def tLst (t : TA) : TE := fun σ H Q => t σ H fun xs H1 => xs.length ≤ sizeLine ∧ ∀ p, H1 p = none → Q (.ref p) (upd H1 p (.lst xs))
theorem pe_tup {x1} (h : PA X es t) : PE X (.Tuple es x1 pos) (tTup t) := by
  intro pins s σ H Q I hq
  refine wpAny_Tuple_spliced (thn (h pos pins s σ H _ I hq) fun us s1 ⟨xs, H1, I1, r, z, q⟩ => ⟨by rw [← r.length]; exact z, ?_⟩)
  have hf : H1 s1.heap.objs.size = none := I1.hok.fresh (Nat.le_refl _)
  refine ⟨.ref s1.heap.objs.size, upd H1 s1.heap.objs.size (.tup xs), I1.laid (t' := s1.toks) (fun b u e => Heap.get?_push_of_some _ e) (Nat.le_refl _) ?_, rfl, q _ hf⟩
  exact ⟨z, us, r, ⟨_, Heap.get?_push_size _ rfl, rfl, _, rfl⟩⟩
theorem pe_lst (h : PA X es t) : PE X (.List es pos) (tLst t) := by
  intro pins s σ H Q I hq
  refine wpAny_List_spliced (thn (h pos pins s σ H _ I hq) fun us s1 ⟨xs, H1, I1, r, z, q⟩ => ⟨by rw [← r.length]; exact z, ?_⟩)
  have hf : H1 s1.heap.objs.size = none := I1.hok.fresh (Nat.le_refl _)
  refine ⟨.ref s1.heap.objs.size, upd H1 s1.heap.objs.size (.lst xs), I1.laid (t' := s1.toks) (fun b u e => Heap.get?_push_of_some _ e) (Nat.le_refl _) ?_, rfl, q _ hf⟩
  exact ⟨z, us, 0, r, Heap.get?_push_size _ rfl⟩
end

/-! ### what a def promises -/
/-- a def's promise: the bound arguments in the parameters' order, the heap, the wanted end, the wanted exception -/
abbrev Sp := List V → Hp → VK → XK → Prop
/-- how an exception lies behind a call (file 08 gives it): the callers' frames, abstract heap and state ahead of the call, the wish, the exception, the state -/
abbrev CXT := List Env → Hp → Shared → XK → Value → Shared → Prop

/-- the state at a call -/
structure Env0 (P : Program) (w : World) (K : PySem.W.Frag) (mg : Str → Option Value) (base : Heap) (A : Around) (outer : List Env) (s : Shared) (H : Hp) : Prop where
  frames : A.frames = some outer
  mod : Mod K mg base
  bs : ∀ b o, base.get? b = some o → s.heap.get? b = some o ∧ H b = none
  bsz : base.objs.size ≤ s.heap.objs.size
  funs : s.heap.FunFrames base outer
  frf : ∀ b ∈ frs outer, H b = none
  hok : HOk P w H s.heap
  bare : AllBare s.gens
/-- a call's end -/
def CE (outer : List Env) (P : Program) (w : World) (H : Hp) (s : Shared) (Q : VK) (u : Value) (s' : Shared) : Prop :=
  ∃ v H', s'.os = s.os ∧ AllBare s'.gens ∧ Un (frs outer) [] H H' s.heap s'.heap ∧ HOk P w H' s'.heap ∧ RelV v u ∧ Q v H'
def CR (CX : CXT) (outer : List Env) (P : Program) (w : World) (H : Hp) (s : Shared) (Q : VK) (E : XK) (r : Result) (s' : Shared) : Prop :=
  match r with
  | .ok (.ret u) => CE outer P w H s Q u s'
  | .ok _ => False
  | .error e => CX outer H s E e s'
structure FnOk (P : Program) (w : World) (K : PySem.W.Frag) (mg : Str → Option Value) (base : Heap) (CX : CXT) (k : Nat) (f : Addr) (fd : FuncData) (ps : List Str) (sp : Sp) : Prop where
  len : ∀ vs H Q E, sp vs H Q E → vs.length = ps.length
  run : ∀ (A : Around) (outer : List Env) (s : Shared) (H : Hp) (args : Args) (us : List Value) (vs : List V) (Q : VK) (E : XK), Room k A → Env0 P w K mg base A outer s H → BindsTo s fd args (ps.zip us) → Vals vs us → sp vs H Q E →
    codeAny (model P w) A (.call (.ref f) args) (CR CX outer P w H s Q E) s
/-- a weaker promise -/
theorem FnOk.imp {P : Program} {w : World} {K : PySem.W.Frag} {mg : Str → Option Value} {base : Heap} {CX : CXT} {k : Nat} {f : Addr} {fd : FuncData} {ps : List Str} {sp sp' : Sp} (F : FnOk P w K mg base CX k f fd ps sp)
    (h : ∀ vs H Q E, sp' vs H Q E → sp vs H Q E) : FnOk P w K mg base CX k f fd ps sp' :=
  ⟨fun vs H Q E q => F.len vs H Q E (h _ _ _ _ q), fun A outer s H args us vs Q E hr he hb hv hs => F.run A outer s H args us vs Q E hr he hb hv (h _ _ _ _ hs)⟩

section
variable {X : Cx} {pins : List (Addr × Obj)} {σ : St} {H : Hp} {s s' : Shared}
/-- from a body: what a callee wants -/
theorem Inv.env0 (I : Inv X pins σ H s) : Env0 X.prog X.w X.K X.mg X.base X.A X.stack s H :=
  ⟨I.ok.frames, I.ok.mod, I.bs, Nat.le_trans I.ok.bsz I.sz, I.stack, I.stkFree, I.hok, I.bare⟩
/-- behind a call -/
theorem Inv.after {Q : VK} {u : Value} (I : Inv X pins σ H s) (h : CE X.stack X.prog X.w H s Q u s') : EP X pins σ Q u s' := by
  obtain ⟨v, H', os, bare, un, hok, r, q⟩ := h
  obtain ⟨hh, g, d, t, os'⟩ := s'
  obtain rfl : os' = s.os := os
  exact ⟨v, H', I.call (h' := hh) (g' := g) (d' := d) (t' := t) (ch := []) un hok bare (fun b z => absurd z (by simp)), r, q⟩
end

/-! ### calls -/
/-- f(..): the written arguments, then the defaults dvs; E: what is wanted of an exception -/
def tCall (sp : Sp) (dvs : List V) (E : XK) (t : TA) : TE := fun σ H Q => t σ H fun vs H1 => sp (vs ++ dvs) H1 Q E
/-- o.m(..) of an instance of the class at C -/
def tMeth (C : Addr) (m : Str) (sp : Sp) (dvs : List V) (E : XK) (ta : TE) (t : TA) : TE := fun σ H Q => ta σ H fun x H1 => ∃ a dx fs, x = .ref a ∧ H1 a = some (.ins C dx fs) ∧ fs.lookup m = none ∧
  t σ H1 fun vs H2 => sp (x :: (vs ++ dvs)) H2 Q E
/-- C(..): a new instance and its dict, then __init__ -/
def tMake (C : Addr) (sp : Sp) (dvs : List V) (E : XK) (t : TA) : TE := fun σ H Q => t σ H fun vs H1 => ∀ x dx, H1 x = none → H1 dx = none → dx ≠ x →
  sp (.ref x :: (vs ++ dvs)) (upd (upd H1 dx (.own x)) x (.ins C dx [])) (fun v H2 => v = .non ∧ Q (.ref x) H2) E

/-- how the parameters are bound: us the positional arguments, kw the keywords' values by name, ds the defaults that fill up -/
def Binds (K : PySem.W.Frag) (fd : FuncData) (ps : List Str) (ds : List Value) : Prop :=
  ∀ (s : Shared) (us : List Value), K.In s.heap → (us ++ ds).length = ps.length → BindsTo s fd ⟨us, []⟩ (ps.zip (us ++ ds))
/-- every parameter is given -/
theorem Binds.all {K : PySem.W.Frag} {fd : FuncData} {ps : List Str} (h : ∀ us : List Value, us.length = ps.length → bindArgs fd ⟨us, []⟩ = pure (ps.zip us)) : Binds K fd ps [] := fun s us _ hl => by
  rw [List.append_nil] at hl ⊢
  exact .of_eq (h us hl)

/-- an exception of a callee reaches what this body wants of exceptions -/
def Passes (CX : CXT) (X : Cx) (E : XK) : Prop := ∀ (pins : List (Addr × Obj)) (σ : St) (H : Hp) (s : Shared) (e : Value) (s' : Shared), Inv X pins σ H s → CX X.stack H s E e s' → X.xe e s'

section
variable {X : Cx} {CX : CXT} {k : Nat} {f C : Addr} {fd : FuncData} {ps : List Str} {sp : Sp} {dvs : List V} {ds : List Value} {E : XK} {x m : Str} {p pos apos : Pos} {e o : Expr} {es : List Expr} {ta : TE} {t : TA}

/-- the callee runs -/
theorem run_fn {pins : List (Addr × Obj)} {σ : St} {H : Hp} {s : Shared} {Q : VK} {us : List Value} {vs : List V} (F : FnOk X.prog X.w X.K X.mg X.base CX k f fd ps sp) (hr : Room k X.A) (hb : Binds X.K fd ps ds) (hd : Vals dvs ds) (hx : Passes CX X E)
    (I : Inv X pins σ H s) (r : Vals vs us) (h : sp (vs ++ dvs) H Q E) : wpAny (model X.prog X.w) X.A (call (.ref f) us) (EP X pins σ Q) X.xe s := by
  have r2 : Vals (vs ++ dvs) (us ++ ds) := r.append hd
  have hl : (us ++ ds).length = ps.length := by rw [← r2.length]; exact F.len _ _ _ _ h
  refine wpAny_call (codeAny_mono (F.run X.A X.stack s H ⟨us, []⟩ (us ++ ds) (vs ++ dvs) Q E hr I.env0 (hb s us I.kIn hl) r2 h) fun r s' hq => ?_)
  cases r with
  | error e => exact hx pins σ H s e s' I hq
  | ok fl =>
    cases fl with
    | ret u => exact I.after hq
    | next => exact False.elim hq
    | brk => exact False.elim hq
    | cont => exact False.elim hq

theorem pe_call (F : FnOk X.prog X.w X.K X.mg X.base CX k f fd ps sp) (hr : Room k X.A) (hg : Gl X x) (hm : X.mg x = some (.ref f)) (hk : PySem.W.keepIn X.K (.ref f) = true) (hb : Binds X.K fd ps ds) (hd : Vals dvs ds) (hx : Passes CX X E)
    (ha : PA X (e :: es) t) (hdb : (x == ("__debug__" : Str)) = false := by decide) (he : starEach (e :: es) X.env = (false, eval e X.env) :: starEach es X.env := by rfl) (hpl : (backTo pos (starEach es X.env)).any (·.1) = false := by rfl) :
    PE X (.Call (.Name x p) (e :: es) [] pos) (tCall sp dvs E t) := by
  intro pins s σ H Q I h
  refine wpAny_Call_Name_kw (ld_glob I hg hm ?_ hdb)
  refine PySem.W.callWith_K (h₀ := X.base) I.ok.mod.kin hk (thn (ha pos pins s σ H _ I h) fun us s1 ⟨vs, H1, I1, r, q⟩ => ⟨I1.kIn, ?_⟩) he hpl
  exact run_fn F hr hb hd hx I1 r q
theorem pe_call0 (F : FnOk X.prog X.w X.K X.mg X.base CX k f fd ps sp) (hr : Room k X.A) (hg : Gl X x) (hm : X.mg x = some (.ref f)) (hk : PySem.W.keepIn X.K (.ref f) = true) (hb : Binds X.K fd ps ds) (hd : Vals dvs ds) (hx : Passes CX X E)
    (hdb : (x == ("__debug__" : Str)) = false := by decide) : PE X (.Call (.Name x p) [] [] pos) (tCall sp dvs E tNil) := by
  intro pins s σ H Q I h
  refine wpAny_Call_Name_kw (ld_glob I hg hm ?_ hdb)
  exact PySem.W.callWith_K0 I.kIn hk (run_fn (us := []) F hr hb hd hx I .nil h)

/-- o.m(e, ..) -/
theorem pe_meth {pl : Sem Bool} (he : PE X o ta) (c : Cls X.K C) (hm : Meth X.K C m f) (F : FnOk X.prog X.w X.K X.mg X.base CX k f fd ps sp) (hr : Room k X.A) (hb : Binds X.K fd ps ds) (hd : Vals dvs ds) (hx : Passes CX X E) (ha : PA X (e :: es) t)
    (hst : starEach (e :: es) X.env = (false, eval e X.env) :: starEach es X.env := by rfl) (hpl : (backTo pos (starEach es X.env)).any (·.1) = false := by rfl)
    (ht : eval (.Call (.Attribute o m apos) (e :: es) [] pos) X.env = (do
      let ov ← eval o X.env
      standAt apos.atName
      let (f, first) ← holding [ov] (getMethod ov m pl)
      callWith pos f first (backTo pos (starEach (e :: es) X.env)) (backToKw pos (keywordEach [] X.env))) := by rfl) :
    PE X (.Call (.Attribute o m apos) (e :: es) [] pos) (tMeth C m sp dvs E ta t) := by
  intro pins s σ H Q I h
  refine PySem.W.methodCall_KW (pl := pl) (thn (he pins s σ H _ I h) fun u s1 ⟨x, H1, I1, rx, a, dx, fs, ex, ea, l, q⟩ => ?_) ht
  subst ex
  obtain rfl : u = Value.ref a := rx
  refine getmeth_ok I1 ea c hm l ?_
  refine PySem.W.callWith_K (first := [.ref a]) (h₀ := X.base) I.ok.mod.kin hm.kp (thn (ha pos pins s1 σ H1 _ I1 q) fun us s2 ⟨vs, H2, I2, r, q2⟩ => ⟨I2.kIn, ?_⟩) hst hpl
  exact run_fn (us := .ref a :: us) (vs := .ref a :: vs) F hr hb hd hx I2 (.cons rfl r) q2
/-- o.m() -/
theorem pe_meth0 {pl : Sem Bool} (he : PE X o ta) (c : Cls X.K C) (hm : Meth X.K C m f) (F : FnOk X.prog X.w X.K X.mg X.base CX k f fd ps sp) (hr : Room k X.A) (hb : Binds X.K fd ps ds) (hd : Vals dvs ds) (hx : Passes CX X E)
    (ht : eval (.Call (.Attribute o m apos) [] [] pos) X.env = (do
      let ov ← eval o X.env
      standAt apos.atName
      let (f, first) ← holding [ov] (getMethod ov m pl)
      callWith pos f first (backTo pos (starEach [] X.env)) (backToKw pos (keywordEach [] X.env))) := by rfl) :
    PE X (.Call (.Attribute o m apos) [] [] pos) (tMeth C m sp dvs E ta tNil) := by
  intro pins s σ H Q I h
  refine PySem.W.methodCall_KW (pl := pl) (thn (he pins s σ H _ I h) fun u s1 ⟨x, H1, I1, rx, a, dx, fs, ex, ea, l, q⟩ => ?_) ht
  subst ex
  obtain rfl : u = Value.ref a := rx
  refine getmeth_ok I1 ea c hm l ?_
  exact PySem.W.callWith_K0 (first := [.ref a]) I1.kIn hm.kp (run_fn (us := [.ref a]) (vs := [.ref a]) F hr hb hd hx I1 (.cons rfl .nil) q)

/-- what a class must have to be made -/
structure Mk (K : PySem.W.Frag) (C f : Addr) : Prop where
  makes : PySem.W.makesIn K C = true
  init : PySem.W.findIn K (.ref C) "__init__" = some (some (.ref f))
  fn : PySem.W.isFn K (.ref f) = true
  kp : PySem.W.keepIn K (.ref C) = true

end

/-! ### keywords -/
/-- the values of the keywords, from the left -/
def PK (X : Cx) (kws : List Keyword) (t : TA) : Prop :=
  ∀ (pos : Pos) (pins : List (Addr × Obj)) (s : Shared) (σ : St) (H : Hp) (Q : List V → Hp → Prop), Inv X pins σ H s → t σ H Q → wpAny (model X.prog X.w) X.A (evalAll ((backToKw pos (keywordEach kws X.env)).map (·.2))) (AP X pins σ Q) X.xe s
section
variable {X : Cx} {CX : CXT} {k : Nat} {f C : Addr} {fd : FuncData} {ps ks : List Str} {sp : Sp} {E : XK} {x m : Str} {p pos apos kpos : Pos} {e o : Expr} {es : List Expr} {kws : List Keyword} {te ta : TE} {t tk : TA} {nm : Option Str}
/-- how a call with keywords binds: g puts the positional values us and the keywords' values ws (names ks) in the parameters' order, defaults among them -/
structure KBinds (K : PySem.W.Frag) (fd : FuncData) (ps ks : List Str) (g : List Value → List Value → List Value) (gV : List V → List V → List V) : Prop where
  to : ∀ (s : Shared) (us ws : List Value), K.In s.heap → (g us ws).length = ps.length → BindsTo s fd ⟨us, ks.zip ws⟩ (ps.zip (g us ws))
  rel : ∀ {vs : List V} {us : List Value} {zs : List V} {ws : List Value}, Vals vs us → Vals zs ws → Vals (gV vs zs) (g us ws)
def tCallK (sp : Sp) (gV : List V → List V → List V) (E : XK) (t tk : TA) : TE := fun σ H Q => t σ H fun vs H1 => tk σ H1 fun zs H2 => sp (gV vs zs) H2 Q E
variable {g : List Value → List Value → List Value} {gV : List V → List V → List V}
end

/-! ### a def's body keeps its promise -/
/-- names: the parameters first -/
structure FnScope (N P : List Str) (sc : Scope) : Prop where
  kind : sc.kind = .function
  co : sc.isCoroutine = false
  gen : sc.isGenerator = false
  nd : N.Nodup
  pre : N.take P.length = P
  par : ∀ x ∈ P, sc.names.lookup x = some .local ∨ sc.names.lookup x = some .cell
  nofree : ∀ y ∈ sc.names, y.2 ≠ .free

theorem bindL_out {kindOf : Str → Option NameKind} {x : Str} : ∀ {binds : List (Str × Value)} {m : Str → Option Value}, (∀ v, (x, v) ∉ binds) → bindL kindOf binds m x = m x
  | [], _, _ => rfl
  | (n, v) :: r, m, h => by
    unfold bindL
    rw [bindL_out fun w hw => h w (List.mem_cons_of_mem _ hw)]
    split
    · have : x ≠ n := by rintro rfl; exact h v List.mem_cons_self
      simp [this]
    · rfl
theorem bindC_out {kindOf : Str → Option NameKind} {x : Str} : ∀ {binds : List (Str × Value)} {m : Str → Option Value}, (∀ v, (x, v) ∉ binds) → bindC kindOf binds m x = m x
  | [], _, _ => rfl
  | (n, v) :: r, m, h => by
    unfold bindC
    rw [bindC_out fun w hw => h w (List.mem_cons_of_mem _ hw)]
    split
    · rfl
    · have : x ≠ n := by rintro rfl; exact h v List.mem_cons_self
      simp [this]
theorem bindL_get {kindOf : Str → Option NameKind} {x : Str} {v : Value} : ∀ {P : List Str} {vs : List Value} {i : Nat} {m : Str → Option Value}, P.Nodup → P[i]? = some x → vs[i]? = some v → kindOf x = some .local →
    bindL kindOf (P.zip vs) m x = some v
  | [], _, _, _, _, h, _, _ => by simp at h
  | _ :: _, [], _, _, _, _, h, _ => by simp at h
  | p :: P, w :: vs, 0, m, nd, h1, h2, hk => by
    simp at h1 h2; subst h1; subst h2
    show bindL kindOf ((p, w) :: P.zip vs) m p = _
    unfold bindL
    rw [bindL_out fun v hv => (List.nodup_cons.mp nd).1 (List.of_mem_zip hv).1, if_pos hk]
    simp
  | p :: P, w :: vs, i + 1, m, nd, h1, h2, hk => by
    show bindL kindOf ((p, w) :: P.zip vs) m x = _
    unfold bindL
    exact bindL_get (i := i) (List.nodup_cons.mp nd).2 (by simpa using h1) (by simpa using h2) hk
theorem bindC_get {kindOf : Str → Option NameKind} {x : Str} {v : Value} : ∀ {P : List Str} {vs : List Value} {i : Nat} {m : Str → Option Value}, P.Nodup → P[i]? = some x → vs[i]? = some v → kindOf x ≠ some .local →
    bindC kindOf (P.zip vs) m x = some v
  | [], _, _, _, _, h, _, _ => by simp at h
  | _ :: _, [], _, _, _, _, h, _ => by simp at h
  | p :: P, w :: vs, 0, m, nd, h1, h2, hk => by
    simp at h1 h2; subst h1; subst h2
    show bindC kindOf ((p, w) :: P.zip vs) m p = _
    unfold bindC
    rw [bindC_out fun v hv => (List.nodup_cons.mp nd).1 (List.of_mem_zip hv).1, if_neg hk]
    simp
  | p :: P, w :: vs, i + 1, m, nd, h1, h2, hk => by
    show bindC kindOf ((p, w) :: P.zip vs) m x = _
    unfold bindC
    exact bindC_get (i := i) (List.nodup_cons.mp nd).2 (by simpa using h1) (by simpa using h2) hk

/-- the names' values at the entry -/
def start (N : List Str) (vs : List V) : St := vs.map some ++ List.replicate (N.length - vs.length) none

/-- the context of a def's body, at its entry; an exception leaves the frame, then lies as CX says -/
def cxOf (CX : CXT) (P : Program) (w : World) (K : PySem.W.Frag) (mg : Str → Option Value) (base : Heap) (N : List Str) (qual : Str) (scope : Scope) (f : Addr) (cd : Value) (A : Around) (outer : List Env) (s : Shared) (H : Hp) (E : XK) : Cx where
  prog := P
  w := w
  K := K
  mg := mg
  base := base
  A := A.deeper (envOfC qual scope s.heap.objs.size f cd)
  N := N
  s₀ := s
  H₀ := H
  env := envOfC qual scope s.heap.objs.size f cd
  outer := outer
  stack := envOfC qual scope s.heap.objs.size f cd :: outer
  ex := []
  calm := true
  fn := fun _ => true
  pn := []
  xe := fun e s' => wpAny (model P w) (A.deeper (envOfC qual scope s.heap.objs.size f cd)) (leaving (envOfC qual scope s.heap.objs.size f cd) e) (fun _ s'' => CX outer H s E e s'') (fun e' s'' => CX outer H s E e' s'') s'

theorem cell_has {sc : Scope} {n : Nat} {x : Str} (h : sc.names.lookup x = some .cell) : ∃ c, (cellsFrom n sc.names []).lookup x = some c := by
  have q := PySem.W.cellsFrom_some sc.names n [] (.inl h)
  exact Option.isSome_iff_exists.mp q

theorem inv_start {CX : CXT} {P : Program} {w : World} {K : PySem.W.Frag} {mg : Str → Option Value} {base : Heap} {N ps : List Str} {qual : Str} {scope : Scope} {f : Addr} {cd : Value} {A : Around} {outer : List Env} {s s1 : Shared} {H : Hp} {E : XK} {us : List Value} {vs : List V}
    (S : FnScope N ps scope) (hd : A.handled = none) (e0 : Env0 P w K mg base A outer s H) (hl : vs.length = ps.length) (r : Vals vs us)
    (x : InCallC s s.heap.objs.size (bindL (envOfC qual scope s.heap.objs.size f cd).kindOf (ps.zip us) fun _ => none) (cellsFrom (s.heap.objs.size + 1) scope.names []) (bindC (envOfC qual scope s.heap.objs.size f cd).kindOf (ps.zip us) fun _ => none) s1) :
    Inv (cxOf CX P w K mg base N qual scope f cd A outer s H E) [] (start N vs) H s1 := by
  have hpl : ps.length ≤ N.length := by have := congrArg List.length S.pre; rw [List.length_take] at this; omega
  obtain ⟨h1, tk, rfl, hk⟩ := x.done
  have noA : ∀ b : Addr, b ∉ (cxOf CX P w K mg base N qual scope f cd A outer s H E).ex := fun b z => absurd (show b ∈ ([] : List Addr) from z) (by simp)
  refine ⟨⟨e0.mod, S.kind, rfl, rfl, Nat.le_refl _, fun y z c h1 h2 => ?_, fun y hy => ?_, fun y c _ h => ?_, fun _ => hd, Around.frames_deeper e0.frames, .inr ⟨rfl, rfl⟩, fun b z => absurd z (noA b), e0.bs, e0.bsz, fun b _ _ => noA b, fun b z => absurd z (noA b), e0.funs, e0.frf⟩,
    rfl, e0.bare, Un.kept hk, ⟨_, x.toInCall.ns, fun i y v h1 h2 h3 => ?_⟩, fun y c h => ⟨_, x.cell y c h⟩, e0.hok.fresh (Nat.le_refl _), fun y c h => ?_, fun p hp => absurd (show p ∈ ([] : List (Addr × Obj)) from hp) (by simp), e0.hok.kept hk, ?_⟩
  · exact name_of_addr x.apart (PySem.mem_of_lookup h1) (PySem.mem_of_lookup h2)
  · have hy : scope.names.lookup y = some .cell ∨ scope.names.lookup y = some .free := hy
    rcases hy with hy | hy
    · exact cell_has hy
    · exact absurd rfl (S.nofree _ (PySem.mem_of_lookup hy))
  · exact Nat.le_of_lt (x.above y c (PySem.mem_of_lookup h))
  · have hi : i < vs.length := by
      unfold start at h2
      by_cases hi : i < vs.length
      · exact hi
      · rw [List.getElem?_append_right (by simpa using hi)] at h2
        rw [List.getElem?_replicate] at h2
        split at h2 <;> cases h2
    have ha : vs[i]? = some v := by
      unfold start at h2
      rw [List.getElem?_append_left (by simpa using hi), List.getElem?_map] at h2
      cases e : vs[i]? with
      | none => rw [e] at h2; cases h2
      | some a => rw [e] at h2; cases h2; rfl
    obtain ⟨u, hu, rv⟩ := r.get ha
    have hp : ps[i]? = some y := by
      rw [← S.pre, List.getElem?_take_of_lt (by omega)]; exact h1
    have ndP : ps.Nodup := by rw [← S.pre]; exact S.nd.sublist (List.take_sublist _ _)
    refine ⟨u, rv, ?_⟩
    rcases S.par y (List.mem_of_getElem? hp) with k | k
    · exact .inl ⟨k, bindL_get ndP hp hu k⟩
    · obtain ⟨c, e⟩ := cell_has (n := s.heap.objs.size + 1) k
      refine .inr ⟨.inl k, c, e, ?_⟩
      have q := x.cell y c e
      rw [bindC_get ndP hp hu (by show scope.names.lookup y ≠ _; rw [k]; decide)] at q
      exact q
  · exact e0.hok.fresh (Nat.le_of_lt (x.above y c (PySem.mem_of_lookup h)))
  · unfold start
    show _ = N.length
    rw [List.length_append, List.length_map, List.length_replicate]
    omega

/-- THE RULE: a def (or a method) of the text, by its body. The body's reading t is chosen for each entry; it is run at the parameters' values -/
theorem fn_of {CX : CXT} {P : Program} {w : World} {K : PySem.W.Frag} {mg : Str → Option Value} {base : Heap} {k : Nat} {f : Addr} {name qual : Str} {params : Arguments} {body : List Stmt} {scope : Scope} {dV kV doc pm cdv ct oc : Value} {an od : Option Addr}
    {osl : Array (Option Value)} {N ps : List Str} {sp : Sp} (lk : K.lookup f = some ⟨oc, od, .func (PySem.W.fnOf name qual params body scope dV kV doc pm an cdv ct), osl⟩) (hcd : PySem.W.codeIn K cdv qual = true) (S : FnScope N ps scope)
    (len : ∀ vs H Q E, sp vs H Q E → vs.length = ps.length)
    (hbody : ∀ (A : Around) (outer : List Env) (s : Shared) (H : Hp) (vs : List V) (Q : VK) (E : XK), Room k (A.deeper (envOfC qual scope s.heap.objs.size f cdv)) → sp vs H Q E →
      ∃ t, PSs (cxOf CX P w K mg base N qual scope f cdv A outer s H E) body t ∧ t { nx := fun _ H' => Q .non H', rt := Q } (start N vs) H) :
    FnOk P w K mg base CX (k + 1) f (PySem.W.fnOf name qual params body scope dV kV doc pm an cdv ct) ps sp := by
  refine ⟨len, fun A outer s H args us vs Q E hr e0 hb r hsp => ?_⟩
  have hl := len _ _ _ _ hsp
  have KX : K.In s.heap := e0.mod.kin.keeps fun b o e => (e0.bs b o e).1
  have lim : s.heap.NoLimit := e0.mod.nolimit.keeps fun b o e => (e0.bs b o e).1
  have hkind : ∀ y ∈ ps.zip us, scope.names.lookup y.1 = some .local ∨ (scope.names.lookup y.1 = some .cell ∧ ((cellsFrom (s.heap.objs.size + 1) scope.names []).lookup y.1).isSome = true) := fun ⟨n, v⟩ hy => by
    rcases S.par n (List.of_mem_zip hy).1 with q | q
    · exact .inl q
    · exact .inr ⟨q, PySem.W.cellsFrom_some _ _ _ (.inl q)⟩
  refine codeAny_call_function hr.depth (KX _ _ lk) rfl S.co S.gen rfl (PySem.W.codeRec_of KX hcd) (hb _ _ _ _ ?_)
  refine wpAny_newFunctionEnv_cells S.kind hkind fun env he s1 x => ?_
  subst he
  refine ⟨lim.keeps x.toInCall.keep, codeAny_func ?_⟩
  obtain ⟨t, ht, hq⟩ := hbody A outer s H vs Q E (hr.deeper _) hsp
  have I : Inv (cxOf CX P w K mg base N qual scope f cdv A outer s H E) [] (start N vs) H s1 := inv_start S hr.hd e0 hl r x
  refine wpAny_mono (ht [] s1 (start N vs) H _ I hq) (fun fl s' hs => ?_) fun e s' hs => hs
  have fin : ∀ {σ' : St} {H' : Hp} {v : V} {u : Value}, Inv (cxOf CX P w K mg base N qual scope f cdv A outer s H E) [] σ' H' s' → RelV v u → Q v H' → CE outer P w H s Q u s' :=
    fun {σ' H' v u} J rv q => ⟨v, H', J.os, J.bare, J.base, J.hok, rv, q⟩
  cases fl with
  | ret u =>
    obtain ⟨v, σ', H', J, rv, q⟩ := hs
    exact fin J rv q
  | next =>
    obtain ⟨σ', H', J, q⟩ := hs
    exact fin (v := V.non) (u := Value.none) J rfl q
  | brk =>
    obtain ⟨_, _, _, q⟩ := hs
    exact False.elim q
  | cont =>
    obtain ⟨_, _, _, q⟩ := hs
    exact False.elim q
end L2

namespace L2
open PySem PySem.Spec PyProof.Rows
section
variable {X : Cx} {x : Str} {p pos : Pos} {e : Expr} {es : List Expr} {t : TA} {id T : String} {r : List V → Hp → VK → Prop}

def tCB (r : List V → Hp → VK → Prop) (t : TA) : TE := fun σ H Q => t σ H fun vs H1 => r vs H1 Q
/-- f(e, ..), f a built-in function -/
theorem pe_callB (hc : CallR X (.builtin id) r) (hg : Gl X x) (hm : X.mg x = none) (hv : bootBuiltins x = some (.builtin id)) (ha : PA X (e :: es) t) (hn : x ≠ "__name__" := by decide) (hdb : (x == ("__debug__" : Str)) = false := by decide)
    (he : starEach (e :: es) X.env = (false, eval e X.env) :: starEach es X.env := by rfl) (hpl : (backTo pos (starEach es X.env)).any (·.1) = false := by rfl) : PE X (.Call (.Name x p) (e :: es) [] pos) (tCB r t) := by
  intro pins s σ H Q I h
  refine wpAny_Call_Name_kw (ld_blt I hg hm hv ?_ hn hdb)
  exact PyProof.Rows.callWith_builtin1 (thn (ha pos pins s σ H _ I h) fun us s1 ⟨vs, H1, I1, r1, q1⟩ => hc pins s1 σ H1 vs us Q I1 r1 q1) he hpl
/-- T(e, ..), T a built-in type -/
theorem pe_callTy (hc : CallR X (.type T) r) (hg : Gl X x) (hm : X.mg x = none) (hv : bootBuiltins x = some (.type T)) (ha : PA X (e :: es) t) (hn : x ≠ "__name__" := by decide) (hdb : (x == ("__debug__" : Str)) = false := by decide)
    (he : starEach (e :: es) X.env = (false, eval e X.env) :: starEach es X.env := by rfl) (hpl : (backTo pos (starEach es X.env)).any (·.1) = false := by rfl) : PE X (.Call (.Name x p) (e :: es) [] pos) (tCB r t) := by
  intro pins s σ H Q I h
  refine wpAny_Call_Name_kw (ld_blt I hg hm hv ?_ hn hdb)
  exact PyProof.Rows.callWith_type1 (thn (ha pos pins s σ H _ I h) fun us s1 ⟨vs, H1, I1, r1, q1⟩ => hc pins s1 σ H1 vs us Q I1 r1 q1) he hpl
end
end L2

namespace HT
open PySem PyProof.Rows

/-- t < u of tuples of ints -/
def lexLt : List Int → List Int → Bool
  | [], [] => false
  | [], _ :: _ => true
  | _ :: _, [] => false
  | x :: xs, y :: ys => if x = y then lexLt xs ys else decide (x < y)
section
open PySem.SeqAt
open PySem.AutoSeq1 (wpAny_loadPart')
open PySem.MeetsSeq PySem.MeetsSeq2 PySem.MeetsSeq3

end

section
variable {prog : Program} {w : World} {A : Around} {E : Value → Shared → Prop} {s : Shared}

/-! ### t[a:b], not the whole -/
/-- a slice's bound as a place among n (d where it is left out) -/
def sIx (n d : Nat) : Option Int → Nat
  | none => d
  | some v => if v < 0 then (v + (n : Int)).toNat else min v.toNat n
end
end HT

namespace L2
open PySem PySem.Spec PyProof.Rows

/-! ### the parts of a slice -/
abbrev TO := St → Hp → (Option Int → Hp → Prop) → Prop
/-- a slice's part (left out, or an int) -/
def PO (X : Cx) (e : Option Expr) (t : TO) : Prop :=
  ∀ (pins : List (Addr × Obj)) (s : Shared) (σ : St) (H : Hp) (Q : Option Int → Hp → Prop), Inv X pins σ H s → t σ H Q →
    wpAny (model X.prog X.w) X.A (evalPart e X.env) (fun u s' => ∃ o H', Inv X pins σ H' s' ∧ IsPart u o ∧ Q o H') X.xe s
def tNoPart : TO := fun _ H Q => Q none H
def tPart (t : TE) : TO := fun σ H Q => t σ H fun x H1 => ∃ i, x = .int i ∧ Q (some i) H1

section
variable {X : Cx} {e : Expr} {te : TE} {lo hi : Option Expr} {tl th : TO} {pos p2 : Pos}

theorem po_none : PO X none tNoPart := by
  intro pins s σ H Q I h
  rw [evalPart_none]
  exact wpAny_pure ⟨none, H, I, .none, h⟩
theorem po_some (h : PE X e te) : PO X (some e) (tPart te) := by
  intro pins s σ H Q I hw
  rw [evalPart_some]
  refine thn (h pins s σ H _ I hw) fun u s1 ⟨x, H1, I1, r1, q1⟩ => ?_
  obtain ⟨i, rfl, q⟩ := q1
  obtain ⟨t, rfl⟩ := r1
  exact ⟨some i, H1, I1, .int i t, q⟩

/-- what a slice of a value is, by values: the slice object stands at sl -/
def SlR (X : Cx) (r : V → Option Int → Option Int → Hp → VK → Prop) : Prop :=
  ∀ (pins : List (Addr × Obj)) (s : Shared) (σ : St) (H : Hp) (x : V) (v vl vu : Value) (lo hi : Option Int) (sl : Addr) (Q : VK), Inv X pins σ H s → RelV x v → s.heap.IsSliceOf sl vl vu .none → IsPart vl lo → IsPart vu hi → r x lo hi H Q →
    ∃ T id, typeLookup (.type T) "__getitem__" = pure (some (.builtin id)) ∧ s.TypeIs v T ∧ wpAny (model X.prog X.w) X.A (getItem v (.ref sl)) (EP X pins σ Q) X.xe s
def tSl (r : V → Option Int → Option Int → Hp → VK → Prop) (te : TE) (tl th : TO) : TE := fun σ H Q => te σ H fun x H1 => tl σ H1 fun l H2 => th σ H2 fun u H3 => r x l u H3 Q
/-- a[lo:hi], any a -/
theorem pe_slice {r : V → Option Int → Option Int → Hp → VK → Prop} (hr : SlR X r) (he : PE X e te) (hl : PO X lo tl) (hu : PO X hi th) : PE X (.Subscript e (.Slice lo hi none p2) pos) (tSl r te tl th) := by
  intro pins s σ H Q I h
  refine Subscript_ (thn (he pins s σ H _ I h) fun v s1 ⟨x, H1, I1, r1, q1⟩ => ?_)
  refine wpAny_Slice (thn (hl pins s1 σ H1 _ I1 q1) fun vl s2 ⟨l, H2, I2, pl, q2⟩ => thn (hu pins s2 σ H2 _ I2 q2) fun vu s3 ⟨u, H3, I3, pu, q3⟩ => ?_)
  rw [evalPart_none]
  refine wpAny_pure ?_
  have I4 : Inv X pins σ H3 { s3 with heap := s3.heap.push { cls := .type "slice", data := .fields #[vl, vu, .none] } } := I3.kept (t' := s3.toks) fun b ob q => Heap.get?_push_of_some _ q
  obtain ⟨T, id, hT, ht, hg⟩ := hr pins { s3 with heap := s3.heap.push { cls := .type "slice", data := .fields #[vl, vu, .none] } } σ H3 x v vl vu l u s3.heap.objs.size Q I4 r1 (Heap.IsSliceOf.new ..) pl pu q3
  show wpAny (model X.prog X.w) X.A (subscriptTail e (.Slice lo hi none p2) v (.ref s3.heap.objs.size)) (EP X pins σ Q) X.xe { s3 with heap := s3.heap.push { cls := .type "slice", data := .fields #[vl, vu, .none] } }
  exact tail_any (ops := [.ref s3.heap.objs.size, v]) ht hT hg (by with_unfolding_all rfl)

/-- the items of xs[lo:hi] -/
def cutV (xs : List V) (lo hi : Option Int) : List V := (xs.drop (HT.sIx xs.length 0 lo)).take (HT.sIx xs.length xs.length hi - HT.sIx xs.length 0 lo)
theorem cutV_length (xs : List V) (lo hi : Option Int) : (cutV xs lo hi).length ≤ xs.length := by
  unfold cutV
  rw [List.length_take, List.length_drop]
  omega
/-- t[lo:hi], not the whole of it (the whole would be t itself) -/
def rSlT (K : PySem.W.Frag) : V → Option Int → Option Int → Hp → VK → Prop := fun x lo hi H Q => ∃ a xs, x = .ref a ∧ SqT K H a xs ∧
  ¬ (HT.sIx xs.length 0 lo = 0 ∧ HT.sIx xs.length xs.length hi = xs.length) ∧ ∀ p, H p = none → Q (.ref p) (upd H p (.tup (cutV xs lo hi)))
/-! ### t < u, t + u -/
def rLtT (K : PySem.W.Frag) : R2 := fun x y H Q => ∃ a b ns ms, x = .ref a ∧ y = .ref b ∧ SqT K H a (ns.map V.int) ∧ SqT K H b (ms.map V.int) ∧ Q (.bl (HT.lexLt ns ms)) H
/-- t + u, t not empty: u empty gives t itself -/
def rCatT (K : PySem.W.Frag) : R2 := fun x y H Q => ∃ a b xs ys, x = .ref a ∧ y = .ref b ∧ SqT K H a xs ∧ SqT K H b ys ∧ xs ≠ [] ∧ xs.length + ys.length ≤ sizeLine ∧
  (ys = [] → Q (.ref a) H) ∧ (ys ≠ [] → ∀ p, H p = none → Q (.ref p) (upd H p (.tup (xs ++ ys))))
end
end L2

namespace L2
open PySem PySem.Spec PyProof.Rows

/-! ### places -/
/-- the place that an index of any sign means -/
def ixN (n : Nat) (i : Int) : Option Nat := if 0 ≤ i then (if i < n then some i.toNat else none) else if -(n : Int) ≤ i then some (i + n).toNat else none
def atI {α : Type} (xs : List α) (i : Int) : Option α := (ixN xs.length i).bind fun j => xs[j]?
theorem ixN_seq {n : Nat} {i : Int} {j : Nat} (h : ixN n i = some j) : seqIndex? i n = some j ∧ j < n ∧ -(n : Int) ≤ i ∧ i < n := by
  unfold ixN at h
  by_cases h0 : 0 ≤ i
  · rw [if_pos h0] at h
    by_cases h1 : i < n
    · rw [if_pos h1] at h
      have e : i.toNat = j := Option.some.inj h
      exact ⟨by rw [seqIndex_of h0 h1, e], by omega, by omega, h1⟩
    · rw [if_neg h1] at h; cases h
  · rw [if_neg h0] at h
    by_cases h1 : -(n : Int) ≤ i
    · rw [if_pos h1] at h
      have e : (i + n).toNat = j := Option.some.inj h
      exact ⟨by rw [seqIndex_neg (by omega) h1, e], by omega, h1, by omega⟩
    · rw [if_neg h1] at h; cases h
theorem atI_get {α : Type} {xs : List α} {i : Int} {v : α} (h : atI xs i = some v) : ∃ j, seqIndex? i xs.length = some j ∧ xs[j]? = some v ∧ j < xs.length ∧ -(xs.length : Int) ≤ i ∧ i < xs.length := by
  unfold atI at h
  cases e : ixN xs.length i with
  | none => rw [e] at h; cases h
  | some j =>
    rw [e] at h
    obtain ⟨h1, h2, h3, h4⟩ := ixN_seq e
    exact ⟨j, h1, h, h2, h3, h4⟩
theorem atI_nat {α : Type} {xs : List α} {j : Nat} {v : α} (h : xs[j]? = some v) : atI xs (j : Int) = some v := by
  have hj : j < xs.length := (List.getElem?_eq_some_iff.mp h).1
  have e : ixN xs.length (j : Int) = some j := by
    unfold ixN
    rw [if_pos (by omega), if_pos (by omega)]; simp
  unfold atI; rw [e]; exact h
theorem atI_last {α : Type} (xs : List α) (v : α) : atI (xs ++ [v]) (-1) = some v := by
  have hl : (xs ++ [v]).length = xs.length + 1 := by simp
  have e : ixN (xs ++ [v]).length (-1) = some xs.length := by
    unfold ixN
    rw [hl, if_neg (by decide), if_pos (by omega)]
    congr 1
    omega
  unfold atI
  rw [e]
  show (xs ++ [v])[xs.length]? = some v
  simp

/-! ### what may be subscripted -/
/-- what stands as an index of a plain subscript -/
def PlainIx (b : Expr) : Prop := ∀ o i, subscripted b false o i = operate [o, i] (getItem o i)
/-- a subscript by values -/
def IxR (X : Cx) (r : R2) : Prop :=
  ∀ (value slice : Expr) (pins : List (Addr × Obj)) (s : Shared) (σ : St) (H : Hp) (x y : V) (v u : Value) (Q : VK), Inv X pins σ H s → RelV x v → RelV y u → r x y H Q →
    subscripted slice false v u = operate [v, u] (getItem v u) → wpAny (model X.prog X.w) X.A (subscriptTail value slice v u) (EP X pins σ Q) X.xe s
/-- a call of a builtin's method by values: the receiver, the arguments -/
def MtR (X : Cx) (id : String) (r : V → List V → Hp → VK → Prop) : Prop :=
  ∀ (pins : List (Addr × Obj)) (s : Shared) (σ : St) (H : Hp) (x : V) (xs : List V) (v : Value) (us : List Value) (Q : VK), Inv X pins σ H s → RelV x v → Vals xs us → r x xs H Q →
    wpAny (model X.prog X.w) X.A (call (.builtin id) (v :: us)) (EP X pins σ Q) X.xe s
section
variable {X : Cx} {a b : Expr} {ta tb : TE} {pos : Pos}
theorem IxR.or {r r' : R2} (h : IxR X r) (h' : IxR X r') : IxR X (fun x y H Q => r x y H Q ∨ r' x y H Q) := by
  intro value slice pins s σ H x y v u Q I rx ry q hs
  rcases q with q | q
  · exact h value slice pins s σ H x y v u Q I rx ry q hs
  · exact h' value slice pins s σ H x y v u Q I rx ry q hs
/-- a[b] -/
theorem pe_ix {r : R2} (hr : IxR X r) (ha : PE X a ta) (hb : PE X b tb) (hs : PlainIx b) : PE X (.Subscript a b pos) (tOp r ta tb) := by
  intro pins s σ H Q I h
  exact Subscript_ (binT ha hb I h fun v u s2 x y H2 I2 rx ry q => hr a b pins s2 σ H2 x y v u Q I2 rx ry q (hs _ _))

def rIxL (K : PySem.W.Frag) : R2 := fun x y H Q => ∃ p xs i v, x = .ref p ∧ y = .int i ∧ SqL K H p xs ∧ atI xs i = some v ∧ Q v H
def rIxT (K : PySem.W.Frag) : R2 := fun x y H Q => ∃ p xs i v, x = .ref p ∧ y = .int i ∧ SqT K H p xs ∧ atI xs i = some v ∧ Q v H
def rIxS : R2 := fun x y H Q => ∃ z i c, x = .str z ∧ y = .int i ∧ z.length ≤ sizeLine ∧ atI z.cps.toList i = some c ∧ Q (.str ⟨#[c]⟩) H
theorem ix_list : IxR X (rIxL X.K) := by
  intro value slice pins s σ H x y v u Q I rx ry h hs
  obtain ⟨p, xs, i, z, rfl, rfl, hq, he, q⟩ := h
  cases rx
  obtain ⟨t, rfl⟩ := ry
  obtain ⟨its, r, pl, hz⟩ := I.list hq
  obtain ⟨j, h1, h2, h3, h4, h5⟩ := atI_get he
  obtain ⟨w, ew, rw'⟩ := r.get h2
  have hl := r.length
  have hn := line63
  have fin : EP X pins σ Q w s := ⟨z, H, I, rw', q⟩
  by_cases h0 : 0 ≤ i
  · have hj : i.toNat = j := by
      rw [seqIndex_of h0 h5] at h1
      exact Option.some.inj h1
    exact item_listR pl.isList h0 (by omega) (by rw [hj]; simpa using ew) fin hs
  · have hj : (i + (its.toArray.size : Int)).toNat = j := by
      rw [seqIndex_neg (by omega) h4] at h1
      rw [List.size_toArray, ← hl]
      exact Option.some.inj h1
    exact subscriptTail_builtinR (x := w) pl.isList.typeIs slot_list_getitem.lookup
      (wpAny_getItem_list_neg (Q := fun r s' => r = w ∧ EP X pins σ Q r s') pl.isList (by omega) (by rw [List.size_toArray] <;> omega) (by omega) (by rw [hj]; simpa using ew) ⟨rfl, fin⟩) hs
theorem ix_tup : IxR X (rIxT X.K) := by
  intro value slice pins s σ H x y v u Q I rx ry h hs
  obtain ⟨p, xs, i, z, rfl, rfl, hq, he, q⟩ := h
  cases rx
  obtain ⟨t, rfl⟩ := ry
  obtain ⟨its, r, pl, hz⟩ := I.tuple hq
  obtain ⟨j, h1, h2, h3, h4, h5⟩ := atI_get he
  obtain ⟨w, ew, rw'⟩ := r.get h2
  have hl := r.length
  have hn := line63
  have fin : EP X pins σ Q w s := ⟨z, H, I, rw', q⟩
  exact subscriptTail_builtinR (x := w) pl.typeIs slot_tuple_getitem.lookup
    (getItem_tuple (j := j) (Q := fun r s' => r = w ∧ EP X pins σ Q r s') pl (by omega) (by omega) (by rw [List.size_toArray, ← hl]; exact h1) (by simpa using ew) ⟨rfl, fin⟩) hs
theorem ix_str : IxR X rIxS := by
  intro value slice pins s σ H x y v u Q I rx ry h hs
  obtain ⟨z, i, c, rfl, rfl, hz, he, q⟩ := h
  obtain ⟨t, rfl⟩ := rx
  obtain ⟨t', rfl⟩ := ry
  obtain ⟨j, h1, h2, h3, h4, h5⟩ := atI_get he
  have hl : z.cps.toList.length = z.length := by simp [Str.length]
  rw [hl] at h1 h4 h5
  have hn := line63
  exact tail_any (typeIs_str s z t) slot_str_getitem.lookup (getItem_str (c := c) (by
    have e1 : decide (i < -(2 ^ 63 : Int)) = false := decide_eq_false (by omega)
    have e2 : decide (i ≥ 2 ^ 63) = false := decide_eq_false (by omega)
    rw [e1, e2, Bool.or_false]) (by rw [h1]; simpa using h2) ⟨.str ⟨#[c]⟩, H, I.tok _, ⟨_, rfl⟩, q⟩) hs
/-- list, tuple or str -/
def rIx (K : PySem.W.Frag) : R2 := fun x y H Q => rIxL K x y H Q ∨ rIxT K x y H Q ∨ rIxS x y H Q
theorem ix_seq : IxR X (rIx X.K) := ix_list.or (ix_tup.or ix_str)

/-! ### xs[i] = v, any sign -/
/-- the list's object behind a store -/
theorem mapSeq_set (its : List Value) (n j : Nat) (u : Value) : Obj.mapSeq (·.setIfInBounds j u) { cls := .type "list", data := .seq its.toArray n } = { cls := .type "list", data := .seq (its.set j u).toArray n } := by
  simp [Obj.mapSeq]
theorem Inv.lst {pins : List (Addr × Obj)} {σ : St} {H : Hp} {s : Shared} {p : Addr} {xs : List V} (I : Inv X pins σ H s) (h : H p = some (.lst xs)) :
    ∃ (its : List Value) (n : Nat), Vals xs its ∧ s.heap.get? p = some { cls := .type "list", data := .seq its.toArray n } ∧ xs.length ≤ sizeLine := by
  obtain ⟨z, its, n, r, e⟩ := I.hok p _ h
  exact ⟨its, n, r, e, z⟩
/-- the list at p is written by an update of its object -/
theorem Inv.lstUpd {pins : List (Addr × Obj)} {σ : St} {H : Hp} {s : Shared} {p : Addr} {xs ys : List V} {its its' : List Value} {n n' : Nat} {f : Obj → Obj} (I : Inv X pins σ H s) (h : H p = some (.lst xs))
    (ho : s.heap.get? p = some { cls := .type "list", data := .seq its.toArray n }) (hf : f { cls := .type "list", data := .seq its.toArray n } = { cls := .type "list", data := .seq its'.toArray n' }) (r : Vals ys its') (hz : ys.length ≤ sizeLine) (t : Nat) :
    Inv X pins σ (upd H p (.lst ys)) { s with heap := s.heap.update p f, toks := t } := by
  have e : (s.heap.update p f).get? p = some { cls := .type "list", data := .seq its'.toArray n' } := by
    rw [Heap.get?_update_self f ho (by rw [hf] <;> rfl), hf]
  refine I.write (x := p) (e := p) (by rw [h]; trivial) (.inl rfl) (fun b u hb q => (Heap.get?_update_other _ _ (Ne.symm hb)).trans q) ⟨_, e⟩ ?_
  exact ⟨hz, its', n', r, e⟩
def rSetL : V → V → V → Hp → (Hp → Prop) → Prop := fun o i v H Q => ∃ p xs k j, o = .ref p ∧ i = .int k ∧ H p = some (.lst xs) ∧ ixN xs.length k = some j ∧ Q (upd H p (.lst (xs.set j v)))
theorem set_list : PSet X rSetL := by
  intro pins s σ H o i v ov iv u Q I ro ri rv h
  obtain ⟨p, xs, k, j, rfl, rfl, hp, hj, q⟩ := h
  cases ro
  obtain ⟨t, rfl⟩ := ri
  obtain ⟨its, n, r, ho, hz⟩ := I.lst hp
  obtain ⟨h1, h2, h3, h4⟩ := ixN_seq hj
  have hl := r.length
  have hn := line63
  have I' : Inv X pins σ (upd H p (.lst (xs.set j v))) { s with heap := s.heap.update p (Obj.mapSeq (·.setIfInBounds j u)) } :=
    I.lstUpd hp ho (mapSeq_set its n j u) (r.set rv j) (by rw [List.length_set]; exact hz) s.toks
  by_cases h0 : 0 ≤ k
  · have hk : k.toNat = j := by
      rw [seqIndex_of h0 h4] at h1
      exact Option.some.inj h1
    exact PySem.W.ki_setAt ho h0 (by omega) (by rw [List.size_toArray, ← hl]; exact h4) (by rw [hk]; exact ⟨_, I', q⟩)
  · have hk : (k + (its.toArray.size : Int)).toNat = j := by
      rw [seqIndex_neg (by omega) h3] at h1
      rw [List.size_toArray, ← hl]
      exact Option.some.inj h1
    exact PySem.W.ki_setBack ho (by omega) (by rw [List.size_toArray, ← hl]; exact h3) (by omega) (by rw [hk]; exact ⟨_, I', q⟩)

/-! ### slices -/
theorem slice_bounds (lo hi : Option Int) (n : Nat) : (sliceBounds lo hi none n).1 = ((HT.sIx n 0 lo : Nat) : Int) ∧ (sliceBounds lo hi none n).2.1 = ((HT.sIx n n hi : Nat) : Int) ∧ (sliceBounds lo hi none n).2.2 = 1 := by
  refine ⟨?_, ?_, rfl⟩
  · cases lo with
    | none => simp [sliceBounds, HT.sIx]
    | some i =>
      simp only [sliceBounds, HT.sIx, Option.getD_none, show (1 : Int) > 0 by decide, if_true]
      by_cases h : i < 0
      · simp only [h, if_true] <;> omega
      · simp only [h, if_false] <;> omega
  · cases hi with
    | none => simp [sliceBounds, HT.sIx]
    | some i =>
      simp only [sliceBounds, HT.sIx, Option.getD_none, show (1 : Int) > 0 by decide, if_true]
      by_cases h : i < 0
      · simp only [h, if_true] <;> omega
      · simp only [h, if_false] <;> omega
theorem slicePick_cut (its : List Value) (lo hi : Option Int) : slicePick its.toArray lo hi none = ((its.drop (HT.sIx its.length 0 lo)).take (HT.sIx its.length its.length hi - HT.sIx its.length 0 lo)).toArray := by
  obtain ⟨h1, h2, h3⟩ := slice_bounds lo hi its.toArray.size
  unfold slicePick
  rw [h1, h2, h3]
  simp only [sliceRange_one, pick_run, List.size_toArray] <;> rfl
/-- xs[lo:hi] of a list: a new list -/
def rSlL (K : PySem.W.Frag) : V → Option Int → Option Int → Hp → VK → Prop := fun x lo hi H Q => ∃ a xs, x = .ref a ∧ SqL K H a xs ∧ ∀ p, H p = none → Q (.ref p) (upd H p (.lst (cutV xs lo hi)))
theorem sl_list : SlR X (rSlL X.K) := by
  intro pins s σ H x v vl vu lo hi sl Q I rx hs pl pu h
  obtain ⟨a, xs, rfl, hx, q⟩ := h
  cases rx
  obtain ⟨its, r, ht, hz⟩ := I.list hx
  have hlen := r.length
  refine ⟨"list", _, slot_list_getitem.lookup, ht.isList.typeIs, ?_⟩
  refine wpAny_getItem_list_slice ht.isList hs pl pu .none (by simp) ?_ (by rw [List.size_toArray] <;> omega)
  rw [slicePick_cut, ← hlen]
  refine ⟨.ref s.heap.objs.size, _, I.laid (t' := s.toks) (o := .lst (cutV xs lo hi)) (fun b ob q => Heap.get?_push_of_some _ q) (Nat.le_refl _) ?_, rfl, q _ (I.hok.fresh (Nat.le_refl _))⟩
  exact ⟨Nat.le_trans (cutV_length xs lo hi) hz, _, 0, (r.drop (HT.sIx xs.length 0 lo)).take (HT.sIx xs.length xs.length hi - HT.sIx xs.length 0 lo), Heap.get?_push_size _ rfl⟩

/-! ### in, not in: flat items -/
def flatV : V → Bool
  | .non => true
  | .bl _ => true
  | .int _ => true
  | .str _ => true
  | _ => false
/-- == of flat values -/
def eqV : V → V → Bool
  | .non, .non => true
  | .bl a, .bl b => a == b
  | .bl a, .int b => (if a then 1 else 0) == b
  | .int a, .bl b => a == (if b then 1 else 0)
  | .int a, .int b => a == b
  | .str a, .str b => a == b
  | _, _ => false
/-- the items' answers, read off the values (a value's own answer does not lean on its token) -/
def eqU (x : V) (u : Value) : Bool := match u with
  | .none => eqV .non x
  | .bool b => eqV (.bl b) x
  | .int i _ => eqV (.int i) x
  | .str z _ => eqV (.str z) x
  | _ => false
def inV (x : V) (xs : List V) : Bool := xs.any fun y => eqV y x
/-- x in a list or tuple of flat items -/
def rIn (K : PySem.W.Frag) (neg : Bool) : R2 := fun x y H Q => ∃ p xs, y = .ref p ∧ (SqL K H p xs ∨ SqT K H p xs) ∧ flatV x = true ∧ xs.all flatV = true ∧ Q (.bl (if neg then !inV x xs else inV x xs)) H
/-! ### len, list(x), tuple(x) of any list or tuple that is read -/
theorem call_len_seq : CallR X (.builtin "len") (fun xs H Q => ∃ p ys, xs = [.ref p] ∧ (SqL X.K H p ys ∨ SqT X.K H p ys) ∧ Q (.int ys.length) H) := by
  intro pins s σ H xs us Q I r h
  obtain ⟨p, ys, rfl, hq, q⟩ := h
  obtain ⟨u, rfl, rx⟩ := vals1 r
  cases rx
  have hn := line63
  rcases hq with hq | hq
  · obtain ⟨its, r', pl, hz⟩ := I.list hq
    have hlen := r'.length
    exact Calls.call_len_list pl.isList (by simp only [List.size_toArray] <;> omega) ⟨.int ys.length, H, I.tok _, ⟨s.toks + 1, by rw [List.size_toArray, hlen]⟩, q⟩
  · obtain ⟨its, r', pl, hz⟩ := I.tuple hq
    have hlen := r'.length
    exact len_tuple pl (by simp only [List.size_toArray] <;> omega) ⟨.int ys.length, H, I.tok _, ⟨s.toks + 1, by rw [List.size_toArray, hlen]⟩, q⟩
theorem call_len_str : CallR X (.builtin "len") (fun xs H Q => ∃ z, xs = [.str z] ∧ z.length ≤ sizeLine ∧ Q (.int z.length) H) := by
  intro pins s σ H xs us Q I r h
  obtain ⟨z, rfl, hz, q⟩ := h
  obtain ⟨u, rfl, t, rfl⟩ := vals1 r
  have hn := line63
  exact len_str (by omega) ⟨.int z.length, H, I.tok _, ⟨_, rfl⟩, q⟩
theorem call_list_of : CallR X (.type "list") (fun xs H Q => ∃ p ys, xs = [.ref p] ∧ (SqL X.K H p ys ∨ SqT X.K H p ys) ∧ ∀ l, H l = none → Q (.ref l) (upd H l (.lst ys))) := by
  intro pins s σ H xs us Q I r h
  obtain ⟨p, ys, rfl, hq, q⟩ := h
  obtain ⟨u, rfl, rx⟩ := vals1 r
  cases rx
  have fin : ∀ (its : List Value), Vals ys its → ys.length ≤ sizeLine → ∀ (h' : Heap) (c' : Nat), (∀ b o', s.heap.get? b = some o' → h'.get? b = some o') →
      h'.get? s.heap.objs.size = some { cls := .type "list", dict := none, data := .seq its.toArray c', slots := #[] } → EP X pins σ Q (.ref s.heap.objs.size) { s with heap := h' } := fun its r' hz h' c' kp e =>
    ⟨.ref s.heap.objs.size, _, I.laid (t' := s.toks) kp (Nat.le_refl _) (show ObjOk X.prog X.w _ h' _ (.lst ys) from ⟨hz, its, c', r', e⟩), rfl, q _ (I.hok.fresh (Nat.le_refl _))⟩
  rcases hq with hq | hq
  · obtain ⟨its, r', pl, hz⟩ := I.list hq
    have hlen := r'.length
    obtain ⟨o, ho, hc, n, hd⟩ := pl.isList
    exact call_list_seq p (.inl rfl) ho hc hd (fun h' c' kp e => fin its r' hz h' c' kp e) (by simp only [List.size_toArray] <;> omega)
  · obtain ⟨its, r', pl, hz⟩ := I.tuple hq
    have hlen := r'.length
    obtain ⟨o, ho, hc, n, hd⟩ := pl
    exact call_list_seq p (.inr rfl) ho hc hd (fun h' c' kp e => fin its r' hz h' c' kp e) (by simp only [List.size_toArray] <;> omega)
/-! ### the call of a builtin's method: o.m(..) -/
/-- the value is of that builtin type -/
def tyV (K : PySem.W.Frag) (T : String) (x : V) (H : Hp) : Prop := match x with
  | .str _ => T = "str"
  | .int _ => T = "int"
  | .ref p => (T = "list" ∧ ∃ xs, SqL K H p xs) ∨ (T = "tuple" ∧ ∃ o, K.lookup p = some o ∧ o.cls = .type "tuple" ∧ o.dict = none) ∨
      (T = "dict" ∧ ((∃ kvs, H p = some (.dK kvs)) ∨ ∃ kvs, H p = some (.dT kvs))) ∨ (T = "set" ∧ ∃ S n, H p = some (.set S n))
  | _ => False
theorem tyV_is {pins : List (Addr × Obj)} {σ : St} {H : Hp} {s : Shared} {T : String} {x : V} {v : Value} (I : Inv X pins σ H s) (r : RelV x v) (ty : tyV X.K T x H) :
    s.TypeIs v T ∧ ∀ a, v = .ref a → ∃ ob, s.heap.get? a = some ob ∧ ob.dict = none := by
  cases x with
  | str z =>
    obtain ⟨t, rfl⟩ := r
    cases (show T = "str" from ty)
    exact ⟨typeIs_str s z t, fun _ e => nomatch e⟩
  | int i =>
    obtain ⟨t, rfl⟩ := r
    cases (show T = "int" from ty)
    exact ⟨typeIs_int s i t, fun _ e => nomatch e⟩
  | ref p =>
    cases r
    rcases ty with ⟨rfl, xs, hq⟩ | ⟨rfl, o, hk, hc, hd⟩ | ⟨rfl, hk⟩ | ⟨rfl, S, n, hk⟩
    · obtain ⟨its, _, pl, _⟩ := I.list hq
      refine ⟨pl.isList.typeIs, fun a e => ?_⟩
      cases e
      obtain ⟨o, n, e, c, hd, _⟩ := pl
      exact ⟨o, e, hd⟩
    · refine ⟨⟨o, I.kIn p o hk, hc⟩, fun a e => ?_⟩
      cases e
      exact ⟨o, I.kIn _ o hk, hd⟩
    · have z : ∃ o, s.heap.get? p = some o ∧ o.ExactDict := by
        rcases hk with ⟨kvs, hk⟩ | ⟨kvs, hk⟩
        · obtain ⟨_, _, _, _, o, _, _, e, ex, _⟩ := I.hok p _ hk
          exact ⟨o, e, ex⟩
        · obtain ⟨_, _, _, _, o, _, _, e, ex, _⟩ := I.hok p _ hk
          exact ⟨o, e, ex⟩
      obtain ⟨o, e, ex⟩ := z
      refine ⟨⟨o, e, ex.1⟩, fun a e2 => ?_⟩
      cases e2
      exact ⟨o, e, ex.2.1⟩
    · obtain ⟨o, _, _, _, e, ex, _⟩ := I.hok p _ hk
      refine ⟨⟨o, e, ex.1⟩, fun a e2 => ?_⟩
      cases e2
      exact ⟨o, e, ex.2.1⟩
  | _ => exact False.elim ty
def tBM0 (K : PySem.W.Frag) (T : String) (r : V → List V → Hp → VK → Prop) (to : TE) : TE := fun σ H Q => to σ H fun x H1 => tyV K T x H1 ∧ r x [] H1 Q
def tBM (K : PySem.W.Frag) (T : String) (r : V → List V → Hp → VK → Prop) (to : TE) (t : TA) : TE := fun σ H Q => to σ H fun x H1 => tyV K T x H1 ∧ t σ H1 fun xs H2 => r x xs H2 Q
variable {o e : Expr} {es : List Expr} {to : TE} {t : TA} {name : Str} {apos cpos : Pos} {T id : String} {r : V → List V → Hp → VK → Prop}
theorem pe_bm (pa : PlainAttrs T) (slot : Slot T name id) (hty : typeOf (.builtin id) = pure (.type "method_descriptor")) (hm : MtR X id r) (ho : PE X o to) (ha : PA X (e :: es) t)
    (hbase : attributeBase o name X.env (eval o X.env) = eval o X.env := by rfl)
    (hfew : ((backTo cpos (starEach (e :: es) X.env)).all (fun x => !x.1) && (backToKw cpos (keywordEach [] X.env)).all (fun x => x.1.isSome)
      && decide ((e :: es).length + ([] : List Keyword).length + (if ([] : List Keyword).isEmpty then 0 else 1) < 30)) = true := by rfl)
    (hline : (apos.endLine == cpos.line) = true := by rfl) (hs : starEach (e :: es) X.env = (false, eval e X.env) :: starEach es X.env := by rfl) (hplain : (backTo cpos (starEach es X.env)).any (·.1) = false := by rfl) :
    PE X (.Call (.Attribute o name apos) (e :: es) [] cpos) (tBM X.K T r to t) := by
  intro pins s σ H Q I h
  refine wpAny_Call_method_late hbase hfew hline rfl (thn (ho pins s σ H _ I h) fun v s1 ⟨x, H1, I1, r1, ty, q1⟩ => ?_)
  obtain ⟨h1, h2⟩ := tyV_is I1 r1 ty
  refine ⟨T, id, pa, slot, hty, h1, h2, ?_⟩
  have hA := ha cpos pins s1 σ H1 _ I1 q1
  rw [hs] at hA ⊢
  refine Calls.callWith_builtin (by show (false || (backTo cpos (starEach es X.env)).any (·.1)) = false; rw [hplain] <;> rfl) (Calls.evalArgs_plain ?_)
  exact thn hA fun us s2 ⟨vs, H2, I2, r2, q2⟩ => hm pins s2 σ H2 x vs v us Q I2 r1 r2 q2
/- xs.append(e), list.index on a module's tuple .. are MtR facts of 06m -/
end
end L2

namespace L2
open PySem PySem.Spec PyProof.Rows

def MtM (X : Cx) (id : String) (r : V → List V → Hp → VK → Prop) : Prop :=
  ∀ (pins : List (Addr × Obj)) (s : Shared) (σ : St) (H : Hp) (x : V) (xs : List V) (v : Value) (us : List Value) (Q : VK), Inv X pins σ H s → RelV x v → Vals xs us → r x xs H Q →
    wpAny (model X.prog X.w) X.A (call (.builtin id) (v :: us)) (EP X pins σ Q) X.xe s

/-! ### lists of values -/
theorem Vals.one : ∀ {x : V} {us : List Value}, Vals [x] us → ∃ u, us = [u] ∧ RelV x u
  | _, _, .cons r .nil => ⟨_, rfl, r⟩
section
variable {X : Cx} {pins : List (Addr × Obj)} {σ : St} {H : Hp} {s : Shared} {l b : Addr} {xs ys zs : List V}

/-! ### the two steps: a tracked list is rewritten, a new list is laid -/
theorem Inv.lset {its its' : List Value} {n : Nat} {f : Array Value → Array Value} {t' : Nat} (I : Inv X pins σ H s) (hH : H l = some (.lst xs))
    (e : s.heap.get? l = some { cls := .type "list", data := .seq its.toArray n }) (hf : f its.toArray = its'.toArray) (hv : Vals ys its') (hz : ys.length ≤ sizeLine) :
    Inv X pins σ (upd H l (.lst ys)) { s with heap := s.heap.update l (Obj.mapSeq f), toks := t' } := by
  have q := PySem.IsL.update e f
  rw [hf] at q
  refine I.write (x := l) (e := l) (by rw [hH]; exact trivial) (.inl rfl) (fun b' u hb hu => (Heap.get?_update_other s.heap (Obj.mapSeq f) (Ne.symm hb)).trans hu) ⟨_, q⟩ ?_
  exact ⟨hz, its', _, hv, q⟩
theorem Inv.lnew {its : List Value} {t' : Nat} (I : Inv X pins σ H s) (hv : Vals ys its) (hz : ys.length ≤ sizeLine) :
    Inv X pins σ (upd H s.heap.objs.size (.lst ys)) { s with heap := s.heap.push { cls := .type "list", data := .seq its.toArray }, toks := t' } :=
  I.laid (fun _ _ q => Heap.get?_push_of_some _ q) (Nat.le_refl _) ⟨hz, its, 0, hv, Heap.get?_push_size _ rfl⟩
theorem Inv.fresh (I : Inv X pins σ H s) : H s.heap.objs.size = none := I.hok.fresh (Nat.le_refl _)
theorem Inv.lstM (I : Inv X pins σ H s) (hH : H l = some (.lst xs)) : xs.length ≤ sizeLine ∧ ∃ (its : List Value) (n : Nat), Vals xs its ∧ xs.length = its.length ∧ s.heap.get? l = some { cls := .type "list", data := .seq its.toArray n } := by
  obtain ⟨z, its, n, r, e⟩ := I.hok l _ hH
  exact ⟨z, its, n, r, r.length, e⟩

theorem notLongL {n : Nat} (h : n ≤ sizeLine) : Builtin.List.listTooLong n = false := by
  unfold Builtin.List.listTooLong
  exact decide_eq_false (by omega)
end

section
variable {X : Cx}

/-! ### methods -/
def rAppend : V → List V → Hp → VK → Prop := fun x vs H Q => ∃ l xs y, x = .ref l ∧ vs = [y] ∧ H l = some (.lst xs) ∧ xs.length < sizeLine ∧ Q .non (upd H l (.lst (xs ++ [y])))
theorem mt_append : MtM X "list.append" rAppend := by
  intro pins s σ H x vs v us Q I rx rv h
  obtain ⟨l, xs, y, rfl, rfl, hH, hz, q⟩ := h
  cases rx
  obtain ⟨u, rfl, ru⟩ := rv.one
  obtain ⟨z, its, n, r, hl, e⟩ := I.lstM hH
  refine call_meets F.slot_list_append ⟨_, e, rfl⟩ F.entry_list_append (F.args_list_append_2 _ _) (PySem.list_append l its.toArray n u (by rw [List.size_toArray]; omega)) ⟨e, ?_⟩
  refine ⟨.non, _, I.lset (its' := its ++ [u]) hH e (by simp) (r.append (.cons ru .nil)) ?_, rfl, q⟩
  rw [List.length_append, List.length_singleton]
  omega

def rExtend : V → List V → Hp → VK → Prop := fun x vs H Q => ∃ l b xs zs, x = .ref l ∧ vs = [.ref b] ∧ H l = some (.lst xs) ∧ H b = some (.lst zs) ∧ xs.length + zs.length ≤ sizeLine ∧ Q .non (upd H l (.lst (xs ++ zs)))
theorem mt_extend : MtM X "list.extend" rExtend := by
  intro pins s σ H x vs v us Q I rx rv h
  obtain ⟨l, b, xs, zs, rfl, rfl, hH, hB, hz, q⟩ := h
  cases rx
  obtain ⟨u, rfl, ru⟩ := rv.one
  cases ru
  obtain ⟨z, its, n, r, hl, e⟩ := I.lstM hH
  obtain ⟨z2, its2, n2, r2, hl2, e2⟩ := I.lstM hB
  have hsz : its.toArray.size + its2.toArray.size ≤ sizeLine := by rw [List.size_toArray, List.size_toArray]; omega
  have hlong : ¬ (!its.toArray.isEmpty && Builtin.List.listTooLong (its.toArray.size + its2.toArray.size)) = true := by
    rw [notLongL hsz, Bool.and_false]
    exact Bool.false_ne_true
  refine call_meets F.slot_list_extend ⟨_, e, rfl⟩ F.entry_list_extend (F.args_list_extend_2 _ _)
    (AutoSeq1.list_extend_list_list_0 l its.toArray n b its2.toArray n2 hlong (by rw [List.size_toArray]; omega) (by omega)) ⟨e, e2, ?_⟩
  refine ⟨.non, _, I.lset (its' := its ++ its2) hH e (by simp) (r.append r2) ?_, rfl, q⟩
  rw [List.length_append]
  omega

def rPop : V → List V → Hp → VK → Prop := fun x vs H Q => ∃ l xs y, x = .ref l ∧ vs = [] ∧ H l = some (.lst xs) ∧ xs[xs.length - 1]? = some y ∧ Q y (upd H l (.lst xs.dropLast))
def rPopAt : V → List V → Hp → VK → Prop := fun x vs H Q => ∃ l xs i k y, x = .ref l ∧ vs = [.int i] ∧ H l = some (.lst xs) ∧ -(2 ^ 63) ≤ i ∧ i < 2 ^ 63 ∧ seqIndex? i xs.length = some k ∧ xs[k]? = some y ∧ Q y (upd H l (.lst (xs.eraseIdx k)))
def rReverse : V → List V → Hp → VK → Prop := fun x vs H Q => ∃ l xs, x = .ref l ∧ vs = [] ∧ H l = some (.lst xs) ∧ Q .non (upd H l (.lst xs.reverse))
def rClear : V → List V → Hp → VK → Prop := fun x vs H Q => ∃ l xs, x = .ref l ∧ vs = [] ∧ H l = some (.lst xs) ∧ Q .non (upd H l (.lst []))
/-! ### list + list, list += list, list * int -/
def rCat : R2 := fun x y H Q => ∃ l b xs zs, x = .ref l ∧ y = .ref b ∧ H l = some (.lst xs) ∧ H b = some (.lst zs) ∧ xs.length + zs.length ≤ sizeLine ∧ ∀ p, H p = none → Q (.ref p) (upd H p (.lst (xs ++ zs)))
theorem op_cat : OpR X (binaryOp .Add) rCat := by
  intro pins s σ H x y v u Q I rx ry h
  obtain ⟨l, b, xs, zs, rfl, rfl, hH, hB, hz, q⟩ := h
  cases rx
  cases ry
  obtain ⟨z, its, n, r, hl, e⟩ := I.lstM hH
  obtain ⟨z2, its2, n2, r2, hl2, e2⟩ := I.lstM hB
  refine PySem.P.add_list e e2 ?_ (by rw [List.size_toArray, List.size_toArray]; omega)
  have ea : its.toArray ++ its2.toArray = (its ++ its2).toArray := by simp
  rw [ea]
  exact ⟨.ref _, _, I.lnew (t' := s.toks) (r.append r2) (by rw [List.length_append]; omega), rfl, q _ I.fresh⟩
/-- a list times an int (a negative one is nothing) -/
def rRep : R2 := fun x y H Q => ∃ l k xs, x = .ref l ∧ y = .int k ∧ H l = some (.lst xs) ∧ -(2 ^ 63) ≤ k ∧ k < 2 ^ 63 ∧ xs.length * k.toNat ≤ sizeLine ∧
  ∀ p, H p = none → Q (.ref p) (upd H p (.lst (List.replicate k.toNat xs).flatten))
end

/-! ### xs[a:b] = ys -/
section
variable {prog : Program} {w : World} {A : Around} {E : Value → Shared → Prop} {s : Shared}
set_option maxRecDepth 100000 in
end

section
variable {X : Cx}
end
end L2

namespace L2
open PySem PySem.Spec PyProof.Rows

/-! ### lists of pairs as tables -/
section
variable {κ : Type} [DecidableEq κ]
def valV (kvs : List (κ × V)) (k : κ) : Option V := (kvs.find? fun kv => decide (kv.1 = k)).map (·.2)
/-- in its place, or at the end -/
def putK (kvs : List (κ × V)) (k : κ) (v : V) : List (κ × V) :=
  if (kvs.any fun kv => decide (kv.1 = k)) = true then kvs.map (fun kv => if kv.1 = k then (kv.1, v) else kv) else kvs ++ [(k, v)]
def dropK (kvs : List (κ × V)) (k : κ) : List (κ × V) := kvs.filter fun kv => decide (kv.1 ≠ k)

end


/-- raw entries of a dict with tuple keys -/
abbrev KT (H : Hp) : List (List Key × V) → List (List Key × Addr × Value) → Prop := Paired fun p q => p.1 = q.1 ∧ H q.2.1 = some (.tup (p.1.map kV)) ∧ RelV p.2 q.2.2
section
variable {P : Program} {w : World} {H : Hp} {h : Heap} {a : Addr}
end

/-- what the dict at a holds at the key y -/
def DGet (H : Hp) (a : Addr) (y : V) (r : Option V) : Prop :=
  (∃ kvs k, Rd H a (.dK kvs) ∧ y = kV k ∧ r = valV kvs k) ∨ ∃ kvs k b, Rd H a (.dT kvs) ∧ y = .ref b ∧ H b = some (.tup (k.map kV)) ∧ r = valV kvs k
/-- the heap behind a[y] = v -/
def DPut (H : Hp) (a : Addr) (y v : V) (H' : Hp) : Prop :=
  (∃ kvs k, H a = some (.dK kvs) ∧ y = kV k ∧ kvs.length < sizeLine ∧ H' = upd H a (.dK (putK kvs k v))) ∨
  ∃ kvs k b, H a = some (.dT kvs) ∧ y = .ref b ∧ H b = some (.tup (k.map kV)) ∧ kvs.length < sizeLine ∧ H' = upd H a (.dT (putK kvs k v))
section
variable {X : Cx} {pins : List (Addr × Obj)} {σ : St} {H : Hp} {s : Shared} {a : Addr} {y v : V} {u r : Value} {o : Option V} {A : Around} {E : Value → Shared → Prop}

end

section
variable {X : Cx} {pins : List (Addr × Obj)} {σ : St} {H : Hp} {s : Shared} {a : Addr} {kvs : List (Key × V)} {k : Key} {u : Value} {A : Around} {E : Value → Shared → Prop}
end


/-! ### readings and rules -/
/-- the element of a subscription, not a slice -/
def NoSl (i : Expr) : Prop := ∀ ov iv, subscripted i false ov iv = operate [ov, iv] (getItem ov iv)
/-- d[y] -/
def tDGet (td ty : TE) : TE := fun σ H Q => td σ H fun x H1 => ty σ H1 fun y H2 => ∃ a v, x = .ref a ∧ DGet H2 a y (some v) ∧ Q v H2
/-- y in d, y not in d -/
def tDIn (ty td : TE) : TE := fun σ H Q => ty σ H fun y H1 => td σ H1 fun x H2 => ∃ a o, x = .ref a ∧ DGet H2 a y o ∧ Q (.bl o.isSome) H2
def tDNotIn (ty td : TE) : TE := fun σ H Q => ty σ H fun y H1 => td σ H1 fun x H2 => ∃ a o, x = .ref a ∧ DGet H2 a y o ∧ Q (.bl (!o.isSome)) H2
/-- d[y] = v -/
def sDPut (td ty tv : TE) : TS := fun D σ H => tv σ H fun v H1 => td σ H1 fun x H2 => ty σ H2 fun y H3 => ∃ a H4, x = .ref a ∧ DPut H3 a y v H4 ∧ D.nx σ H4
/-- d[y] op= v -/
def sDAug (td ty tv : TE) (rd : V → V → Hp → VK → Prop) : TS := fun D σ H => td σ H fun x H1 => ty σ H1 fun y H2 => ∃ a v, x = .ref a ∧ DGet H2 a y (some v) ∧
  tv σ H2 fun y2 H3 => rd v y2 H3 fun z H4 => ∃ H5, DPut H4 a y z H5 ∧ D.nx σ H5
/-- del d[y] -/
def sDDel (td ty : TE) : TS := fun D σ H => td σ H fun x H1 => ty σ H1 fun y H2 => ∃ a kvs k, x = .ref a ∧ H2 a = some (.dK kvs) ∧ y = kV k ∧ (valV kvs k).isSome = true ∧ D.nx σ (upd H2 a (.dK (dropK kvs k)))

section
variable {X : Cx} {o i e value : Expr} {pos pos' tpos : Pos} {td ty tv : TE}
end


/-- {}, to be a dict of the kind that is wanted -/
def tDNewK : TE := fun _ H Q => ∀ p, H p = none → Q (.ref p) (upd H p (.dK []))
def tDNewT : TE := fun _ H Q => ∀ p, H p = none → Q (.ref p) (upd H p (.dT []))
section
variable {X : Cx} {pos : Pos}
end

/-- the pairs of a display, from the left -/
def tPairs : List (TE × TE) → St → Hp → (List (V × V) → Hp → Prop) → Prop
  | [], _, H, Q => Q [] H
  | (tk, tv) :: r, σ, H, Q => tk σ H fun x H1 => tv σ H1 fun y H2 => tPairs r σ H2 fun ps H3 => Q ((x, y) :: ps) H3
abbrev VV : List (V × V) → List (Value × Value) → Prop := Paired fun p q => RelV p.1 q.1 ∧ RelV p.2 q.2
def PPs (X : Cx) (pos : Pos) (keys : List (Option Expr)) (values : List Expr) (trs : List (TE × TE)) : Prop :=
  ∀ (pins : List (Addr × Obj)) (s : Shared) (σ : St) (H : Hp) (Q : List (V × V) → Hp → Prop), Inv X pins σ H s → tPairs trs σ H Q →
    wpAny (model X.prog X.w) X.A (evalPairs (pairTrees keys values X.env pos)) (fun vs s' => ∃ ps H', Inv X pins σ H' s' ∧ VV ps vs ∧ Q ps H') X.xe s
def mergeK (kvs more : List (Key × V)) : List (Key × V) := more.foldl (fun acc kv => putK acc kv.1 kv.2) kvs
/-- {k: v, ..} with keys ints and texts; the new dict stands empty while the pairs are made -/
def tDisp (trs : List (TE × TE)) : TE := fun σ H Q => ∀ p, H p = none → tPairs trs σ (upd H p (.dK [])) fun ps H2 => H2 p = some (.dK []) ∧ ∃ kvs : List (Key × V), ps = kvs.map (fun kv => (kV kv.1, kv.2)) ∧ kvs.length ≤ 15 ∧ Q (.ref p) (upd H2 p (.dK (mergeK [] kvs)))
/-! ### methods -/
/-- a method call o.m(e) of a built-in, with one argument: what must be seen of the text -/
structure M1 (X : Cx) (o : Expr) (m : Str) (apos : Pos) (e : Expr) (cpos : Pos) : Prop where
  base : attributeBase o m X.env (eval o X.env) = eval o X.env
  few : ((backTo cpos (starEach [e] X.env)).all (fun x => !x.1) && (backToKw cpos (keywordEach [] X.env)).all (fun x => x.1.isSome)
    && decide (([e] : List Expr).length + ([] : List Keyword).length + (if ([] : List Keyword).isEmpty then 0 else 1) < 30)) = true
  line : (apos.endLine == cpos.line) = true
  trees : backTo cpos (starEach [e] X.env) = [(false, eval e X.env)]
structure M2 (X : Cx) (o : Expr) (m : Str) (apos : Pos) (e f : Expr) (cpos : Pos) : Prop where
  base : attributeBase o m X.env (eval o X.env) = eval o X.env
  few : ((backTo cpos (starEach [e, f] X.env)).all (fun x => !x.1) && (backToKw cpos (keywordEach [] X.env)).all (fun x => x.1.isSome)
    && decide (([e, f] : List Expr).length + ([] : List Keyword).length + (if ([] : List Keyword).isEmpty then 0 else 1) < 30)) = true
  line : (apos.endLine == cpos.line) = true
  trees : backTo cpos (starEach [e, f] X.env) = [(false, eval e X.env), (false, eval f X.env)]

/-- a is a dict, whatever its keys -/
def IsD (H : Hp) (a : Addr) : Prop := (∃ kvs, Rd H a (.dK kvs)) ∨ ∃ kvs, Rd H a (.dT kvs)
section
variable {X : Cx} {pins : List (Addr × Obj)} {σ : St} {H : Hp} {s : Shared} {a : Addr} {y d : V} {u r : Value} {o : Option V} {A : Around} {E : Value → Shared → Prop}
end

def tDGet1 (td ty : TE) : TE := fun σ H Q => td σ H fun x H1 => ∃ a, x = .ref a ∧ IsD H1 a ∧ ty σ H1 fun y H2 => ∃ o, DGet H2 a y o ∧ Q (o.getD .non) H2
def tDGet2 (td ty tx : TE) : TE := fun σ H Q => td σ H fun x H1 => ∃ a, x = .ref a ∧ IsD H1 a ∧ ty σ H1 fun y H2 => tx σ H2 fun z H3 => ∃ o, DGet H3 a y o ∧ Q (o.getD z) H3
/-- d.pop(k): there; d.pop(k, x): there or not -/
def tDPop1 (td ty : TE) : TE := fun σ H Q => td σ H fun x H1 => ∃ a, x = .ref a ∧ IsD H1 a ∧ ty σ H1 fun y H2 => ∃ kvs k v, H2 a = some (.dK kvs) ∧ y = kV k ∧ valV kvs k = some v ∧ Q v (upd H2 a (.dK (dropK kvs k)))
def tDPop2 (td ty tx : TE) : TE := fun σ H Q => td σ H fun x H1 => ∃ a, x = .ref a ∧ IsD H1 a ∧ ty σ H1 fun y H2 => tx σ H2 fun z H3 => ∃ kvs k, H3 a = some (.dK kvs) ∧ y = kV k ∧
  (∀ v, valV kvs k = some v → Q v (upd H3 a (.dK (dropK kvs k)))) ∧ (valV kvs k = none → Q z H3)
section
variable {X : Cx} {o e f : Expr} {apos cpos : Pos} {td ty tx : TE}
end

/-! ### dict(d): a copy -/
section
variable {X : Cx} {pins : List (Addr × Obj)} {σ : St} {H : Hp} {s : Shared} {a : Addr} {kvs : List (Key × V)} {A : Around} {E : Value → Shared → Prop}
end


section
variable {X : Cx} {pins : List (Addr × Obj)} {σ : St} {H : Hp} {s : Shared} {a : Addr} {y : V} {u : Value} {A : Around} {E : Value → Shared → Prop}
end
end L2

namespace Att
open PySem PySem.W PySem.Calls PyProof.Rows

/-! ### the script -/
theorem ints_of_wellAll {P : Params} {h : Heap} : ∀ (ns : List Int) (vs : List Value), WellAll P h vs (ns.map WData.int) → IntsAre vs ns := by
  intro ns
  induction ns with
  | nil =>
    intro vs w
    rw [List.map_nil] at w
    cases w
    exact .nil
  | cons n ns ih =>
    intro vs w
    rw [List.map_cons] at w
    cases w with
    | cons a b =>
      cases a
      exact .cons _ _ (ih _ b)

theorem script_of {l : OpenLaw} {n : Nat} (hn : l.most = some n) {P : Params} {h : Heap} {args : List WData} {vals : List Value}
    (hpre : l.row.toRowW.claim.pre args = true) (hwl : WellAll P h vals args) :
    ∃ a vs ns, vals = [Value.ref a] ∧ args = [WData.list (ns.map WData.int)] ∧ h.get? a = some { cls := .type "list", data := .seq vs.toArray } ∧ IntsAre vs ns ∧ ns.length ≤ n := by
  have hsh : WShape.hasAll [] args [.list .int] = true := (pre_splitW hpre).1
  have hc : l.pre.holds [] { args := args } = true := (pre_splitW hpre).2
  obtain ⟨d, r, rfl, h1, h2⟩ := hasAllW_cons hsh
  obtain rfl := hasAllW_nil h2
  obtain ⟨xs, rfl, h3⟩ := hasW_list h1
  obtain ⟨ns, rfl⟩ := items_int h3
  have hlen : ns.length ≤ n := by
    unfold OpenLaw.pre at hc
    have h4 : (WTm.not (.lt (.lit (.int (n : Int))) (.len (.arg 0)))).holds [] { args := [.list (ns.map .int)] } = true := by
      have h4 := (holds_andW hc).1
      rw [hn] at h4
      exact h4
    have h5 := condW_of h4 (w_not (w_lt w_lit (w_len_list (w_arg rfl))))
    rw [List.length_map] at h5
    refine Nat.le_of_not_lt fun q => ?_
    have q' : (n : Int) < ((ns.length : Nat) : Int) := by omega
    first
      | (rw [decide_eq_true q'] at h5; exact absurd h5 (by decide))
      | (simp at h5; omega)
  cases hwl with
  | cons w1 w2 =>
    cases w2
    cases w1 with
    | list ho hall => exact ⟨_, _, ns, rfl, rfl, ho, ints_of_wellAll ns _ hall, hlen⟩

theorem post_true (l : OpenLaw) (args : List WData) : l.row.toRowW.claim.post args (.bool true) args = true :=
  postW_of (r := l.row.toRowW) (X := (true == true))
    (show WShape.has [] (.bool true) .bool = true by first | rfl | decide | simp [WShape.has, WShape.arms, WShape.armsAll])
    (show (WTm.eq .res (.lit (.bool true))).value [] { args := args, res := some (.bool true), after := args } = some (.bool (true == true)) from w_eq_bool (w_res rfl) w_lit) rfl

/-- the same from a codeAny of the CALL (for a layer whose function contracts speak of calls) -/
theorem attach_call {l : OpenLaw} {n : Nat} {q : Program} {loose : List Str} {XP : (Str → Option Value) → Heap → Prop} {YP : World → Heap → Prop} {d : DefRec}
    (hn : l.most = some n) (hdf : d.params.defaults = [])
    (call : ∀ (w : World) (s₀ s₁ : Shared) (mg mb : Str → Option Value) (fa : Addr) (o : Obj) (pm cd doc : Value) (a : Addr) (vs : List Value) (ns : List Int),
      Ground q loose [] XP w s₀ mg mb s₁.heap → YP w s₁.heap →
      s₁.heap.get? fa = some o → o.data = .func (docDef d.name d.params d.body d.scope pm cd doc) → s₁.heap.CodeRec cd d.name → mg d.name = some (.ref fa) →
      s₁.heap.get? a = some { cls := .type "list", data := .seq vs.toArray } → IntsAre vs ns → ns.length ≤ n → s₁.gens = #[] →
      codeAny (model l.prog w) callerA (.call (.ref fa) ⟨[.ref a], []⟩) (fun r s' => r = .ok (.ret (.bool true)) ∧ OldK s₁.heap s'.heap ∧ s'.os = s₁.os ∧ AllBare s'.gens) s₁) :
    WalkO q loose XP YP l.row.toRowW d [] (fun f vs => PySem.call f vs) := by
  intro w s₀ s₁ mg mb G Y fa o pm cd doc dV kV ho hd hcd hD hmg hg args vals as hpre hlay hrd hwl hlo
  obtain rfl : dV = .none := Dflts.none hD hdf
  obtain rfl : kV = .none := Dflts.noKw hD
  obtain ⟨a, vs, ns, rfl, rfl, hobj, hints, hlen⟩ := script_of hn hpre hwl
  refine enter_call (codeAny_mono (call w s₀ s₁ mg mb fa o pm cd doc a vs ns G Y ho (fd_plain hd) hcd hmg hobj hints hlen hg) fun r s' hq => ?_)
  obtain ⟨rfl, h2, h3, h4⟩ := hq
  exact ⟨.inl ⟨.bool true, .bool true, [], rfl, fun _ => rfl, .bool true, post_true l _, fun _ => ⟨List.Pairwise.nil, fun _ hm => (nomatch hm)⟩⟩, h2, h3, h4⟩

/-! ### rules over ANY heap (no ledger) from facts about the written part K: the library's own take a ledger (News) for what they write -/
section
variable {prog : Program} {w : World} {A : Around} {E : Value → Shared → Prop} {s : Shared} {K : Frag}

/-! the whole heap as the ledger: makes every rule that writes through a ledger a rule over any heap -/
def noObjs (h : Heap) : Heap := { h with objs := #[] }
def ledger (h : Heap) (L d : Addr) : List (Addr × Obj) := (List.range h.objs.size).filterMap fun a => if a = L ∨ a = d then none else (h.get? a).map fun o => (a, o)
end
end Att

namespace L2
open PySem PySem.Spec PyProof.Rows

theorem vals_ints : ∀ {vs : List Value} {ns : List Int}, IntsAre vs ns → Vals (ns.map V.int) vs
  | _, _, .nil => .nil
  | _, _, .cons n t h => .cons ⟨t, rfl⟩ (vals_ints h)

/-- nothing is tracked but the script, known to the object (or it is an object of the module) -/
def Only (H : Hp) : Prop := ∀ b, H b = none ∨ ∃ o xs, H b = some (.frz o (.lst xs))

/-- THE HEAD: the law's promise, at the heap behind the top. F, the promise of the law's def, may use that base is part of the heap (so K.In base, base.Ns mainGlobals mg stand in Mod) -/
theorem law_call {P : Program} {w : World} {K : PySem.W.Frag} {mg mb : Str → Option Value} {CX : CXT} {k : Nat} {fa a : Addr} {fd : FuncData} {x : Str} {sp : Sp} {s₁ : Shared} {vs : List Value} {ns : List Int}
    (KX : K.In s₁.heap) (hns : s₁.heap.Ns mainGlobals mg) (hb : s₁.heap.Ns builtinsNs mb) (hbb : ∀ x : Str, x ≠ "__name__" → mb x = bootBuiltins x) (hlim : s₁.heap.NoLimit) (hg : s₁.gens = #[])
    (ha : s₁.heap.get? a = some { cls := .type "list", data := .seq vs.toArray }) (hi : IntsAre vs ns) (hl : ns.length ≤ sizeLine) (hr : Room k callerA)
    (F : ∀ base : Heap, K.In base → base.Ns mainGlobals mg → FnOk P w K mg base CX k fa fd [x] sp) (hbind : ∀ (s : Shared) (u : Value), BindsTo s fd ⟨[u], []⟩ [(x, u)])
    (hsp : ∀ H : Hp, Only H → SqL K H a (ns.map V.int) → sp [.ref a] H (fun v _ => v = .bl true) fun _ _ _ => False)
    (hCX : ∀ H e s', CX [] H s₁ (fun _ _ _ => False) e s' → False) :
    codeAny (model P w) callerA (.call (.ref fa) ⟨[.ref a], []⟩) (fun r s' => r = .ok (.ret (.bool true)) ∧ OldK s₁.heap s'.heap ∧ s'.os = s₁.os ∧ AllBare s'.gens) s₁ := by
  have rv := vals_ints hi
  have lenV := hi.length
  -- from an abstract heap in which nothing but the script may be tracked
  have core : ∀ H : Hp, Only H → SqL K H a (ns.map V.int) → HOk P w H s₁.heap → (∀ b, H b ≠ none → b = a) → (H a ≠ none → K.lookup a = none) →
      codeAny (model P w) callerA (.call (.ref fa) ⟨[.ref a], []⟩) (fun r s' => r = .ok (.ret (.bool true)) ∧ OldK s₁.heap s'.heap ∧ s'.os = s₁.os ∧ AllBare s'.gens) s₁ := by
    intro H hO hS hok hA hK
    have base_of : ∀ {b : Addr} {o : Obj}, s₁.heap.get? b = some o → H b = none → (hidT s₁.heap H).get? b = some o := fun e n => hidT_get e n
    have noA : ∀ {b : Addr} {o : Obj} {es : Array DictEntry} {ep : Nat}, s₁.heap.get? b = some o → o.data = .dict es ep → H b = none := fun {b o es ep} e d => by
      cases q : H b with
      | none => rfl
      | some u =>
        have e' : b = a := hA b (by rw [q]; simp)
        subst e'
        rw [ha] at e; cases e
        have d' : Data.seq vs.toArray _ = Data.dict es ep := d
        cases d'
    have nsK : ∀ {b : Addr} {m : Str → Option Value}, s₁.heap.Ns b m → (hidT s₁.heap H).Ns b m := fun {b m} ⟨o, es, ep, e, d, r⟩ => ⟨o, es, ep, base_of e (noA e d), d, r⟩
    have hKb : K.In (hidT s₁.heap H) := fun b o e => base_of (KX b o e) (by
      cases q : H b with
      | none => rfl
      | some u =>
        have e' : b = a := hA b (by rw [q]; simp)
        subst e'
        rw [hK (by rw [q]; simp)] at e; cases e)
    have hM : Mod K mg (hidT s₁.heap H) := ⟨hKb, nsK hns, ⟨mb, nsK hb, hbb⟩, let ⟨mc, h1, h2⟩ := hlim; ⟨mc, nsK h1, h2⟩⟩
    have e0 : Env0 P w K mg (hidT s₁.heap H) callerA [] s₁ H := ⟨rfl, hM, fun b o e => of_hidT e, Nat.le_of_eq (hidT_size _ _), trivial, fun b hb => absurd (show b ∈ ([] : List Addr) from hb) (by simp), hok, .of_eq hg⟩
    refine codeAny_mono ((F _ hKb (nsK hns)).run callerA [] s₁ H ⟨[.ref a], []⟩ [.ref a] [.ref a] _ _ hr e0 (hbind s₁ (.ref a)) (.cons rfl .nil) (hsp H hO hS)) fun r s' h => ?_
    cases r with
    | error e => exact (hCX H e s' h).elim
    | ok fl =>
      cases fl with
      | next => exact False.elim h
      | brk => exact False.elim h
      | cont => exact False.elim h
      | ret u =>
        obtain ⟨v, H', os, bare, un, hok', r', q⟩ := h
        have q' : v = .bl true := q
        subst q'
        obtain rfl : u = Value.bool true := r'
        refine ⟨rfl, OldK.of_keep fun b o e => ?_, os, bare⟩
        cases q : H b with
        | none => exact un.keep b o e q (by intro z; exact absurd (show b ∈ ([] : List Addr) from z) (by simp)) (by simp)
        | some u =>
          rcases hO b with z | ⟨ob, xs, z⟩
          · rw [q] at z; cases z
          · have z2 := un.frzs b ob _ z
            obtain ⟨e1, _⟩ := hok b _ z
            obtain ⟨e2, _⟩ := hok' b _ z2
            rw [e] at e1; cases e1
            exact e2
  cases hk : K.lookup a with
  | some o =>
    -- the script is one of the module's own objects
    have e := KX a o hk
    rw [ha] at e
    cases e
    refine core (fun _ => none) (fun _ => .inl rfl) (.inr ⟨_, vs.toArray, _, hk, rfl, rfl, rfl, by rw [List.size_toArray, lenV]; exact hl, by simpa using rv⟩) (fun b u z => by have z' : (none : Option HO) = some u := z; cases z') (fun b z => absurd rfl z) fun z => absurd rfl z
  | none =>
    refine core (fun b => if b = a then some (.frz { cls := .type "list", data := .seq vs.toArray } (.lst (ns.map V.int))) else none) (fun b => ?_) (.inl (.inr ⟨{ cls := .type "list", data := .seq vs.toArray }, if_pos rfl⟩)) (fun b u z => ?_) (fun b z => ?_) fun _ => hk
    · by_cases hb : b = a
      · exact .inr ⟨_, _, if_pos hb⟩
      · exact .inl (if_neg hb)
    · by_cases hb : b = a
      · have z' := (if_pos hb).symm.trans z
        cases z'
        subst hb
        exact ⟨ha, by rw [List.length_map]; exact hl, vs, _, rv, ha⟩
      · have z' := (if_neg hb).symm.trans z
        cases z'
    · by_cases hb : b = a
      · exact hb
      · exact absurd (if_neg hb) z
end L2

namespace L2
open PySem PySem.Spec PyProof.Rows

abbrev KOf {K : PySem.W.Frag} {h : Heap} (_ : K.In h) : PySem.W.Frag := K

/-- the goal that k_head leaves (case hc), from the law's promise. F gives the function object fd (K's own) once, then the promise over every base -/
theorem walk_of {l : PySem.W.OpenLaw} {n k : Nat} {q : Program} {loose : List Str} {XP : (Str → Option Value) → Heap → Prop} {YP : World → Heap → Prop} {d : DefRec} {K : Params → PySem.W.Frag} {CX : World → CXT} {sp : World → Sp} {x : Str}
    (hn : l.most = some n) (hn2 : n ≤ sizeLine) (hdf : d.params.defaults = []) (hr : Room k callerA)
    (hY : ∀ (w : World) (h : Heap), YP w h → (K w.params).In h)
    (F : ∀ (w : World) (mg : Str → Option Value) (fa : Addr) (h : Heap), (K w.params).In h → h.Ns mainGlobals mg → mg d.name = some (.ref fa) →
      ∃ fd : FuncData, (∀ (s : Shared) (u : Value), BindsTo s fd ⟨[u], []⟩ [(x, u)]) ∧
        ∀ base : Heap, (K w.params).In base → base.Ns mainGlobals mg → FnOk l.prog w (K w.params) mg base (CX w) k fa fd [x] (sp w))
    (hsp : ∀ (w : World) (H : Hp) (a : Addr) (ns : List Int), ns.length ≤ n → Only H → SqL (K w.params) H a (ns.map V.int) → sp w [.ref a] H (fun v _ => v = .bl true) fun _ _ _ => False)
    (hCX : ∀ (w : World) (H : Hp) (s : Shared) (e : Value) (s' : Shared), CX w [] H s (fun _ _ _ => False) e s' → False) :
    PySem.W.WalkO q loose XP YP l.row.toRowW d [] (fun f vs => PySem.call f vs) := by
  refine Att.attach_call hn hdf fun w s₀ s₁ mg mb fa o pm cd doc a vs ns G Y ho hd hcd hmg hobj hints hlen hg => ?_
  have KX := hY w _ Y
  obtain ⟨fd, hb, hF⟩ := F w mg fa _ KX G.T.g hmg
  exact law_call KX G.T.g G.T.b G.T.builtins G.T.nolimit hg hobj hints (Nat.le_trans hlen hn2) hr hF hb (fun H hO hS => hsp w H a ns hlen hO hS) fun H e s' => hCX w H s₁ e s'
end L2

/- THE LAST THEOREM (shape; LID, My.* are yours):
   My.Adr: a structure of the addresses that your layer names (classes, functions); My.Txt K t: a structure (Prop) of the equations over K;
   My.txt_mk : {K} {implicit addresses ..} (e1 : nsIn K mainGlobals "law" = some (some (.ref f))) (e2 : K.lookup f = some ⟨oc, od, .func (fnOf "law" "law" params body scope dV kV doc pm an cdv ct), sl⟩) (e3 : codeIn K cdv "law" = true) .. : ∃ t, My.Txt K t

set_option maxRecDepth 100000 in
set_option maxHeartbeats 0 in
theorem PySem.Challenge.cw_LID_holds : PySem.Challenge.rw_LID.Holds := by
  w_on; o_law; k_head; (case hw => w_witness2)
  k_fill
  refine L2.walk_of (l := PySem.Challenge.rw_LID) (n := 63) (k := 40) (x := "script") (CX := fun w => ..) (sp := fun _ => My.sp_law) rfl (by decide) rfl ⟨rfl, by decide, by decide⟩ (fun w h Y => PySem.W.kIn_of Y) ?F ?S ?C
  case F =>
    intro w mg fa h KX G hmg
    have T : ∃ t, My.Txt (L2.KOf KX) t := by
      dsimp only [L2.KOf]                          -- K must stand as «<heap const> w.params» for k_is
      refine' My.txt_mk ?e1 ?e2 ?e3 ..
      (case e1 => PySem.W.k_is)                    -- in the order: a name -> its address -> its object -> its parts
      (case e2 => PySem.W.k_is)
      ..
    obtain ⟨t, T⟩ := T
    have e0 := hmg.symm.trans (PySem.W.mg_of KX G T.law)
    cases e0                                       -- fa is the law's own address
    exact ⟨_, fun s u => .of_eq rfl, fun base kb nb => My.law_fn T kb nb⟩     -- if «.of_eq rfl» comes too early: refine' ⟨_, ?b, fun base kb nb => My.law_fn T kb nb⟩; exact fun s u => .of_eq rfl
  case S => exact fun w H a ns hl hO hS => ..
  case C => exact ..
(the tactic k_is has no namespace: write k_is) -/
/-! SHORT WORDS over the layer: a def of the text, its body, what a loop and a test want. -/
namespace L2
open PySem PySem.Spec PyProof.Rows

/-! ### the text by places -/
/-- the j-th statement of a class's body -/
def inClass (s : Stmt) (j : Nat) : Stmt := match s with
  | .ClassDef _ _ _ body _ _ _ _ _ _ _ => body.getD j (.Pass ⟨0, 0, 0, 0⟩)
  | _ => .Pass ⟨0, 0, 0, 0⟩
def defArgs (s : Stmt) : Arguments := match s with
  | .FunctionDef _ a _ _ _ _ _ _ _ _ => a
  | _ => { posonlyargs := [], args := [], vararg := none, kwonlyargs := [], kw_defaults := [], kwarg := none, defaults := [] }
def defBody (s : Stmt) : List Stmt := match s with
  | .FunctionDef _ _ b _ _ _ _ _ _ _ => b
  | _ => []
def defScope (s : Stmt) : Scope := match s with
  | .FunctionDef _ _ _ _ _ _ sc _ _ _ => sc
  | _ => { kind := .function, names := [], isGenerator := false, isCoroutine := false }

/-! ### no exception leaves a def -/
abbrev CX0 : CXT := fun _ _ _ _ _ _ => False
abbrev E0 : XK := fun _ _ _ => False
theorem pass0 {X : Cx} : Passes CX0 X E0 := fun _ _ _ _ _ _ _ h => h.elim

/-! ### a def (or method) of the text as it stands behind the top -/
structure Fun (K : PySem.W.Frag) (x qual : Str) (st : Stmt) (f : Addr) (fd : FuncData) : Prop where
  ex : ∃ (oc : Value) (od : Option Addr) (kV doc pm : Value) (an : Option Addr) (cdv ct : Value) (osl : Array (Option Value)),
    fd = PySem.W.fnOf x qual (defArgs st) (defBody st) (defScope st) .none kV doc pm an cdv ct ∧ K.lookup f = some ⟨oc, od, .func fd, osl⟩ ∧ PySem.W.codeIn K cdv qual = true
  kp : PySem.W.keepIn K (.ref f) = true
section
variable {P : Program} {w : World} {K : PySem.W.Frag} {mg : Str → Option Value} {base : Heap}
/-- THE RULE for a def: its body as a term of rules, and the reading of that term -/
theorem Fun.ok {x qual : Str} {st : Stmt} {f : Addr} {fd : FuncData} {N ps : List Str} {k : Nat} {sp : Sp} (F : Fun K x qual st f fd) (S : FnScope N ps (defScope st)) (len : ∀ vs H Q E, sp vs H Q E → vs.length = ps.length)
    (hbody : ∀ (cdv : Value) (A : Around) (outer : List Env) (s : Shared) (H : Hp) (vs : List V) (Q : VK) (E : XK), Room k (A.deeper (envOfC qual (defScope st) s.heap.objs.size f cdv)) → sp vs H Q E →
      ∃ t, PSs (cxOf CX0 P w K mg base N qual (defScope st) f cdv A outer s H E).nox (defBody st) t ∧ t { nx := fun _ H' => Q .non H', rt := Q } (start N vs) H) : FnOk P w K mg base CX0 (k + 1) f fd ps sp := by
  obtain ⟨oc, od, kV, doc, pm, an, cdv, ct, osl, rfl, lk, hcd⟩ := F.ex
  refine fn_of lk hcd S len fun A outer s H vs Q E hr hsp => ?_
  obtain ⟨t, h, q⟩ := hbody cdv A outer s H vs Q E hr hsp
  exact ⟨t, h.nox, q⟩
/-- how its arguments bind (no defaults): h is «fun _ _ _ _ _ _ us hl => match us, hl with | [_, _], _ => rfl», one _ a parameter -/
theorem Fun.binds {x qual : Str} {st : Stmt} {f : Addr} {fd : FuncData} {ps : List Str} (F : Fun K x qual st f fd)
    (h : ∀ (kV doc pm : Value) (an : Option Addr) (cdv ct : Value) (us : List Value), us.length = ps.length → bindArgs (PySem.W.fnOf x qual (defArgs st) (defBody st) (defScope st) .none kV doc pm an cdv ct) ⟨us, []⟩ = pure (ps.zip us)) : Binds K fd ps [] := by
  obtain ⟨oc, od, kV, doc, pm, an, cdv, ct, osl, rfl, lk, hcd⟩ := F.ex
  exact .all (h kV doc pm an cdv ct)
theorem fun_mk {x qual : Str} {st : Stmt} {f : Addr} {oc : Value} {od an : Option Addr} {osl : Array (Option Value)} {kV doc pm cdv ct : Value} (l : K.lookup f = some ⟨oc, od, .func (PySem.W.fnOf x qual (defArgs st) (defBody st) (defScope st) .none kV doc pm an cdv ct), osl⟩)
    (c : PySem.W.codeIn K cdv qual = true) (k : PySem.W.keepIn K (.ref f) = true) : Fun K x qual st f (PySem.W.fnOf x qual (defArgs st) (defBody st) (defScope st) .none kV doc pm an cdv ct) := ⟨⟨oc, od, kV, doc, pm, an, cdv, ct, osl, rfl, l, c⟩, k⟩
end
/-! ### expressions in short: the name that stands in the i-th slot -/
section
variable {X : Cx}
end

/-! ### tests -/
theorem iteF {A B : Prop} (h : B) : if false = true then A else B := by
  rw [if_neg Bool.false_ne_true]
  exact h
theorem iteT {A B : Prop} (h : A) : if true = true then A else B := by
  rw [if_pos rfl]
  exact h
/-! ### heaps -/
/-- all that was tracked is as it was -/
def Same (H H' : Hp) : Prop := ∀ b o, H b = some o → H' b = some o
theorem Same.refl (H : Hp) : Same H H := fun _ _ h => h
theorem Same.trans {H H1 H2 : Hp} (a : Same H H1) (b : Same H1 H2) : Same H H2 := fun c o h => b c o (a c o h)
theorem Same.free {H H' : Hp} (e : Same H H') {l : Addr} (h : H' l = Option.none) : H l = Option.none := by
  cases q : H l with
  | none => rfl
  | some o =>
    rw [e l o q] at h
    cases h
theorem Same.seq {K : PySem.W.Frag} {H H' : Hp} {a : Addr} {xs : List V} (e : Same H H') (h : SqL K H a xs) : SqL K H' a xs := by
  rcases h with (h | ⟨o, h⟩) | h
  · exact .inl (.inl (e _ _ h))
  · exact .inl (.inr ⟨o, e _ _ h⟩)
  · exact .inr h

/-! ### a dict's pairs: keys that differ -/
section
variable {κ : Type} [DecidableEq κ]
end
end L2


namespace L2
open PySem PySem.Spec PyProof.Rows

/-! ### comprehensions: the cells that a block takes along -/
def takes (cells : List (Str × Addr)) : List (Str × NameKind) → List (Str × Addr) → List (Str × Addr)
  | [], acc => acc
  | (n, k) :: r, acc => takes cells r (if k = NameKind.free then (n, (cells.lookup n).getD 0) :: acc else acc)
theorem closure_takes {sc : Scope} {env : Env} (h : ∀ y ∈ sc.names, y.2 = .free → ∃ c, env.cells.lookup y.1 = some c) : closureFor sc env = pure (takes env.cells sc.names []) := by
  have go : ∀ (l : List (Str × NameKind)) (acc : List (Str × Addr)), (∀ y ∈ l, y.2 = .free → ∃ c, env.cells.lookup y.1 = some c) →
      (forIn l acc (fun (x : Str × NameKind) (cs : List (Str × Addr)) => match x with
        | (name, kind) => if (kind == NameKind.free) = true then do let c ← cellOf env name; pure (ForInStep.yield ((name, c) :: cs)) else pure (ForInStep.yield cs)) : Sem (List (Str × Addr))) = pure (takes env.cells l acc) := by
    intro l
    induction l with
    | nil => intro acc _; rfl
    | cons x l ih =>
      intro acc hl
      obtain ⟨n, k⟩ := x
      rw [List.forIn_cons]
      by_cases hk : k = NameKind.free
      · subst hk
        obtain ⟨c, hc⟩ := hl (n, .free) List.mem_cons_self rfl
        have hc' : env.cells.lookup n = some c := hc
        have e1 : cellOf env n = pure c := by unfold cellOf; rw [hc']
        have e2 : takes env.cells ((n, NameKind.free) :: l) acc = takes env.cells l ((n, c) :: acc) := by
          show takes env.cells l (if NameKind.free = NameKind.free then (n, (env.cells.lookup n).getD 0) :: acc else acc) = _
          rw [if_pos rfl, hc']
          rfl
        rw [e2, ← ih ((n, c) :: acc) fun y hy => hl y (List.mem_cons_of_mem _ hy)]
        show ((if (NameKind.free == NameKind.free) = true then (do let c ← cellOf env n; pure (ForInStep.yield ((n, c) :: acc))) else pure (ForInStep.yield acc)) >>= _) = _
        rw [if_pos (by decide), e1, pure_bind, pure_bind]
      · have e2 : takes env.cells ((n, k) :: l) acc = takes env.cells l acc := by
          show takes env.cells l (if k = NameKind.free then _ else acc) = _
          rw [if_neg hk]
        have hb : (k == NameKind.free) = false := by simpa using hk
        rw [e2, ← ih acc fun y hy => hl y (List.mem_cons_of_mem _ hy)]
        show ((if (k == NameKind.free) = true then _ else pure (ForInStep.yield acc)) >>= _) = _
        rw [hb, if_neg Bool.false_ne_true, pure_bind]
  have := go sc.names [] h
  unfold closureFor
  first
    | exact (congrArg (fun z => z >>= fun cs => pure cs) this).trans (pure_bind _ _)
    | exact this
    | simpa using this
theorem takes_sub {cells : List (Str × Addr)} {n : Str} {c : Addr} : ∀ (names : List (Str × NameKind)) (acc : List (Str × Addr)), (takes cells names acc).lookup n = some c →
    acc.lookup n = some c ∨ ((n, NameKind.free) ∈ names ∧ c = (cells.lookup n).getD 0)
  | [], _, h => .inl h
  | (m, k) :: r, acc, h => by
    rcases takes_sub r _ h with q | ⟨q1, q2⟩
    · by_cases hk : k = NameKind.free
      · rw [if_pos hk] at q
        subst hk
        by_cases e : n = m
        · subst e
          rw [List.lookup_cons, beq_self_eq_true] at q
          exact .inr ⟨List.mem_cons_self, (Option.some.inj q).symm⟩
        · have : (n == m) = false := by simpa using e
          rw [List.lookup_cons, this] at q
          exact .inl q
      · rw [if_neg hk] at q
        exact .inl q
    · exact .inr ⟨List.mem_cons_of_mem _ q1, q2⟩
theorem takes_acc {cells : List (Str × Addr)} {n : Str} : ∀ (names : List (Str × NameKind)) (acc : List (Str × Addr)), (acc.lookup n).isSome = true → ((takes cells names acc).lookup n).isSome = true
  | [], _, h => h
  | (m, k) :: r, acc, h => by
    refine takes_acc r _ ?_
    by_cases hk : k = NameKind.free
    · rw [if_pos hk]
      cases e : n == m with
      | true => rw [List.lookup_cons, e]; rfl
      | false => rw [List.lookup_cons, e]; exact h
    · rw [if_neg hk]; exact h
theorem takes_has {cells : List (Str × Addr)} {n : Str} : ∀ (names : List (Str × NameKind)) (acc : List (Str × Addr)), (n, NameKind.free) ∈ names → ((takes cells names acc).lookup n).isSome = true
  | [], _, h => by simp at h
  | (m, k) :: r, acc, h => by
    rcases List.mem_cons.mp h with e | h
    · cases e
      refine takes_acc r _ ?_
      rw [if_pos rfl, List.lookup_cons, beq_self_eq_true]
      rfl
    · exact takes_has r _ h

/-- the block's names: Nc; fr: whence each has its value at the entry (a slot of the frame around, or none) -/
structure Blk (N : List Str) (osc sc : Scope) (Nc : List Str) (fr : List (Option Nat)) : Prop where
  kind : sc.kind = .function
  nocell : ∀ y ∈ sc.names, y.2 ≠ .cell
  free : ∀ y ∈ sc.names, y.2 = .free → osc.names.lookup y.1 = some .cell ∨ osc.names.lookup y.1 = some .free
  locs : ∀ y ∈ sc.names, y.2 = .local → sc.names.lookup y.1 = some .local
  nd : Nc.Nodup
  len : Nc.length = fr.length
  whence : ∀ p ∈ Nc.zip fr, (p.2.all fun j => decide (N[j]? = some p.1) && decide (sc.names.lookup p.1 = some .free)) = true
/-- the block's context -/
abbrev blkCx (X : Cx) (sc : Scope) (Nc : List Str) (s₀ : Shared) (H₀ : Hp) (C : Addr) (ex : List Addr) (pn : List (Addr × Obj)) : Cx where
  prog := X.prog
  w := X.w
  K := X.K
  mg := X.mg
  base := X.base
  A := X.A
  N := Nc
  s₀ := s₀
  H₀ := H₀
  env := compEnvC sc (takes X.env.cells sc.names []) C X.env
  outer := X.stack
  stack := X.stack
  ex := ex
  fn := fun _ => false
  calm := X.calm
  pn := pn
  xe := fun _ _ => False
def blkSt (fr : List (Option Nat)) (σ : St) : St := fr.map fun o => o.bind fun j => (σ[j]?).join
/-- W: the invariant by the turn, a measure, what has been put together, the block's names, the heap -/
def CompW (J : It) (g : TG) (te : TE) (σ0 : St) (H1 : Hp) (Q : VK) : Prop :=
  ∃ W : Nat → Nat → List V → St → Hp → Prop, (∃ m, W 0 m [] σ0 H1) ∧ ∀ i m ys σc H, W i m ys σc H → ys.length < sizeLine ∧
    ((J.stop i H ∧ ∀ l, H l = none → Q (.ref l) (upd H l (.lst ys))) ∨
     (J.go i H ∧ ∀ x H', J.yld i H x H' → g x σc H' fun σ2 H2 => ∃ N : VK, (∀ y H3, N y H3 → ∃ m', m' < m ∧ W (i + 1) m' (ys ++ [y]) σ2 H3) ∧ te σ2 H2 N))
def tComp (fr : List (Option Nat)) (wi : TI) (g : TG) (te : TE) : TE := fun σ H Q => wi σ H fun J H1 => CompW J g te (blkSt fr σ) H1 Q

theorem relabel_lookup {sc : Scope} {env : Env} {x : Str} {k : NameKind} (h : (relabel sc env).names.lookup x = some k) : sc.names.lookup x = some k ∨ (k = .cell ∧ sc.names.lookup x = some .free) := by
  have go : ∀ l : List (Str × NameKind), (l.map fun (n, k) => if (k == NameKind.free && env.scope.kind == .function && env.kindOf n == some .cell) then (n, NameKind.cell) else (n, k)).lookup x = some k → l.lookup x = some k ∨ (k = .cell ∧ l.lookup x = some .free) := by
    intro l
    induction l with
    | nil => intro h; simp at h
    | cons p r ih =>
      intro h
      obtain ⟨n, k'⟩ := p
      rw [List.map_cons] at h
      by_cases hc : (k' == NameKind.free && env.scope.kind == .function && env.kindOf n == some .cell) = true
      · have h2 : List.lookup x ((n, NameKind.cell) :: r.map fun (n, k) => if (k == NameKind.free && env.scope.kind == .function && env.kindOf n == some .cell) then (n, NameKind.cell) else (n, k)) = some k := by
          have h3 := h
          simp only [hc, if_true] at h3
          exact h3
        have hk : k' = .free := by
          simp only [Bool.and_eq_true] at hc
          simpa using hc.1.1
        subst hk
        cases hx : x == n with
        | true =>
          rw [List.lookup_cons, hx] at h2
          rw [List.lookup_cons, hx]
          cases h2
          exact .inr ⟨rfl, rfl⟩
        | false =>
          rw [List.lookup_cons, hx] at h2
          rw [List.lookup_cons, hx]
          exact ih h2
      · have hc' : (k' == NameKind.free && env.scope.kind == .function && env.kindOf n == some .cell) = false := by simpa using hc
        have h2 : List.lookup x ((n, k') :: r.map fun (n, k) => if (k == NameKind.free && env.scope.kind == .function && env.kindOf n == some .cell) then (n, NameKind.cell) else (n, k)) = some k := by
          have h3 := h
          simp only [hc', Bool.false_eq_true, if_false] at h3
          exact h3
        cases hx : x == n with
        | true =>
          rw [List.lookup_cons, hx] at h2
          rw [List.lookup_cons, hx]
          exact .inl h2
        | false =>
          rw [List.lookup_cons, hx] at h2
          rw [List.lookup_cons, hx]
          exact ih h2
  exact go _ h
theorem relabel_free {sc : Scope} {env : Env} {x : Str} (h : sc.names.lookup x = some .free) : (relabel sc env).names.lookup x = some .cell ∨ (relabel sc env).names.lookup x = some .free := by
  have go : ∀ l : List (Str × NameKind), l.lookup x = some .free → (l.map fun (n, k) => if (k == NameKind.free && env.scope.kind == .function && env.kindOf n == some .cell) then (n, NameKind.cell) else (n, k)).lookup x = some .cell ∨ (l.map fun (n, k) => if (k == NameKind.free && env.scope.kind == .function && env.kindOf n == some .cell) then (n, NameKind.cell) else (n, k)).lookup x = some .free := by
    intro l
    induction l with
    | nil => intro h; simp at h
    | cons p r ih =>
      intro h
      obtain ⟨n, k'⟩ := p
      rw [List.map_cons]
      by_cases hc : (k' == NameKind.free && env.scope.kind == .function && env.kindOf n == some .cell) = true
      · simp only [hc, if_true]
        cases hx : x == n with
        | true => left; simp [List.lookup_cons, hx]
        | false =>
          rw [List.lookup_cons, hx] at h
          simp only [List.lookup_cons, hx]
          exact ih h
      · have hc' : (k' == NameKind.free && env.scope.kind == .function && env.kindOf n == some .cell) = false := by simpa using hc
        simp only [hc', Bool.false_eq_true, if_false]
        cases hx : x == n with
        | true =>
          rw [List.lookup_cons, hx] at h
          right
          simp only [List.lookup_cons, hx]
          exact h
        | false =>
          rw [List.lookup_cons, hx] at h
          simp only [List.lookup_cons, hx]
          exact ih h
  exact go _ h

section
variable {X : Cx} {pins : List (Addr × Obj)} {σ : St}
/-- the cells of the block are the frame's -/
theorem blk_cells {sc : Scope} {Nc : List Str} {fr : List (Option Nat)} (B : Blk X.N X.env.scope sc Nc fr) (ok : X.Ok) {n : Str} {c : Addr} (h : (takes X.env.cells sc.names []).lookup n = some c) : X.env.cells.lookup n = some c := by
  rcases takes_sub _ _ h with q | ⟨q1, q2⟩
  · simp at q
  · obtain ⟨c', hc'⟩ := ok.has n (B.free _ q1 rfl)
    rw [hc'] at q2
    rw [hc', q2]
    rfl
theorem mem_of_lookup' {n : Str} {k : NameKind} : ∀ {l : List (Str × NameKind)}, l.lookup n = some k → (n, k) ∈ l := fun h => PySem.mem_of_lookup h

/-- the context of the block is right -/
theorem blk_ok {sc : Scope} {Nc : List Str} {fr : List (Option Nat)} (B : Blk X.N X.env.scope sc Nc fr) {s₀ : Shared} {H₀ : Hp} {C : Addr} {ex : List Addr} {pn : List (Addr × Obj)} (I : Inv X pins σ H₀ s₀) (hC : s₀.heap.objs.size ≤ C)
    (hex : ∀ b ∈ ex, b < s₀.heap.objs.size ∧ b ∉ X.fs ∧ b ≠ X.env.locals ∧ (∀ x c, X.env.cells.lookup x = some c → c ≠ b) ∧ ∀ o, X.base.get? b ≠ some o) : (blkCx X sc Nc s₀ H₀ C ex pn).Ok where
  mod := I.ok.mod
  kind := B.kind
  glob := I.ok.glob
  blt := I.ok.blt
  above := hC
  inj := fun x y c h1 h2 => I.ok.inj x y c (blk_cells B I.ok h1) (blk_cells B I.ok h2)
  has := fun x hx => by
    have hf : sc.names.lookup x = some .free := by
      rcases hx with hx | hx
      · rcases relabel_lookup hx with q | ⟨_, q⟩
        · exact absurd rfl (B.nocell _ (mem_of_lookup' q))
        · exact q
      · rcases relabel_lookup hx with q | ⟨_, q⟩
        · exact q
        · exact q
    exact Option.isSome_iff_exists.mp (takes_has _ _ (mem_of_lookup' hf))
  cab := fun x c h => by cases (show false = true from h)
  hd := I.ok.hd
  frames := I.ok.frames
  stk := .inl rfl
  exf := fun b hb => ⟨fun e => by have := (hex b hb).1; rw [e] at this; exact absurd (Nat.lt_of_lt_of_le this hC) (Nat.lt_irrefl _), fun x c h => (hex b hb).2.2.2.1 x c (blk_cells B I.ok h)⟩
  bs := fun b o e => I.bs b o e
  bsz := Nat.le_trans I.ok.bsz I.sz
  noex := fun b o e hb => (hex b hb).2.2.2.2 o e
  exfs := fun b hb hf => by
    rcases List.mem_cons.mp (I.stkSub b hf) with e | e
    · exact (hex b hb).2.2.1 e
    · exact (hex b hb).2.1 e
  funs := I.stack
  frf := fun b hb => I.stkFree b hb
end
end L2


namespace L2
open PySem PySem.Spec PyProof.Rows
section
variable {X : Cx}
abbrev lstObj (us : List Value) (n : Nat) : Obj := { cls := .type "list", data := .seq us.toArray n }

theorem lookup_zip {α : Type} {Nc : List Str} {fr : List α} {i : Nat} {x : Str} {o : α} (h1 : Nc[i]? = some x) (h2 : fr[i]? = some o) : (x, o) ∈ Nc.zip fr := by
  have h3 : (Nc.zip fr)[i]? = some (x, o) := by
    rw [List.getElem?_zip_eq_some]
    exact ⟨h1, h2⟩
  exact List.mem_of_getElem? h3

/-- the block at its entry -/
theorem blk_inv {pins : List (Addr × Obj)} {σ : St} {sc : Scope} {Nc : List Str} {fr : List (Option Nat)} (B : Blk X.N X.env.scope sc Nc fr) {s₀ s₄ : Shared} {H₀ : Hp} {C D : Addr} {o : Obj} {ex : List Addr} {mC : Str → Option Value}
    (ok : (blkCx X sc Nc s₀ H₀ C ex (X.pn ++ pins)).Ok) (I : Inv X pins σ H₀ s₀) (hC : s₀.heap.objs.size ≤ C) (ho : s₄.os = s₀.os) (hg : s₄.gens = s₀.gens) (hk : ∀ b u, s₀.heap.get? b = some u → s₄.heap.get? b = some u) (hn : s₄.heap.Ns C mC)
    (hD : s₀.heap.get? D = some o) (hDH : H₀ D = none) (hDL : D ≠ X.env.locals) (hDf : D ∉ X.fs) (hDc : ∀ v, o.data ≠ .cell v) :
    Inv (blkCx X sc Nc s₀ H₀ C ex (X.pn ++ pins)) [(D, o)] (blkSt fr σ) H₀ s₄ := by
  have stk : ∀ b, b ≠ X.env.locals → b ∉ X.fs → b ∉ frs X.stack := fun b h1 h2 h3 => by
    rcases List.mem_cons.mp (I.stkSub b h3) with e | e
    · exact h1 e
    · exact h2 e
  have ltC : ∀ {b : Addr} {u : Obj}, s₀.heap.get? b = some u → b ≠ C := fun e z => absurd (Nat.lt_of_lt_of_le (Heap.lt_size e) (by rw [z]; exact hC)) (Nat.lt_irrefl _)
  refine ⟨ok, ho, by rw [hg]; exact I.bare, Un.kept hk, ⟨mC, hn, fun i x v h1 h2 h3 => ?_⟩, fun x c h => ?_, I.hok.fresh hC, fun x c h => ?_, fun p hp => ?_, I.hok.kept hk, ?_⟩
  · have h2' : (fr.map fun o => o.bind fun j => (σ[j]?).join)[i]? = some (some v) := h2
    rw [List.getElem?_map] at h2'
    cases ef : fr[i]? with
    | none => rw [ef] at h2'; cases h2'
    | some oj =>
      rw [ef] at h2'
      have h4 : (oj.bind fun j => (σ[j]?).join) = some v := Option.some.inj h2'
      cases oj with
      | none => cases h4
      | some j =>
        have hz := B.whence _ (lookup_zip h1 ef)
        have hz' : (decide (X.N[j]? = some x) && decide (sc.names.lookup x = some .free)) = true := hz
        rw [Bool.and_eq_true] at hz'
        have e1 : X.N[j]? = some x := of_decide_eq_true hz'.1
        have e2 : sc.names.lookup x = some .free := of_decide_eq_true hz'.2
        have h5 : σ[j]? = some (some v) := by
          have h6 : (σ[j]?).join = some v := h4
          cases e3 : σ[j]? with
          | none => rw [e3] at h6; cases h6
          | some y => rw [e3] at h6; exact congrArg some h6
        have hkd := B.free _ (mem_of_lookup' e2) rfl
        obtain ⟨m, hm, hl⟩ := I.loc
        have vis : Vis X.env.scope x := by rcases hkd with k | k; exact .inr (.inl k); exact .inr (.inr k)
        obtain ⟨u, r, l⟩ := hl j x v e1 h5 vis
        refine ⟨u, r, .inr ⟨relabel_free e2, ?_⟩⟩
        rcases l with ⟨k, _⟩ | ⟨_, c, hc, hcell⟩
        · have k' : X.env.scope.names.lookup x = some .local := k
          rcases hkd with q | q
          · rw [q] at k'; cases k'
          · rw [q] at k'; cases k'
        · obtain ⟨c', hc'⟩ := Option.isSome_iff_exists.mp (takes_has (cells := X.env.cells) sc.names [] (mem_of_lookup' e2))
          have hc2 := blk_cells B I.ok hc'
          rw [hc] at hc2
          cases hc2
          obtain ⟨oc, ho1, ho2⟩ := hcell
          exact ⟨c, hc', oc, hk _ _ ho1, ho2⟩
  · obtain ⟨v, oc, h1, h2⟩ := I.cell x c (blk_cells B I.ok h)
    exact ⟨v, oc, hk _ _ h1, h2⟩
  · exact I.freeC x c (blk_cells B I.ok h)
  · rcases List.mem_append.mp hp with hp | hp
    · obtain ⟨e1, e2, e3, e4, e5⟩ := I.pin p hp
      exact ⟨hk _ _ e1, e2, ltC e1, stk _ e3 e4, e5⟩
    · have e : p = (D, o) := by simpa using hp
      subst e
      exact ⟨hk _ _ hD, hDH, ltC hD, stk _ hDL hDf, hDc⟩
  · show (fr.map _).length = Nc.length
    rw [List.length_map, B.len]

/-- a comprehension's loop, with whatever its target asks -/
abbrev RunsTo (prog : Program) (w : World) (A : Around) {α : Type} (c : Sem α) (t : Shared) (Q : α → Shared → Prop) : Prop := wpAny (model prog w) A c Q (fun _ _ => False) t
theorem RunsTo.go {prog : Program} {w : World} {A : Around} {α : Type} {c : Sem α} {t : Shared} {Q Q' : α → Shared → Prop} {E : Value → Shared → Prop} (h : RunsTo prog w A c t Q) (f : ∀ a u, Q a u → Q' a u) : wpAny (model prog w) A c Q' E t := wpAny_mono h f fun _ _ z => z.elim
theorem compLoop_gen {prog : Program} {w : World} {A : Around} {R : Result → Shared → Prop} {s : Shared} {elt tg iter : Expr} {sc : Scope} {pos : Pos} {it acc : Value} {env : Env} (J : Nat → Shared → Prop)
    (one : ∀ k t, J k t → RunsTo prog w A (pyNext it) t fun r t1 => match r with
      | none => R (.ok .next) t1
      | some v => RunsTo prog w A (letOwnedTupleGo tg it v) t1 fun _ t2 => RunsTo prog w A (assign tg env v) t2 fun _ t3 => RunsTo prog w A (eval elt env) t3 fun x t4 =>
          RunsTo prog w A (call (.builtin "list.append") [acc, x]) t4 fun _ t5 => ∃ j, j < k ∧ J j t5)
    (k : Nat) (h : J k s) : codeAny (model prog w) A (.compLoop (.ListComp elt [⟨tg, iter, [], 0⟩] sc pos) 0 it acc env) R s :=
  PySem.W.kcp_loop J (fun k t hJ => (one k t hJ).go fun r t1 q => match r, q with
    | none, q => q
    | some _, q => RunsTo.go q fun _ _ q => RunsTo.go q fun _ _ q => RunsTo.go q fun _ _ q => RunsTo.go q fun _ _ q => q) k h

theorem comp_block {elt iter tg : Expr} {sc : Scope} {pos : Pos} {Nc : List Str} {fr : List (Option Nat)} {g : TG} {te : TE} (B : Blk X.N X.env.scope sc Nc fr) (hc : X.calm = true)
    (hg : ∀ s₀ H₀ C ex pn, PG (blkCx X sc Nc s₀ H₀ C ex pn) tg g) (he : ∀ s₀ H₀ C ex pn, PE (blkCx X sc Nc s₀ H₀ C ex pn) elt te)
    {pins : List (Addr × Obj)} {σ : St} {s2 : Shared} {H2 : Hp} {it : Addr} {fp : List Addr} {tn : Nat → Heap → Prop} {J : It} (I2 : Inv X pins σ H2 s2) (T : Turn X.prog X.w X.K tg J fp it tn) (st2 : tn 0 s2.heap) (f2 : ∀ b ∈ fp, FpOk X pins H2 b)
    {Q : VK} (cw : CompW J g te (blkSt fr σ) H2 Q) {RR : Value → Addr → Result → Shared → Prop} {E : Value → Shared → Prop}
    (hRR : ∀ D C s' H', Inv X pins σ H' s' → (∃ m, s'.heap.Ns C m) → FpOk X pins H' C → Q (.ref D) H' → RR (.ref D) C (.ok .next) s') :
    wpAny (model X.prog X.w) X.A (newList []) (fun acc s₃ => wpAny (model X.prog X.w) X.A (newFunctionEnv sc X.env.globals (takes X.env.cells sc.names []) [] X.env.qual none .none (some X.env)) (fun cenv s₄ =>
      codeAny (model X.prog X.w) X.A (.compStart (.ListComp elt [⟨tg, iter, [], 0⟩] sc pos) 0 (.ref it) acc { cenv with scope := relabel sc X.env }) (RR acc cenv.locals) s₄) E s₃) E s2 := by
  obtain ⟨W, ⟨m0, w0⟩, turn⟩ := cw
  refine wpAny_newObj_type (wpAny_newFunctionEnv B.nocell (by intro y hy; simp at hy) (fun h₁ hns₁ hsb₁ => ?_) B.kind)
  dsimp only at hns₁ hsb₁ ⊢
  generalize hH2 : s2.heap.push { cls := .type "list", dict := none, data := .seq ([] : List Value).toArray } = hp at hns₁ hsb₁ ⊢
  have hCs : hp.objs.size = s2.heap.objs.size + 1 := by rw [← hH2, Heap.size_push]
  generalize hCe : hp.objs.size = C at hns₁ hsb₁ ⊢
  generalize hDe : s2.heap.objs.size = D at hCs ⊢
  have hDC : D ≠ C := by rw [← hCe, hCs]; exact Nat.ne_of_lt (Nat.lt_succ_self _)
  have up : ∀ b o, s2.heap.get? b = some o → hp.get? b = some o := fun b o e => by rw [← hH2]; exact Heap.get?_push_of_some _ e
  have hDp : hp.get? D = some (lstObj [] 0) := by rw [← hH2, ← hDe]; exact Heap.get?_push_size _ rfl
  -- the state ahead of the block's frame
  have I3 : Inv X pins σ H2 { s2 with heap := hp } := I2.kept (t' := s2.toks) up
  have hD0 : H2 D = none := I2.hok.fresh (by rw [hDe]; exact Nat.le_refl _)
  have fD : FpOk X pins H2 D := I2.fpOk (by rw [hDe]; exact Nat.le_refl _) hD0
  have fpo : ∀ b ∈ fp, ∃ o, s2.heap.get? b = some o ∧ ∀ v, o.data ≠ .cell v := T.obj 0 _ st2
  have fplt : ∀ b ∈ fp, b < D := fun b hb => by obtain ⟨o, e, _⟩ := fpo b hb; rw [← hDe]; exact Heap.lt_size e
  have hDfp : D ∉ fp := fun hb => Nat.lt_irrefl _ (fplt D hb)
  have hCfp : C ∉ fp := fun hb => by have := fplt C hb; rw [← hCe, hCs] at this; exact absurd (Nat.lt_of_succ_lt this) (Nat.lt_irrefl _)
  have nobase : ∀ b, (b ∈ X.ex ∨ X.s₀.heap.objs.size ≤ b) → ∀ o, X.base.get? b ≠ some o := fun b h o e => by
    rcases h with h | h
    · exact I2.ok.noex b o e h
    · exact absurd (Nat.lt_of_lt_of_le (Heap.lt_size e) (Nat.le_trans I2.ok.bsz h)) (Nat.lt_irrefl _)
  have hex : ∀ b ∈ D :: fp, b < hp.objs.size ∧ b ∉ X.fs ∧ b ≠ X.env.locals ∧ (∀ x c, X.env.cells.lookup x = some c → c ≠ b) ∧ ∀ o, X.base.get? b ≠ some o := fun b hb => by
    have fb : FpOk X pins H2 b := by
      rcases List.mem_cons.mp hb with e | hb
      · rw [e]; exact fD
      · exact f2 b hb
    refine ⟨?_, fb.2.2.1, fb.2.1, fb.2.2.2.2.1, nobase b fb.2.2.2.1⟩
    rcases List.mem_cons.mp hb with e | hb
    · rw [e, hCs]; exact Nat.lt_succ_self _
    · rw [hCs]; exact Nat.lt_succ_of_lt (fplt b hb)
  have hCle : hp.objs.size ≤ C := by rw [hCe]; exact Nat.le_refl _
  have ok : (blkCx X sc Nc { s2 with heap := hp } H2 C (D :: fp) (X.pn ++ pins)).Ok := blk_ok B I3 hCle hex
  have old : ∀ b u, hp.get? b = some u → h₁.get? b = some u := fun b u e => by
    have hb : b ≠ C := by rw [← hCe]; exact Nat.ne_of_lt (Heap.lt_size e)
    exact (hsb₁.2 b hb).trans (Heap.get?_push_of_some _ e)
  have J0 : Inv (blkCx X sc Nc { s2 with heap := hp } H2 C (D :: fp) (X.pn ++ pins)) [(D, lstObj [] 0)] (blkSt fr σ) H2 { s2 with heap := h₁, toks := s2.toks + ([] : List (Str × Value)).length } :=
    blk_inv B ok I3 hCle rfl rfl old hns₁ hDp hD0 fD.2.1 fD.2.2.1 (fun v z => by cases z)
  -- what holds of the iterator's objects all the time
  have fpY : ∀ {H' : Hp} {u : Obj}, (∀ b ∈ fp, H' b = none) → ∀ b ∈ fp, FpOk (blkCx X sc Nc { s2 with heap := hp } H2 C (D :: fp) (X.pn ++ pins)) [(D, u)] H' b := fun {H' u} hn b hb =>
    ⟨hn b hb, fun e => hCfp (by have e' : b = C := e; rw [← e']; exact hb), ok.exfs b (List.mem_cons_of_mem _ hb), .inl (List.mem_cons_of_mem _ hb), (ok.exf b (List.mem_cons_of_mem _ hb)).2, fun p hp' => by
      rcases List.mem_append.mp hp' with q | q
      · exact (f2 b hb).2.2.2.2.2 p q
      · have e : p = (D, u) := by simpa using q
        rw [e]
        exact fun z => hDfp (by have z' : D = b := z; rw [z']; exact hb)⟩
  have cellY : ∀ {x : Str} {c : Addr}, (takes X.env.cells sc.names []).lookup x = some c → c ≠ D := fun h => (ok.exf D List.mem_cons_self).2 _ _ h
  have loop : codeAny (model X.prog X.w) X.A (.compLoop (.ListComp elt [⟨tg, iter, [], 0⟩] sc pos) 0 (.ref it) (.ref D) (compEnvC sc (takes X.env.cells sc.names []) C X.env)) (RR (.ref D) C) { s2 with heap := h₁, toks := s2.toks + ([] : List (Str × Value)).length } := by
    refine compLoop_gen (fun n s' => ∃ (i : Nat) (ys : List V) (us : List Value) (σc : St) (H' : Hp), Inv (blkCx X sc Nc { s2 with heap := hp } H2 C (D :: fp) (X.pn ++ pins)) [(D, lstObj us us.length)] σc H' s' ∧ Vals ys us ∧ tn i s'.heap ∧ (∀ b ∈ fp, H' b = none) ∧ W i n ys σc H')
      ?_ m0 ⟨0, [], [], _, H2, J0, .nil, T.keep _ _ _ st2 (fun b _ o e => old b o (up b o e)), fun b hb => (f2 b hb).1, w0⟩
    rintro n s3 ⟨i, ys, us, σ3, H3, I3', rv, st3, fr3, w3⟩
    obtain ⟨hsz, hcase⟩ := turn i n ys σ3 H3 w3
    rcases hcase with ⟨stop, qn⟩ | ⟨go, step⟩
    · refine thn (T.done (blkCx X sc Nc { s2 with heap := hp } H2 C (D :: fp) (X.pn ++ pins)) rfl rfl rfl hc i _ s3 σ3 H3 _ I3' (fpY fr3) st3 stop) fun r s4 ⟨hr, I4⟩ => ?_
      subst hr
      -- the block is left
      obtain ⟨pD, pH, _, _, _⟩ := I4.pin (D, lstObj us us.length) (List.mem_append_right _ List.mem_cons_self)
      obtain ⟨mC', hnC, _⟩ := I4.loc
      have un : Un (frs X.stack) fp H2 (upd H3 D (.lst ys)) s2.heap s4.heap := by
        have u0 : Un (frs X.stack) (D :: fp) H2 H3 hp s4.heap := I4.base
        have neD : ∀ {b : Addr} {o : Obj}, s2.heap.get? b = some o → b ≠ D := fun e => by rw [← hDe]; exact Nat.ne_of_lt (Heap.lt_size e)
        have nx : ∀ {b : Addr} {o : Obj}, s2.heap.get? b = some o → b ∉ fp → b ∉ D :: fp := fun e h1 h2 => by
          rcases List.mem_cons.mp h2 with z | z
          · exact neD e z
          · exact h1 z
        have neT : ∀ {b : Addr} {o : HO}, H2 b = some o → b ≠ D := fun e z => by rw [z, hD0] at e; cases e
        exact ⟨fun b o e n hb hx => u0.keep b o (up b o e) n hb (nx e hx), fun b o e n hb hx => u0.slot b o (up b o e) n hb (nx e hx), fun b o e n hx => by rw [upd_ne (neD e)]; exact u0.free b o (up b o e) n (nx e hx),
          fun b o e hx => u0.there b o (up b o e) (nx e hx), fun b xs e => by rw [upd_ne (neT e)]; exact u0.tups b xs e, fun b o xs e => by rw [upd_ne (neT e)]; exact u0.frzs b o xs e, fun b ps e => by rw [upd_ne (neT e)]; exact u0.tbls b ps e⟩
      have hok : HOk X.prog X.w (upd H3 D (.lst ys)) s4.heap := fun b u e => by
        by_cases hb : b = D
        · subst hb
          rw [upd_same] at e
          cases e
          exact ⟨Nat.le_of_lt hsz, us, us.length, rv, pD⟩
        · rw [upd_ne hb] at e
          refine (I4.hok b u e).stay (fun c v _ q => q) (fun c q => ?_) fun c xs q => ?_
          · rw [upd_ne (fun z => by rw [z] at q; rw [show H3 D = none from pH] at q; cases q)]; exact q
          · rw [upd_ne (fun z => by rw [z] at q; rw [show H3 D = none from pH] at q; cases q)]; exact q
      have I5 : Inv X pins σ (upd H3 D (.lst ys)) s4 := I2.call' I4.os un hok I4.bare fun b hb => ⟨(f2 b hb).2.2.2.1, (f2 b hb).2.1, (f2 b hb).2.2.2.2.1, (f2 b hb).2.2.2.2.2⟩
      refine hRR D C s4 _ I5 ⟨mC', hnC⟩ ?_ (qn D pH)
      have hC2 : s2.heap.objs.size ≤ C := by rw [hDe, ← hCe, hCs]; exact Nat.le_succ _
      refine I2.fpOk hC2 ?_
      rw [upd_ne (Ne.symm hDC)]
      exact I4.free
    · refine thn (T.item (blkCx X sc Nc { s2 with heap := hp } H2 C (D :: fp) (X.pn ++ pins)) rfl rfl rfl hc i _ s3 σ3 H3 _ I3' (fpY fr3) st3 go) fun r s4 ⟨u, hr, h4⟩ => ?_
      subst hr
      refine thn h4 fun _ s5 ⟨x, H5, I5, r5, y5, st5, fr5⟩ => ?_
      have I5' := I5.pinned (fpY fr5) (T.obj _ _ st5)
      refine thn (hg _ _ _ _ _ _ s5 σ3 H5 x u _ I5' r5 (step x H5 y5)) fun _ s6 ⟨σ6, H6, I6, N, hN, q6⟩ => ?_
      refine thn (he _ _ _ _ _ _ s6 σ6 H6 _ I6 q6) fun y s7 ⟨yv, H7, I7, r7, q7⟩ => ?_
      obtain ⟨pD, pH, pL, pF, pc⟩ := I7.pin (D, lstObj us us.length) (List.mem_append_right _ (List.mem_append_left _ List.mem_cons_self))
      have hlen : us.length = ys.length := rv.length.symm
      refine append_at (hsz := by rw [List.size_toArray, hlen]; exact Nat.le_of_lt hsz) pD fun h8 sb8 hD8 => ?_
      obtain ⟨m', hm, w8⟩ := hN yv H7 q7
      have st7 : tn (i + 1) s7.heap := T.keep _ _ _ st5 fun b hb o e => (I7.pin (b, o) (List.mem_append_right _ (List.mem_append_right _ (mem_pinsAt hb e)))).1
      have fr7 : ∀ b ∈ fp, H7 b = none := fun b hb => by
        obtain ⟨o, e, d⟩ := T.obj _ _ st5 b hb
        exact (I7.pin (b, o) (List.mem_append_right _ (List.mem_append_right _ (mem_pinsAt hb e)))).2.1
      have I7n : Inv (blkCx X sc Nc { s2 with heap := hp } H2 C (D :: fp) (X.pn ++ pins)) [] σ6 H7 s7 := I7.pins_of fun p z => absurd z (by simp)
      have I8 : Inv (blkCx X sc Nc { s2 with heap := hp } H2 C (D :: fp) (X.pn ++ pins)) [] σ6 H7 { s7 with heap := h8 } :=
        I7n.turned (t' := s7.toks) (it := D) (fun b o hb e => (sb8.2 b hb).trans e) pH pL (.inl List.mem_cons_self) (fun x c e => (ok.exf D List.mem_cons_self).2 x c e) fun p hp' => by
          have hp2 : p ∈ X.pn ++ pins := by simpa using hp'
          exact fD.2.2.2.2.2 p hp2
      have e8 : h8.get? D = some (lstObj (us ++ [y]) (us ++ [y]).length) := by
        rw [hD8]
        simp
      refine ⟨m', hm, i + 1, ys ++ [yv], us ++ [y], σ6, H7, I8.pins_of fun p z => ?_, rv.append (.cons r7 .nil), T.keep _ _ _ st7 fun b hb o e => (sb8.2 b fun z => hDfp (by rw [← z]; exact hb)).trans e, fr7, w8⟩
      have e : p = (D, lstObj (us ++ [y]) (us ++ [y]).length) := by simpa using z
      subst e
      exact ⟨e8, pH, pL, pF, fun v z => by cases z⟩
  exact codeAny_compStart_list loop (wpAny_mono (T.self X.A 0 _ _ (fun _ _ => False) (T.keep _ _ _ st2 (fun b _ o e => old b o (up b o e))) loop) (fun _ _ h => h) fun _ _ h => h.elim)

theorem clos_of {pins : List (Addr × Obj)} {σ : St} {H : Hp} {s : Shared} {sc : Scope} {Nc : List Str} {fr : List (Option Nat)} (B : Blk X.N X.env.scope sc Nc fr) (I : Inv X pins σ H s) : closureFor sc X.env = pure (takes X.env.cells sc.names []) :=
  closure_takes fun y hy hf => I.ok.has y.1 (B.free y hy hf)

/-- [elt for tg in iter] -/
theorem pe_comp {elt iter tg : Expr} {sc : Scope} {pos : Pos} {Nc : List Str} {fr : List (Option Nat)} {wi : TI} {g : TG} {te : TE} (hc : X.calm = true) (hi : PI X tg iter wi) (B : Blk X.N X.env.scope sc Nc fr)
    (hg : ∀ s₀ H₀ C ex pn, PG (blkCx X sc Nc s₀ H₀ C ex pn) tg g) (he : ∀ s₀ H₀ C ex pn, PE (blkCx X sc Nc s₀ H₀ C ex pn) elt te) (hs : ∀ x, foldedSetIterable iter X.env x = pure x := by intro _; rfl) :
    PE X (.ListComp elt [⟨tg, iter, [], 0⟩] sc pos) (tComp fr wi g te) := by
  intro pins s σ H Q I h
  rw [eval_ListComp]
  refine wpAny_comprehension_free (use := none) rfl hs (clos_of B I) B.kind B.locs (thn (hi pins s σ H _ I h) fun v s1 h1 => thn h1 fun itv s2 h2 => ?_)
  obtain ⟨it, fp, tn, J, H2, e, I2, T, st2, f2, cw⟩ := h2
  subst e
  refine comp_block (RR := fun acc C => compPost (model X.prog X.w) X.A X.xe none (EP X pins σ Q) acc C) B hc hg he I2 T st2 f2 cw fun D C s' H' I' hn fC q => ?_
  obtain ⟨m, hn⟩ := hn
  exact ⟨m, hn, fun h' sb => ⟨.ref D, H', I'.turned (t' := s'.toks) (fun b o hb e => (sb.2 b hb).trans e) fC.1 fC.2.1 fC.2.2.2.1 fC.2.2.2.2.1 fC.2.2.2.2.2, rfl, q⟩⟩

/-- x = [elt for tg in iter], where the store comes ahead of the block's end -/
theorem ps_setComp {i : Nat} {x : Str} {px spos : Pos} {elt iter tg : Expr} {sc : Scope} {pos : Pos} {Nc : List Str} {fr : List (Option Nat)} {wi : TI} {g : TG} {te : TE} (hN : X.N.Nodup) (hi' : X.N[i]? = some x) (hx : X.env.scope.names.lookup x = some .local)
    (hc : X.calm = true) (hi : PI X tg iter wi) (B : Blk X.N X.env.scope sc Nc fr)
    (hg : ∀ s₀ H₀ C ex pn, PG (blkCx X sc Nc s₀ H₀ C ex pn) tg g) (he : ∀ s₀ H₀ C ex pn, PE (blkCx X sc Nc s₀ H₀ C ex pn) elt te)
    (hsw : swapsWith (.ListComp elt [⟨tg, iter, [], 0⟩] sc pos) (some (.Name x px)) spos.line X.env = pure true := by rfl) (hs : ∀ x, foldedSetIterable iter X.env x = pure x := by intro _; rfl) :
    PS X (.Assign [.Name x px] (.ListComp elt [⟨tg, iter, [], 0⟩] sc pos) spos) (tAsg (tComp fr wi g te) (gName i)) := by
  intro pins s σ H D I h
  rw [exec_Assign_Name_used _ _ _ _ hsw]
  refine wpAny_bind (wpAny_standAt (wpAny_bind ?_))
  show wpAny _ X.A (do let _ ← comprehension (.ListComp elt [⟨tg, iter, [], 0⟩] sc pos) sc X.env _ (newList []) false (eval iter X.env) (some (assign (.Name x px) X.env))) _ _ s
  refine wpAny_bind (wpAny_mono (wpAny_comprehension_free (use := some (assign (.Name x px) X.env)) (Q := fun _ s' => SP X pins D .next s') rfl hs (clos_of B I) B.kind B.locs
    (thn (hi pins s σ H _ I h) fun v s1 h1 => thn h1 fun itv s2 h2 => ?_)) (fun _ s' hq => wpAny_pure (wpAny_pure hq)) fun _ _ e => e)
  obtain ⟨it, fp, tn, J, H2, e, I2, T, st2, f2, cw⟩ := h2
  subst e
  refine comp_block (RR := fun acc C => compPost (model X.prog X.w) X.A X.xe (some (assign (.Name x px) X.env)) (fun _ s' => SP X pins D .next s') acc C) B hc hg he I2 T st2 f2 cw fun L C s' H' I' hn fC q => ?_
  obtain ⟨m, hn⟩ := hn
  show wpAny _ X.A (assign (.Name x px) X.env (.ref L)) _ _ _
  refine wpAny_assign_Name (store_ok2 I' hN hi' (.inl hx) (v := .ref L) rfl (fun s3 I3 hs3 => ?_) (.inr hx))
  obtain ⟨a, sb, ha⟩ := hs3
  have hCa : C ≠ a := by
    rcases ha with e | e
    · rw [e]; exact fC.2.1
    · exact fun z => fC.2.2.2.2.1 _ _ e (by rw [z])
  exact ⟨m, hn.sameBut sb hCa, fun h' sb' => ⟨_, H', I3.turned (t' := s3.toks) (fun b o hb e => (sb'.2 b hb).trans e) fC.1 fC.2.1 fC.2.2.2.1 fC.2.2.2.2.1 fC.2.2.2.2.2, q⟩⟩
end

/-! ### the forms one uses -/
end L2


namespace L2
open PySem PySem.Spec PyProof.Rows
section
variable {X : Cx}
/-! ### all(list of bools) -/
theorem bools_of : ∀ {bs : List Bool} {us : List Value}, Vals (bs.map V.bl) us → LSm.BoolsAre us bs
  | [], _, .nil => .nil
  | _ :: _, _, .cons r t => by
    obtain rfl := (show _ = Value.bool _ from r)
    exact .cons _ (bools_of t)
theorem call_allB (hc : X.calm = true) : CallR X (.builtin "all") (fun xs H Q => ∃ (p : Addr) (bs : List Bool), xs = [.ref p] ∧ SqL X.K H p (bs.map V.bl) ∧ Q (.bl (bs.all id)) H) := by
  intro pins s σ H xs us Q I r h
  obtain ⟨p, bs, rfl, hq, q⟩ := h
  obtain ⟨u, rfl, ru⟩ := vals1 r
  cases ru
  obtain ⟨its, rv, pl, hz⟩ := I.list hq
  have hb := bools_of rv
  have hl := pl.isList
  have hlt : p < s.heap.objs.size := by obtain ⟨_, e, _⟩ := hl; exact Heap.lt_size e
  refine call_all_walk (wpAny_pyIter_list hl ⟨s.heap.objs.size, [s.heap.objs.size, p], [s.heap.objs.size], its.toArray.size, _, _, fun i => (bs[i]?).getD true, rfl, Walks.list (A := X.A.in1) (I.ok.hd hc) _ p (Nat.ne_of_lt hlt) its.toArray, ⟨⟨_, Heap.get?_push_size _ rfl, rfl, rfl⟩, hl.push _⟩,
    fun i v s' Q' E' hP hQ => ?_, fun h' tk hk => ?_⟩)
  · obtain ⟨b, e, rfl⟩ := hb.get i v (by simpa using hP)
    simp only [e, Option.getD_some] at hQ
    exact wpAny_truthy_bool hQ
  · have e : ((List.range its.toArray.size).all fun i => (bs[i]?).getD true) = bs.all id := by rw [List.size_toArray, hb.length, LSm.range_all bs]
    rw [e]
    exact ⟨.bl _, H, I.kept (LSm.kept_iter hk), rfl, q⟩

/-! ### isinstance of the plain kinds -/
structure TyFacts (K : PySem.W.Frag) : Prop where
  bb : PySem.W.kitOne K (.type "bool") (.type "bool") = some true
  bi : PySem.W.kitOne K (.type "bool") (.type "int") = some true
  bl : PySem.W.kitOne K (.type "bool") (.type "list") = some false
  bt : PySem.W.kitOne K (.type "bool") (.type "tuple") = some false
  ib : PySem.W.kitOne K (.type "int") (.type "bool") = some false
  ii : PySem.W.kitOne K (.type "int") (.type "int") = some true
  il : PySem.W.kitOne K (.type "int") (.type "list") = some false
  it : PySem.W.kitOne K (.type "int") (.type "tuple") = some false
  nb : PySem.W.kitOne K (.type "NoneType") (.type "bool") = some false
  ni : PySem.W.kitOne K (.type "NoneType") (.type "int") = some false
  nl : PySem.W.kitOne K (.type "NoneType") (.type "list") = some false
  nt : PySem.W.kitOne K (.type "NoneType") (.type "tuple") = some false
  sb : PySem.W.kitOne K (.type "str") (.type "bool") = some false
  si : PySem.W.kitOne K (.type "str") (.type "int") = some false
  sl : PySem.W.kitOne K (.type "str") (.type "list") = some false
  st : PySem.W.kitOne K (.type "str") (.type "tuple") = some false
  lb : PySem.W.kitOne K (.type "list") (.type "bool") = some false
  li : PySem.W.kitOne K (.type "list") (.type "int") = some false
  ll : PySem.W.kitOne K (.type "list") (.type "list") = some true
  lt : PySem.W.kitOne K (.type "list") (.type "tuple") = some false
  tb : PySem.W.kitOne K (.type "tuple") (.type "bool") = some false
  ti : PySem.W.kitOne K (.type "tuple") (.type "int") = some false
  tl : PySem.W.kitOne K (.type "tuple") (.type "list") = some false
  tt : PySem.W.kitOne K (.type "tuple") (.type "tuple") = some true
  db : PySem.W.kitOne K (.type "dict") (.type "bool") = some false
  di : PySem.W.kitOne K (.type "dict") (.type "int") = some false
  dl : PySem.W.kitOne K (.type "dict") (.type "list") = some false
  dt : PySem.W.kitOne K (.type "dict") (.type "tuple") = some false
/-- a thing whose kind is known -/
inductive Kn (H : Hp) : V → Prop where
  | non : Kn H .non
  | bl (b : Bool) : Kn H (.bl b)
  | int (i : Int) : Kn H (.int i)
  | str (x : Str) : Kn H (.str x)
  | lst {a : Addr} {xs : List V} (e : H a = some (.lst xs)) : Kn H (.ref a)
  | tup {a : Addr} {xs : List V} (e : H a = some (.tup xs)) : Kn H (.ref a)
  | dK {a : Addr} {kvs : List (Key × V)} (e : H a = some (.dK kvs)) : Kn H (.ref a)
def isB : V → Bool
  | .bl _ => true
  | _ => false
def isI : V → Bool
  | .bl _ => true
  | .int _ => true
  | _ => false
def isL (H : Hp) : V → Bool
  | .ref a => match H a with
    | some (.lst _) => true
    | _ => false
  | _ => false
def isT (H : Hp) : V → Bool
  | .ref a => match H a with
    | some (.tup _) => true
    | _ => false
  | _ => false
theorem isL_lst {H : Hp} {a : Addr} {xs : List V} (h : H a = some (.lst xs)) : isL H (.ref a) = true := by simp only [isL, h]
theorem isL_tup {H : Hp} {a : Addr} {xs : List V} (h : H a = some (.tup xs)) : isL H (.ref a) = false := by simp only [isL, h]
theorem isL_dK {H : Hp} {a : Addr} {xs : List (Key × V)} (h : H a = some (.dK xs)) : isL H (.ref a) = false := by simp only [isL, h]
theorem isinst_run {pins : List (Addr × Obj)} {s : Shared} {σ : St} {H : Hp} {x : V} {c : String} {us : List Value} {t : Value} {b b' : Bool} {Q : VK} (I : Inv X pins σ H s) (r : Vals [x, .ty c] us) (ty : TyOf X.K H x t) (e : PySem.W.kitOne X.K t (.type c) = some b) (eb : b' = b) (q : Q (.bl b') H) :
    wpAny (model X.prog X.w) X.A (call (.builtin "isinstance") us) (EP X pins σ Q) X.xe s := by
  obtain ⟨u, w', rfl, ru, rw'⟩ := vals2 r
  obtain rfl : w' = Value.type c := rw'
  subst eb
  exact isinst_ok I ru ty e fun tk => ⟨.bl b', H, I.tok _, rfl, q⟩
theorem call_isB (F : TyFacts X.K) : CallR X (.builtin "isinstance") (fun xs H Q => ∃ x, xs = [x, .ty "bool"] ∧ Kn H x ∧ Q (.bl (isB x)) H) := by
  intro pins s σ H xs us Q I r h
  obtain ⟨x, rfl, k, q⟩ := h
  cases k with
  | non => exact isinst_run I r .non F.nb rfl q
  | bl b => exact isinst_run I r (.bl b) F.bb rfl q
  | int i => exact isinst_run I r (.int i) F.ib rfl q
  | str y => exact isinst_run I r (.str y) F.sb rfl q
  | lst e => exact isinst_run I r (.lst e) F.lb rfl q
  | tup e => exact isinst_run I r (.tup e) F.tb rfl q
  | dK e => exact isinst_run I r (.dK e) F.db rfl q
theorem call_isI (F : TyFacts X.K) : CallR X (.builtin "isinstance") (fun xs H Q => ∃ x, xs = [x, .ty "int"] ∧ Kn H x ∧ Q (.bl (isI x)) H) := by
  intro pins s σ H xs us Q I r h
  obtain ⟨x, rfl, k, q⟩ := h
  cases k with
  | non => exact isinst_run I r .non F.ni rfl q
  | bl b => exact isinst_run I r (.bl b) F.bi rfl q
  | int i => exact isinst_run I r (.int i) F.ii rfl q
  | str y => exact isinst_run I r (.str y) F.si rfl q
  | lst e => exact isinst_run I r (.lst e) F.li rfl q
  | tup e => exact isinst_run I r (.tup e) F.ti rfl q
  | dK e => exact isinst_run I r (.dK e) F.di rfl q
theorem call_isL (F : TyFacts X.K) : CallR X (.builtin "isinstance") (fun xs H Q => ∃ x, xs = [x, .ty "list"] ∧ Kn H x ∧ Q (.bl (isL H x)) H) := by
  intro pins s σ H xs us Q I r h
  obtain ⟨x, rfl, k, q⟩ := h
  cases k with
  | non => exact isinst_run I r .non F.nl rfl q
  | bl b => exact isinst_run I r (.bl b) F.bl rfl q
  | int i => exact isinst_run I r (.int i) F.il rfl q
  | str y => exact isinst_run I r (.str y) F.sl rfl q
  | lst e => exact isinst_run I r (.lst e) F.ll (isL_lst e) q
  | tup e => exact isinst_run I r (.tup e) F.tl (isL_tup e) q
  | dK e => exact isinst_run I r (.dK e) F.dl (isL_dK e) q
/-! ### repr of data without dicts -/
mutual
inductive Dt (K : PySem.W.Frag) (H : Hp) : V → PyData → Prop where
  | non : Dt K H .non .none
  | bl (b : Bool) : Dt K H (.bl b) (.bool b)
  | int (i : Int) : Dt K H (.int i) (.int i)
  | str (x : Str) : Dt K H (.str x) (.str x)
  | lst {a : Addr} {xs : List V} {ds : List PyData} : SqL K H a xs → DtAll K H xs ds → Dt K H (.ref a) (.list ds)
  | tup {a : Addr} {xs : List V} {ds : List PyData} : SqT K H a xs → DtAll K H xs ds → Dt K H (.ref a) (.tuple ds)
inductive DtAll (K : PySem.W.Frag) (H : Hp) : List V → List PyData → Prop where
  | nil : DtAll K H [] []
  | cons {x : V} {xs : List V} {d : PyData} {ds : List PyData} : Dt K H x d → DtAll K H xs ds → DtAll K H (x :: xs) (d :: ds)
end
mutual
theorem Dt.reads {pins : List (Addr × Obj)} {σ : St} {H : Hp} {s : Shared} (I : Inv X pins σ H s) : ∀ {x : V} {d : PyData} {u : Value}, Dt X.K H x d → RelV x u → ∃ as, Reads s.heap u d as
  | _, _, _, .non, r => by cases r; exact ⟨_, .none⟩
  | _, _, _, .bl b, r => by cases r; exact ⟨_, .bool b⟩
  | _, _, _, .int i, r => by obtain ⟨t, rfl⟩ := r; exact ⟨_, .int i t⟩
  | _, _, _, .str y, r => by obtain ⟨t, rfl⟩ := r; exact ⟨_, .str y t⟩
  | _, _, _, .lst hq hs, r => by
    cases r
    obtain ⟨its, rv, ⟨o, n, e1, e2, e3, e4⟩, hz⟩ := I.list hq
    obtain ⟨as, h⟩ := DtAll.reads I hs rv
    exact ⟨_, .list e1 e2 e4 (by simpa using h)⟩
  | _, _, _, .tup hq hs, r => by
    cases r
    obtain ⟨its, rv, ⟨o, e1, e2, n, e4⟩, hz⟩ := I.tuple hq
    obtain ⟨as, h⟩ := DtAll.reads I hs rv
    exact ⟨_, .tuple e1 e2 e4 (by simpa using h)⟩
theorem DtAll.reads {pins : List (Addr × Obj)} {σ : St} {H : Hp} {s : Shared} (I : Inv X pins σ H s) : ∀ {xs : List V} {ds : List PyData} {us : List Value}, DtAll X.K H xs ds → Vals xs us → ∃ as, ReadsAll s.heap us ds as
  | _, _, _, .nil, .nil => ⟨_, .nil⟩
  | _, _, _, .cons h1 h2, .cons r1 r2 => by
    obtain ⟨as, a⟩ := Dt.reads I h1 r1
    obtain ⟨bs, b⟩ := DtAll.reads I h2 r2
    exact ⟨_, .cons a b⟩
end
/-- what may be shown -/
structure Shw (d : PyData) : Prop where
  sh : d.showable = true
  nd : d.hasDict = false
  dp : d.depth ≤ 20
  sz : d.shown.length ≤ sizeLine
mutual
theorem Dt.same {K : PySem.W.Frag} {H H' : Hp} (e : Same H H') : ∀ {x : V} {d : PyData}, Dt K H x d → Dt K H' x d
  | _, _, .non => .non
  | _, _, .bl b => .bl b
  | _, _, .int i => .int i
  | _, _, .str y => .str y
  | _, _, .lst hq hs => .lst (e.seq hq) (DtAll.same e hs)
  | _, _, .tup hq hs => by
    refine .tup ?_ (DtAll.same e hs)
    rcases hq with (h | ⟨o, h⟩) | h
    · exact .inl (.inl (e _ _ h))
    · exact .inl (.inr ⟨o, e _ _ h⟩)
    · exact .inr h
theorem DtAll.same {K : PySem.W.Frag} {H H' : Hp} (e : Same H H') : ∀ {xs : List V} {ds : List PyData}, DtAll K H xs ds → DtAll K H' xs ds
  | _, _, .nil => .nil
  | _, _, .cons h1 h2 => .cons (Dt.same e h1) (DtAll.same e h2)
end
end
end L2


namespace L2
open PySem PySem.Spec PyProof.Rows
section
variable {X : Cx} {pins : List (Addr × Obj)} {σ : St} {H : Hp} {s : Shared}
/-- records of ours (an iterator's) have turned, all else is kept -/
theorem Inv.moved {ch : List Addr} {h' : Heap} {t' : Nat} (I : Inv X pins σ H s) (hch : ∀ b ∈ ch, FpOk X pins H b) (hk : ∀ b o, b ∉ ch → s.heap.get? b = some o → h'.get? b = some o) : Inv X pins σ H { s with heap := h', toks := t' } := by
  have nt : ∀ {b : Addr} {u : HO}, H b = some u → b ∉ ch := fun e hb => by rw [(hch _ hb).1] at e; cases e
  refine I.step (g' := s.gens) (d' := s.drawn) (ch := ch) (fun b hb => ⟨(hch b hb).2.2.2.1, (hch b hb).2.1, (hch b hb).2.2.2.2.1, (hch b hb).2.2.2.2.2⟩) (fun b o _ _ hc e _ => hk b o hc e) (fun b o _ _ hc e _ => ⟨o.slots, hk b o hc e⟩) (fun _ _ _ _ n => n)
    (fun b o hc e => ⟨o, hk b o hc e⟩) (fun _ _ e => e) (fun _ _ _ e => e) (fun b ps e => ⟨#[], by rw [e]; simp⟩) (fun m hm => ?_) (fun b u e => ?_) I.bare
  · obtain ⟨o, es, ep, ho, r⟩ := hm
    exact ⟨o, es, ep, hk _ o (fun hb => (hch _ hb).2.1 rfl) ho, r⟩
  · exact (I.hok b u e).stay (fun c v hc q => hk c v (by rcases hc with z | z <;> first | (rw [z]; exact nt e) | exact nt z) q) (fun _ q => q) fun _ _ q => q
/-- .. and a new pair has come -/
theorem Inv.pairOut {ch : List Addr} {T : Addr} {x y : V} {u v : Value} {h' : Heap} {t' : Nat} (I : Inv X pins σ H s) (hch : ∀ b ∈ ch, FpOk X pins H b) (hT : s.heap.objs.size ≤ T)
    (hk : ∀ b o, b ∉ ch → s.heap.get? b = some o → h'.get? b = some o) (ht : IsTup h' T #[u, v]) (ru : RelV x u) (rv : RelV y v) : Inv X pins σ (upd H T (.tup [x, y])) { s with heap := h', toks := t' } := by
  have nt : ∀ {b : Addr} {u : HO}, H b = some u → b ∉ ch := fun e hb => by rw [(hch _ hb).1] at e; cases e
  have fT : H T = none := I.hok.fresh hT
  have neT : ∀ {b : Addr} {o : Obj}, s.heap.get? b = some o → b ≠ T := fun e => Nat.ne_of_lt (Nat.lt_of_lt_of_le (Heap.lt_size e) hT)
  have neH : ∀ {b : Addr} {u : HO}, H b = some u → b ≠ T := fun e z => by rw [z, fT] at e; cases e
  refine I.step (g' := s.gens) (d' := s.drawn) (ch := ch) (fun b hb => ⟨(hch b hb).2.2.2.1, (hch b hb).2.1, (hch b hb).2.2.2.2.1, (hch b hb).2.2.2.2.2⟩) (fun b o _ _ hc e _ => hk b o hc e) (fun b o _ _ hc e _ => ⟨o.slots, hk b o hc e⟩) (fun b o _ e n => by rw [upd_ne (neT e)]; exact n)
    (fun b o hc e => ⟨o, hk b o hc e⟩) (fun b xs e => by rw [upd_ne (neH e)]; exact e) (fun b o xs e => by rw [upd_ne (neH e)]; exact e) (fun b ps e => ⟨#[], by rw [upd_ne (neH e), e]; simp⟩) (fun m hm => ?_) (fun b o e => ?_) I.bare
  · obtain ⟨o, es, ep, ho, r⟩ := hm
    exact ⟨o, es, ep, hk _ o (fun hb => (hch _ hb).2.1 rfl) ho, r⟩
  · by_cases hb : b = T
    · subst hb
      rw [upd_same] at e
      cases e
      exact ⟨(by show 2 ≤ sizeLine; decide), [u, v], .cons ru (.cons rv .nil), ht⟩
    · rw [upd_ne hb] at e
      exact (I.hok b o e).stay (fun c w' hc q => hk c w' (by rcases hc with z | z <;> first | (rw [z]; exact nt e) | exact nt z) q) (fun c q => by rw [upd_ne (neH q)]; exact q) fun c xs q => by rw [upd_ne (neH q)]; exact q
end

/-! ### zip of two lists, a pair as the target -/
/-- the lists at a and b, as they stand at each turn -/
def Itz (a b : Addr) : It :=
  ⟨fun i H => ∃ xs ys x y, H a = some (.lst xs) ∧ H b = some (.lst ys) ∧ xs[i]? = some x ∧ ys[i]? = some y,
   fun i H v H' => ∃ t xs ys x y, H t = none ∧ H a = some (.lst xs) ∧ H b = some (.lst ys) ∧ xs[i]? = some x ∧ ys[i]? = some y ∧ v = .ref t ∧ H' = upd H t (.tup [x, y]),
   fun i H => ∃ xs ys, H a = some (.lst xs) ∧ H b = some (.lst ys) ∧ (xs.length ≤ i ∨ ys.length ≤ i)⟩
def ZipSt (z TI TO i1 i2 l1 l2 : Addr) (i : Nat) (h : Heap) : Prop := IsZip h z TI TO .none ∧ IsPair h TI (.ref i1) (.ref i2) ∧ (∃ a b, IsPair h TO a b) ∧ h.IsListIter i1 l1 i ∧ h.IsListIter i2 l2 i
structure ZipDiff (z TI TO i1 i2 : Addr) : Prop where
  TIz : TI ≠ z
  TOz : TO ≠ z
  i1z : i1 ≠ z
  i2z : i2 ≠ z
  TITO : TI ≠ TO
  TIi1 : TI ≠ i1
  TIi2 : TI ≠ i2
  TOi1 : TO ≠ i1
  TOi2 : TO ≠ i2
  i12 : i1 ≠ i2
theorem turn_zip {P : Program} {w : World} {K : PySem.W.Frag} {es : List Expr} {kt : Nat} {tp : Pos} (z TI TO i1 i2 l1 l2 : Addr) (D : ZipDiff z TI TO i1 i2) :
    Turn P w K (.Tuple es kt tp) (Itz l1 l2) [z, TI, TO, i1, i2] z (ZipSt z TI TO i1 i2 l1 l2) where
  mem := by simp
  obj := fun i h st b hb => by
    obtain ⟨hz, hTI, ⟨a, c, hTO⟩, ⟨o1, e1, _, d1⟩, ⟨o2, e2, _, d2⟩⟩ := st
    simp only [List.mem_cons, List.not_mem_nil, or_false] at hb
    rcases hb with rfl | rfl | rfl | rfl | rfl
    · exact ⟨_, hz, fun v q => by cases q⟩
    · exact ⟨_, hTI, fun v q => by cases q⟩
    · exact ⟨_, hTO, fun v q => by cases q⟩
    · exact ⟨_, e1, fun v q => by rw [d1] at q; cases q⟩
    · exact ⟨_, e2, fun v q => by rw [d2] at q; cases q⟩
  keep := fun i h h' st k => by
    obtain ⟨hz, hTI, ⟨a, c, hTO⟩, h1, h2⟩ := st
    exact ⟨k z (by simp) _ hz, k TI (by simp) _ hTI, ⟨a, c, k TO (by simp) _ hTO⟩, h1.at fun o e => k i1 (by simp) o e, h2.at fun o e => k i2 (by simp) o e⟩
  item := by
    intro X hP hw hK hc i pins s σ H E I hf st hg
    subst hP hw hK
    obtain ⟨xs, ys, x, y, ha, hb, hx, hy⟩ := hg
    obtain ⟨hz, hTI, ⟨a0, b0, hTO⟩, h1, h2⟩ := st
    obtain ⟨ia, na, ra, ea, _⟩ := I.lst ha
    obtain ⟨ib, nb, rb, eb, _⟩ := I.lst hb
    have nf : ∀ b ∈ [z, TI, TO, i1, i2], H b = none := fun b hb => (hf b hb).1
    have ne1 : ∀ b ∈ [z, TI, TO, i1, i2], l1 ≠ b := fun b hb e => by rw [e, nf b hb] at ha; cases ha
    have ne2 : ∀ b ∈ [z, TI, TO, i1, i2], l2 ≠ b := fun b hb' e => by rw [e, nf b hb'] at hb; cases hb
    have Z : ZipApart z TI TO i1 i2 l1 l2 := ⟨D.TIz, D.TOz, D.i1z, D.i2z, D.TITO, D.TIi1, D.TIi2, D.TOi1, D.TOi2, D.i12, ne1 z (by simp), ne1 TO (by simp), ne1 i1 (by simp), ne1 i2 (by simp), ne2 z (by simp), ne2 TO (by simp), ne2 i1 (by simp), ne2 i2 (by simp)⟩
    obtain ⟨u, hu, ru⟩ := ra.get hx
    obtain ⟨v, hv, rv⟩ := rb.get hy
    refine wpAny_pyNext_zip_item Z hz hTI hTO h1 h2 (xs := ia.toArray) (ys := ib.toArray) ⟨_, ea, rfl, _, rfl⟩ ⟨_, eb, rfl, _, rfl⟩ (x := u) (y := v) (by simpa using hu) (by simpa using hv) fun h' a1 a2 a3 a4 a5 a6 hk => ?_
    refine ⟨_, rfl, wpAny_letOwnedTupleGo_zip a1 fun h2' hz' hs' => ?_⟩
    have zT : s.heap.objs.size ≠ z := Nat.ne_of_gt (Heap.lt_size hz)
    refine ⟨.ref s.heap.objs.size, upd H s.heap.objs.size (.tup [x, y]), ?_, rfl, ⟨_, xs, ys, x, y, I.hok.fresh (Nat.le_refl _), ha, hb, hx, hy, rfl, rfl⟩, ?_, fun b hb' => ?_⟩
    · refine I.pairOut (t' := s.toks) (ch := [z, TO, i1, i2]) (u := u) (v := v) (fun b hb' => hf b (by simp at hb' ⊢; rcases hb' with e | e | e | e <;> simp [e])) (Nat.le_refl _) (fun b o hb' e => ?_) ⟨_, hs'.extBut _ _ zT a5, rfl, _, rfl⟩ ru rv
      simp only [List.mem_cons, List.not_mem_nil, or_false, not_or] at hb'
      exact hs'.extBut b o hb'.1 (hk b o hb'.1 hb'.2.1 hb'.2.2.1 hb'.2.2.2 e)
    · exact ⟨hz', hs'.extBut _ _ D.TIz (hk _ _ D.TIz D.TITO D.TIi1 D.TIi2 hTI), ⟨_, _, hs'.extBut _ _ D.TOz a2⟩, a3.extBut hs'.extBut D.i1z, a4.extBut hs'.extBut D.i2z⟩
    · rw [upd_ne]
      · exact nf b hb'
      · have hlt : ∃ o, s.heap.get? b = some o := by
          obtain ⟨o1, e1, _⟩ := h1
          obtain ⟨o2, e2, _⟩ := h2
          simp only [List.mem_cons, List.not_mem_nil, or_false] at hb'
          rcases hb' with rfl | rfl | rfl | rfl | rfl
          · exact ⟨_, hz⟩
          · exact ⟨_, hTI⟩
          · exact ⟨_, hTO⟩
          · exact ⟨_, e1⟩
          · exact ⟨_, e2⟩
        obtain ⟨o, e⟩ := hlt
        exact Nat.ne_of_lt (Heap.lt_size e)
  done := by
    intro X hP hw hK hc i pins s σ H E I hf st hg
    subst hP hw hK
    obtain ⟨xs, ys, ha, hb, hl⟩ := hg
    obtain ⟨hz, hTI, ⟨a0, b0, hTO⟩, h1, h2⟩ := st
    obtain ⟨ia, na, ra, ea, _⟩ := I.lst ha
    obtain ⟨ib, nb, rb, eb, _⟩ := I.lst hb
    have nf : ∀ b ∈ [z, TI, TO, i1, i2], H b = none := fun b hb => (hf b hb).1
    have ne1 : ∀ b ∈ [z, TI, TO, i1, i2], l1 ≠ b := fun b hb e => by rw [e, nf b hb] at ha; cases ha
    have ne2 : ∀ b ∈ [z, TI, TO, i1, i2], l2 ≠ b := fun b hb' e => by rw [e, nf b hb'] at hb; cases hb
    have Z : ZipApart z TI TO i1 i2 l1 l2 := ⟨D.TIz, D.TOz, D.i1z, D.i2z, D.TITO, D.TIi1, D.TIi2, D.TOi1, D.TOi2, D.i12, ne1 z (by simp), ne1 TO (by simp), ne1 i1 (by simp), ne1 i2 (by simp), ne2 z (by simp), ne2 TO (by simp), ne2 i1 (by simp), ne2 i2 (by simp)⟩
    have la := ra.length
    have lb := rb.length
    refine wpAny_pyNext_zip_end (I.ok.hd hc) Z hz hTI hTO h1 h2 (xs := ia.toArray) (ys := ib.toArray) ⟨_, ea, rfl, _, rfl⟩ ⟨_, eb, rfl, _, rfl⟩ ?_ fun h' hk => ⟨rfl, I.moved (t' := s.toks) (ch := [z, TO, i1, i2]) (fun b hb' => hf b (by simp at hb' ⊢; rcases hb' with e | e | e | e <;> simp [e])) fun b o hb' e => ?_⟩
    · rcases hl with hl | hl
      · left; simp; omega
      · right; simp; omega
    · simp only [List.mem_cons, List.not_mem_nil, or_false, not_or] at hb'
      exact hk b o hb'.1 hb'.2.1 hb'.2.2.1 hb'.2.2.2 e
  self := fun _ _ _ _ _ st h => wpAny_pyIter_zip st.1 h
section
variable {X : Cx}
def iZip (ta : TA) : TI := fun σ H R => ta σ H fun vs H1 => ∃ (p q : Addr) (xs ys : List V), vs = [.ref p, .ref q] ∧ H1 p = some (.lst xs) ∧ H1 q = some (.lst ys) ∧ R (Itz p q) H1
theorem pi_zip {a b : Expr} {ta : TA} {es : List Expr} {kt : Nat} {tp p pos : Pos} (hg : Gl X "zip") (hm : X.mg "zip" = none) (ha : PA X [a, b] ta) (hs : starEach [a, b] X.env = [(false, eval a X.env), (false, eval b X.env)] := by rfl) (hs2 : starEach [b] X.env = [(false, eval b X.env)] := by rfl) :
    PI X (.Tuple es kt tp) (.Call (.Name "zip" p) [a, b] [] pos) (iZip ta) := by
  intro pins s σ H R I h
  refine Call_ (ld_blt I hg hm (by decide +kernel : bootBuiltins "zip" = some (.type "zip")) (PyProof.Rows.callWith_type1 (thn (ha pos pins s σ H _ I h) fun us s1 ⟨vs, H1, I1, r1, q1⟩ => ?_) (by rw [hs, hs2]) (by rw [hs2]; rfl)))
  obtain ⟨l1, l2, xs, ys, e, h1, h2, q⟩ := q1
  subst e
  obtain ⟨u, w', rfl, ru, rw'⟩ := vals2 r1
  cases ru
  cases rw'
  obtain ⟨ia, na, ra, ea, _⟩ := I1.lst h1
  obtain ⟨ib, nb, rb, eb, _⟩ := I1.lst h2
  refine call_zip_2 (xs := ia.toArray) (ys := ib.toArray) ⟨_, ea, rfl, _, rfl⟩ ⟨_, eb, rfl, _, rfl⟩ fun h' hz hTI hTO hi1 hi2 hsz hk => wpAny_pyIter_zip hz ?_
  have I2 : Inv X pins σ H1 { s1 with heap := h' } := I1.kept (t' := s1.toks) hk
  have lt : ∀ i j : Nat, i < j → s1.heap.objs.size + i ≠ s1.heap.objs.size + j := fun i j h e => by omega
  have D : ZipDiff (s1.heap.objs.size + 4) (s1.heap.objs.size + 2) (s1.heap.objs.size + 3) s1.heap.objs.size (s1.heap.objs.size + 1) :=
    ⟨lt 2 4 (by decide), lt 3 4 (by decide), lt 0 4 (by decide), lt 1 4 (by decide), lt 2 3 (by decide), (lt 0 2 (by decide)).symm, (lt 1 2 (by decide)).symm, (lt 0 3 (by decide)).symm, (lt 1 3 (by decide)).symm, lt 0 1 (by decide)⟩
  refine ⟨_, _, _, _, H1, rfl, I2, turn_zip _ _ _ _ _ l1 l2 D, ⟨hz, hTI, ⟨_, _, hTO⟩, hi1, hi2⟩, fun b hb => ?_, q⟩
  have hge : s1.heap.objs.size ≤ b := by
    simp only [List.mem_cons, List.not_mem_nil, or_false] at hb
    rcases hb with rfl | rfl | rfl | rfl | rfl <;> omega
  exact I1.fpOk hge (I1.hok.fresh hge)
end

/-! ### enumerate of a list, a pair as the target -/
def Ite (a : Addr) : It :=
  ⟨fun i H => ∃ xs x, H a = some (.lst xs) ∧ xs[i]? = some x,
   fun i H v H' => ∃ t xs x, H t = none ∧ H a = some (.lst xs) ∧ xs[i]? = some x ∧ v = .ref t ∧ H' = upd H t (.tup [.int i, x]),
   fun i H => ∃ xs, H a = some (.lst xs) ∧ xs.length ≤ i⟩
def EnSt (e it l : Addr) (i : Nat) (h : Heap) : Prop := (∃ old, IsEnum h e it i old) ∧ h.IsListIter it l i
section
variable {X : Cx}
def iEnum (ta : TA) : TI := fun σ H R => ta σ H fun vs H1 => ∃ (p : Addr) (xs : List V), vs = [.ref p] ∧ H1 p = some (.lst xs) ∧ R (Ite p) H1
/-! ### slices with a step -/
/-- the items of xs[lo:hi:st] -/
def pickV (xs : List V) (lo hi st : Option Int) : List V :=
  (sliceRange (sliceBounds lo hi st xs.length).1 (sliceBounds lo hi st xs.length).2.1 (sliceBounds lo hi st xs.length).2.2).filterMap (xs[·]?)
theorem Vals.places : ∀ {xs : List V} {us : List Value}, Vals xs us → ∀ js : List Nat, Vals (js.filterMap (xs[·]?)) (js.filterMap (us[·]?))
  | _, _, _, [] => .nil
  | xs, us, h, j :: js => by
    have ih := Vals.places h js
    cases hn : xs[j]? with
    | some x =>
      obtain ⟨u, hu, r⟩ := h.get hn
      simp only [List.filterMap_cons, hn, hu]
      exact .cons r ih
    | none =>
      have hv := h.none_of hn
      simp only [List.filterMap_cons, hn, hv]
      exact ih
def tSl3 (K : PySem.W.Frag) (te : TE) (tl th ts : TO) : TE := fun σ H Q => te σ H fun x H1 => tl σ H1 fun l H2 => th σ H2 fun u H3 => ts σ H3 fun k H4 => k ≠ some 0 ∧ ∃ a xs, x = .ref a ∧ SqL K H4 a xs ∧ ∀ p, H4 p = none → Q (.ref p) (upd H4 p (.lst (pickV xs l u k)))
theorem pe_slice3 {e : Expr} {te : TE} {lo hi : Option Expr} {st : Expr} {tl th ts : TO} {p2 pos : Pos} (he : PE X e te) (hl : PO X lo tl) (hu : PO X hi th) (hs : PO X (some st) ts) : PE X (.Subscript e (.Slice lo hi (some st) p2) pos) (tSl3 X.K te tl th ts) := by
  intro pins s σ H Q I h
  refine Subscript_ (thn (he pins s σ H _ I h) fun v s1 ⟨x, H1, I1, r1, q1⟩ => ?_)
  refine wpAny_Slice (thn (hl pins s1 σ H1 _ I1 q1) fun vl s2 ⟨l, H2, I2, pl, q2⟩ => thn (hu pins s2 σ H2 _ I2 q2) fun vu s3 ⟨u, H3, I3, pu, q3⟩ => thn (hs pins s3 σ H3 _ I3 q3) fun vk s4 ⟨k, H4, I4, pk, q4⟩ => ?_)
  obtain ⟨k0, a, xs, rfl, hx, q⟩ := q4
  cases r1
  have I5 : Inv X pins σ H4 { s4 with heap := s4.heap.push { cls := .type "slice", data := .fields #[vl, vu, vk] } } := I4.kept (t' := s4.toks) fun b ob q => Heap.get?_push_of_some _ q
  obtain ⟨its, r, ht, hz⟩ := I5.list hx
  have hlen := r.length
  show wpAny (model X.prog X.w) X.A (subscriptTail e (.Slice lo hi (some st) p2) (.ref a) (.ref s4.heap.objs.size)) (EP X pins σ Q) X.xe { s4 with heap := s4.heap.push { cls := .type "slice", data := .fields #[vl, vu, vk] } }
  refine tail_any (ops := [.ref a, .ref s4.heap.objs.size]) ht.isList.typeIs slot_list_getitem.lookup (wpAny_getItem_list_slice ht.isList (Heap.IsSliceOf.new ..) pl pu pk k0 ?_ (by rw [List.size_toArray] <;> omega)) (by with_unfolding_all rfl)
  refine ⟨.ref _, _, I5.laid (t' := s4.toks) (o := .lst (pickV xs l u k)) (fun b ob q => Heap.get?_push_of_some _ q) (Nat.le_refl _) ?_, rfl, q _ (I5.hok.fresh (Nat.le_refl _))⟩
  have rp : Vals (pickV xs l u k) (slicePick its.toArray l u k).toList := by
    have e : (slicePick its.toArray l u k).toList = (sliceRange (sliceBounds l u k xs.length).1 (sliceBounds l u k xs.length).2.1 (sliceBounds l u k xs.length).2.2).filterMap (its[·]?) := by
      simp [slicePick, hlen]
    rw [e]
    exact r.places _
  have hsz := slicePick_size_le its.toArray l u k
  have h2 := rp.length
  simp only [Array.length_toList, List.size_toArray] at h2 hsz
  exact ⟨by omega, _, 0, rp, Heap.get?_push_size _ rfl⟩
end
end L2


namespace L2
open PySem PySem.Spec PyProof.Rows
/-! ### zip whose pairs are kept: list(zip(xs, ys)) -/
/-- the zip object behind its first pair, which stands at T -/
abbrev IsZipF (h : Heap) (z TI TO T : Addr) (f : Bool) : Prop := h.get? z = some { cls := .type "zip", dict := none, data := .fields #[rawInt T, .bool f, .bool false, .ref TI, .ref TO], slots := #[] }
section
variable {prog : Program} {w : World} {A : Around} {E : Value → Shared → Prop} {s : Shared}
theorem alive_run {M : Model} {a : Addr} {Q : Option Obj → Shared → Prop} (h : Q (s.heap.get? a) s) : wpAny M A (loadIfAlive a) Q E s := fun Γ p hΓ => by
  unfold loadIfAlive
  rw [Sem.wp_loadIfAlive]
  exact h
theorem free_no {z TI TO T : Addr} {f : Bool} {ob : Obj} {Q : Bool → Shared → Prop} (hzf : IsZipF s.heap z TI TO T f) (hT : s.heap.get? T = some ob) (h : ∀ h', IsZipF h' z TI TO T true → Heap.SameBut z s.heap h' → Q false { s with heap := h' }) :
    wpAny (model prog w) A (Builtin.SmallTypes.ownedTupleIsFree (.ref z)) Q E s := by
  unfold Builtin.SmallTypes.ownedTupleIsFree
  refine wpAny_bind (wpAny_field hzf rfl (x := rawInt T) rfl ?_)
  show wpAny _ _ (loadIfAlive ((T : Int).toNat) >>= _) _ _ _
  have eT : ((T : Nat) : Int).toNat = T := Int.toNat_natCast T
  rw [eT]
  refine wpAny_bind (alive_run ?_)
  rw [hT]
  show wpAny _ _ (field (.ref z) 1 >>= _) _ _ _
  refine wpAny_bind (wpAny_field hzf rfl (x := .bool f) rfl ?_)
  cases f with
  | true => exact wpAny_pure (h _ hzf (.refl ..))
  | false =>
    show wpAny _ _ (setField (.ref z) 1 (.bool true) >>= fun _ => pure false) _ _ _
    exact wpAny_bind (wpAny_setField_rec hzf (by simp) fun h' hz' hs' => wpAny_pure (h h' hz' hs'))
theorem zip_more {z TI TO i1 i2 l1 l2 T : Addr} {f : Bool} {ob : Obj} {k1 k2 : Nat} {xs ys : Array Value} {x y : Value} {Q : Value → Shared → Prop} (D : ZipApart z TI TO i1 i2 l1 l2) (hzf : IsZipF s.heap z TI TO T f)
    (hTI : IsPair s.heap TI (.ref i1) (.ref i2)) (hT : s.heap.get? T = some ob) (h1 : s.heap.IsListIter i1 l1 k1) (h2 : s.heap.IsListIter i2 l2 k2) (hl1 : s.heap.IsList l1 xs) (hl2 : s.heap.IsList l2 ys) (hx : xs[k1]? = some x) (hy : ys[k2]? = some y)
    (hQ : ∀ h', IsZipF h' z TI TO T true → h'.IsListIter i1 l1 (k1 + 1) → h'.IsListIter i2 l2 (k2 + 1) → IsPair h' s.heap.objs.size x y → (∀ c o, c ≠ z → c ≠ i1 → c ≠ i2 → s.heap.get? c = some o → h'.get? c = some o) → Q (.ref s.heap.objs.size) { s with heap := h' }) :
    wpAny (model prog w) A (Builtin.«zip.__next__» ⟨[.ref z], []⟩) (fun fin s' => ∃ v, fin = .done (.ret v) ∧ Q v s') E s := by
  show wpAny _ _ (field (.ref z) 2 >>= fun a => _) _ _ _
  refine wpAny_bind (wpAny_field hzf rfl (x := .bool false) rfl ?_)
  show wpAny _ _ (field (.ref z) 3 >>= fun a => _) _ _ _
  refine wpAny_bind (wpAny_field hzf rfl (x := .ref TI) rfl (wpAny_bind (wpAny_seqItems hTI rfl ?_)))
  show wpAny _ _ (Builtin.SmallTypes.ownedTupleIsFree (.ref z) >>= fun a => _) _ _ _
  refine wpAny_bind (free_no hzf hT fun g1 hz1 sb1 => ?_)
  simp only [Bool.false_eq_true, if_false]
  have ht1 : g1.IsListIter i1 l1 k1 := h1.extBut sb1.extBut D.i1z
  have ht2 : g1.IsListIter i2 l2 k2 := h2.extBut sb1.extBut D.i2z
  have hL1 : g1.IsList l1 xs := hl1.extBut sb1.extBut D.l1z
  have hL2 : g1.IsList l2 ys := hl2.extBut sb1.extBut D.l2z
  rw [List.forIn_toArray]
  refine wpAny_bind ?_
  rw [List.forIn_cons]
  refine wpAny_bind (wpAny_bind (wpAny_holding ?_))
  show wpAny _ _ (Builtin.SmallTypes.nextOf (.ref i1) >>= fun v => pure (some v)) _ _ _
  refine wpAny_bind (wpAny_nextOf_list_item ht1 hL1 hx fun g2 hi1 sb2 => wpAny_pure (wpAny_pure ?_))
  show wpAny _ _ (forIn [Value.ref i2] _ _) _ _ _
  rw [List.forIn_cons]
  refine wpAny_bind (wpAny_bind (wpAny_holding ?_))
  show wpAny _ _ (Builtin.SmallTypes.nextOf (.ref i2) >>= fun v => pure (some v)) _ _ _
  refine wpAny_bind (wpAny_nextOf_list_item (ht2.extBut sb2.extBut D.i12.symm) (hL2.extBut sb2.extBut D.l2i1) hy fun g3 hi2 sb3 => wpAny_pure (wpAny_pure ?_))
  show wpAny _ _ (forIn ([] : List Value) _ _) _ _ _
  rw [List.forIn_nil]
  refine wpAny_pure ?_
  show wpAny _ _ (newTuple [x, y] >>= fun t => ret t) _ _ _
  refine wpAny_bind (wpAny_newTuple (wpAny_pure ⟨_, rfl, ?_⟩))
  have hsz : g3.objs.size = s.heap.objs.size := by rw [sb3.1, sb2.1, sb1.1]
  have hz3 : IsZipF g3 z TI TO T true := sb3.extBut _ _ D.i2z.symm (sb2.extBut _ _ D.i1z.symm hz1)
  have hq := hQ (g3.push { cls := .type "tuple", data := .seq #[x, y] }) (Heap.get?_push_of_some _ hz3) ((hi1.extBut sb3.extBut D.i12).at fun o e => Heap.get?_push_of_some _ e) (hi2.at fun o e => Heap.get?_push_of_some _ e)
    (by rw [← hsz]; exact Heap.get?_push_size _ rfl) fun c o c1 c2 c3 e => Heap.get?_push_of_some _ (sb3.extBut _ _ c3 (sb2.extBut _ _ c2 (sb1.extBut _ _ c1 e)))
  rw [← hsz] at hq
  exact hq
theorem next_more {z TI TO i1 i2 l1 l2 T : Addr} {f : Bool} {ob : Obj} {k1 k2 : Nat} {xs ys : Array Value} {x y : Value} {Q : Option Value → Shared → Prop} (D : ZipApart z TI TO i1 i2 l1 l2) (hzf : IsZipF s.heap z TI TO T f)
    (hTI : IsPair s.heap TI (.ref i1) (.ref i2)) (hT : s.heap.get? T = some ob) (h1 : s.heap.IsListIter i1 l1 k1) (h2 : s.heap.IsListIter i2 l2 k2) (hl1 : s.heap.IsList l1 xs) (hl2 : s.heap.IsList l2 ys) (hx : xs[k1]? = some x) (hy : ys[k2]? = some y)
    (hQ : ∀ h', IsZipF h' z TI TO T true → h'.IsListIter i1 l1 (k1 + 1) → h'.IsListIter i2 l2 (k2 + 1) → IsPair h' s.heap.objs.size x y → (∀ c o, c ≠ z → c ≠ i1 → c ≠ i2 → s.heap.get? c = some o → h'.get? c = some o) → Q (some (.ref s.heap.objs.size)) { s with heap := h' }) :
    wpAny (model prog w) A (pyNext (.ref z)) Q E s := by
  have hTy : s.TypeIs (.ref z) "zip" := ⟨_, hzf, rfl⟩
  unfold pyNext
  exact wpAny_bind (wpAny_attempt (wpAny_callSpecial?_slot (name := Str.ofString "__next__") hTy F.slot_zip_next
    (wpAny_call_entry F.slot_zip_next hTy F.entry_zip_next (zip_more D hzf hTI hT h1 h2 hl1 hl2 hx hy fun h' a1 a2 a3 a4 a5 => wpAny_pure (hQ h' a1 a2 a3 a4 a5)) (F.args_zip_next_1 _))))
/-- no pair more: one of the lists is through -/
theorem zip_over {z TI TO i1 i2 l1 l2 T : Addr} {f : Bool} {ob : Obj} {k1 k2 : Nat} {xs ys : Array Value} {Q : Fin → Shared → Prop} (hh : A.handled = none) (D : ZipApart z TI TO i1 i2 l1 l2) (hzf : IsZipF s.heap z TI TO T f)
    (hTI : IsPair s.heap TI (.ref i1) (.ref i2)) (hT : s.heap.get? T = some ob) (h1 : s.heap.IsListIter i1 l1 k1) (h2 : s.heap.IsListIter i2 l2 k2) (hl1 : s.heap.IsList l1 xs) (hl2 : s.heap.IsList l2 ys) (hend : xs[k1]? = none ∨ ys[k2]? = none)
    (hE : ∀ h' e, (∀ c o, c ≠ z → c ≠ i1 → c ≠ i2 → s.heap.get? c = some o → h'.get? c = some o) → (∃ o, h'.get? e = some o ∧ o.cls = .type "StopIteration") → E (.ref e) { s with heap := h' }) :
    wpAny (model prog w) A (Builtin.«zip.__next__» ⟨[.ref z], []⟩) Q E s := by
  show wpAny _ _ (field (.ref z) 2 >>= fun a => _) _ _ _
  refine wpAny_bind (wpAny_field hzf rfl (x := .bool false) rfl ?_)
  show wpAny _ _ (field (.ref z) 3 >>= fun a => _) _ _ _
  refine wpAny_bind (wpAny_field hzf rfl (x := .ref TI) rfl (wpAny_bind (wpAny_seqItems hTI rfl ?_)))
  show wpAny _ _ (Builtin.SmallTypes.ownedTupleIsFree (.ref z) >>= fun a => _) _ _ _
  refine wpAny_bind (free_no hzf hT fun g1 hz1 sb1 => ?_)
  simp only [Bool.false_eq_true, if_false]
  have ht1 : g1.IsListIter i1 l1 k1 := h1.extBut sb1.extBut D.i1z
  have ht2 : g1.IsListIter i2 l2 k2 := h2.extBut sb1.extBut D.i2z
  have hL1 : g1.IsList l1 xs := hl1.extBut sb1.extBut D.l1z
  have hL2 : g1.IsList l2 ys := hl2.extBut sb1.extBut D.l2z
  rw [List.forIn_toArray]
  refine wpAny_bind ?_
  rw [List.forIn_cons]
  refine wpAny_bind (wpAny_bind (wpAny_holding ?_))
  show wpAny _ _ (Builtin.SmallTypes.nextOf (.ref i1) >>= fun v => pure (some v)) _ _ _
  cases hx : xs[k1]? with
  | none =>
    exact wpAny_bind (wpAny_nextOf_list_end hh ht1 hL1 hx fun h' e hk he => hE h' e (fun c o c1 c2 c3 q => hk c o c2 (sb1.extBut _ _ c1 q)) he)
  | some x =>
    have hy : ys[k2]? = none := by rcases hend with q | q; · rw [hx] at q; cases q
                                   exact q
    refine wpAny_bind (wpAny_nextOf_list_item ht1 hL1 hx fun g2 hi1 sb2 => wpAny_pure (wpAny_pure ?_))
    show wpAny _ _ (forIn [Value.ref i2] _ _) _ _ _
    rw [List.forIn_cons]
    refine wpAny_bind (wpAny_bind (wpAny_holding ?_))
    show wpAny _ _ (Builtin.SmallTypes.nextOf (.ref i2) >>= fun v => pure (some v)) _ _ _
    exact wpAny_bind (wpAny_nextOf_list_end hh (ht2.extBut sb2.extBut D.i12.symm) (hL2.extBut sb2.extBut D.l2i1) hy fun h' e hk he => hE h' e (fun c o c1 c2 c3 q => hk c o c3 (sb2.extBut _ _ c2 (sb1.extBut _ _ c1 q))) he)
theorem next_over {z TI TO i1 i2 l1 l2 T : Addr} {f : Bool} {ob : Obj} {k1 k2 : Nat} {xs ys : Array Value} {Q : Option Value → Shared → Prop} (hh : A.handled = none) (D : ZipApart z TI TO i1 i2 l1 l2) (hzf : IsZipF s.heap z TI TO T f)
    (hTI : IsPair s.heap TI (.ref i1) (.ref i2)) (hT : s.heap.get? T = some ob) (h1 : s.heap.IsListIter i1 l1 k1) (h2 : s.heap.IsListIter i2 l2 k2) (hl1 : s.heap.IsList l1 xs) (hl2 : s.heap.IsList l2 ys) (hend : xs[k1]? = none ∨ ys[k2]? = none)
    (hQ : ∀ h', (∀ c o, c ≠ z → c ≠ i1 → c ≠ i2 → s.heap.get? c = some o → h'.get? c = some o) → Q none { s with heap := h' }) : wpAny (model prog w) A (pyNext (.ref z)) Q E s := by
  have hTy : s.TypeIs (.ref z) "zip" := ⟨_, hzf, rfl⟩
  unfold pyNext
  refine wpAny_bind (wpAny_attempt (wpAny_callSpecial?_slot (name := Str.ofString "__next__") hTy F.slot_zip_next
    (wpAny_call_entry F.slot_zip_next hTy F.entry_zip_next (zip_over hh D hzf hTI hT h1 h2 hl1 hl2 hend fun h' e hk he => ?_) (F.args_zip_next_1 _))))
  obtain ⟨o, ho, hcl⟩ := he
  exact wpAny_bind (wpAny_isInstance (T := "StopIteration") (b := true) ⟨o, ho, hcl⟩ isSubtype_stop (wpAny_pure (hQ _ hk)))

/-- the loop of list.extend over any iterator, by an invariant J of the turn, what the list has, and the state -/
theorem ext_loop {R : Result → Shared → Prop} {I S : Addr} {res : Value} {n : Nat} (J : Nat → List Value → Shared → Prop) (hn : n < sizeLine) (hlen : ∀ i acc s, J i acc s → acc.length = i)
    (item : ∀ i acc s E, i < n → J i acc s → wpAny (model prog w) A.in1 (pyNext (.ref I)) (fun r s' => ∃ v c, r = some v ∧ s'.heap.get? S = some (lstObj acc c) ∧ ∀ h', Heap.SameBut S s'.heap h' → h'.get? S = some (lstObj (acc ++ [v]) (c + 1)) → J (i + 1) (acc ++ [v]) { s' with heap := h' }) E s)
    (done : ∀ acc s E, J n acc s → wpAny (model prog w) A.in1 (pyNext (.ref I)) (fun r s' => r = none ∧ R (.ok (.ret res)) s') E s) :
    ∀ (k i : Nat) (acc : List Value) (s : Shared), n - i = k → i ≤ n → J i acc s → codeAny (model prog w) A (.builtin "list.extend.loop" ⟨[.ref S, .ref I, res], []⟩) R s := by
  intro k
  induction k with
  | zero =>
    intro i acc s hk hi hJ
    obtain rfl : i = n := by omega
    refine codeAny_builtin F.entry_extend_loop ?_
    rw [Around.under_plainId F.plain_extend_loop _]
    show wpAny _ A.in1 (pyNext (.ref I) >>= fun r => _) _ _ s
    refine wpAny_bind (thn (done acc s _ hJ) fun r s' ⟨hr, q⟩ => ?_)
    subst hr
    exact wpAny_pure q
  | succ k ih =>
    intro i acc s hk hi hJ
    refine codeAny_builtin F.entry_extend_loop ?_
    rw [Around.under_plainId F.plain_extend_loop _]
    show wpAny _ A.in1 (pyNext (.ref I) >>= fun r => _) _ _ s
    refine wpAny_bind (thn (item i acc s _ (by omega) hJ) fun r s' ⟨v, c, hr, hS, q⟩ => ?_)
    subst hr
    have hl := hlen i acc s hJ
    show wpAny _ A.in1 (updateSeq S (·.push v) >>= fun r => _) _ _ _
    have eo : Obj.mapSeq (·.push v) (lstObj acc c) = lstObj (acc ++ [v]) (c + 1) := by
      show Obj.mapSeq (·.push v) { cls := .type "list", dict := none, data := .seq acc.toArray c, slots := #[] } = _
      rw [mapSeq_push, List.push_toArray]
    refine wpAny_bind (wpAny_updateSeq hS rfl (wpAny_pure ⟨plainId_quiet F.plain_extend_loop _, ih (i + 1) (acc ++ [v]) _ (by omega) (by omega) (q _ (Heap.SameBut.update ..) ?_)⟩) (by rw [List.size_toArray]; omega) (by show (acc.toArray.push v).size ≤ sizeLine + 1; rw [Array.size_push, List.size_toArray]; omega))
    rw [Heap.get?_update_self _ hS (by rw [eo]; rfl), eo]
end
end L2


namespace L2
open PySem PySem.Spec PyProof.Rows
theorem zip_nolen : typeLookup (.type "zip") "__len__" = pure none := by rw [typeLookup_type, builtinLookup_eq_fast]; kernel_rfl
theorem zip_nohint : typeLookup (.type "zip") "__length_hint__" = pure none := by rw [typeLookup_type, builtinLookup_eq_fast]; kernel_rfl
section
variable {X : Cx} {pins : List (Addr × Obj)} {σ : St} {H : Hp} {s : Shared}
/-- a list of ours that was not tracked so far -/
theorem Inv.adopt {S : Addr} {xs : List V} {us : List Value} {c : Nat} (I : Inv X pins σ H s) (fS : FpOk X pins H S) (hS : s.heap.get? S = some (lstObj us c)) (r : Vals xs us) (hz : xs.length ≤ sizeLine) : Inv X pins σ (upd H S (.lst xs)) s := by
  have neH : ∀ {b : Addr} {u : HO}, H b = some u → b ≠ S := fun e z => by rw [z, fS.1] at e; cases e
  refine ⟨I.ok, I.os, I.bare, ⟨I.base.keep, I.base.slot, fun b o e n hx => ?_, I.base.there, fun b ys e => ?_, fun b o u e => ?_, fun b ps e => ?_⟩, I.loc, I.cell, ?_, fun x d e => ?_, fun p hp => ?_, fun b u e => ?_, I.len⟩
  · have nb : b ≠ S := fun z => by
      rcases fS.2.2.2.1 with q | q
      · exact hx (by rw [z]; exact q)
      · exact absurd (Nat.lt_of_lt_of_le (Heap.lt_size e) (by rw [z]; exact q)) (Nat.lt_irrefl _)
    rw [upd_ne nb]
    exact I.base.free b o e n hx
  · have q := I.base.tups b ys e
    rw [upd_ne (neH q)]; exact q
  · have q := I.base.frzs b o u e
    rw [upd_ne (neH q)]; exact q
  · obtain ⟨m, q⟩ := I.base.tbls b ps e
    exact ⟨m, by rw [upd_ne (neH q)]; exact q⟩
  · rw [upd_ne (Ne.symm fS.2.1)]; exact I.free
  · rw [upd_ne (fS.2.2.2.2.1 x d e)]; exact I.freeC x d e
  · obtain ⟨e1, e2, e3⟩ := I.pin p hp
    exact ⟨e1, by rw [upd_ne (fS.2.2.2.2.2 p hp)]; exact e2, e3⟩
  · by_cases hb : b = S
    · subst hb
      rw [upd_same] at e
      cases e
      exact ⟨hz, us, c, r, hS⟩
    · rw [upd_ne hb] at e
      exact (I.hok b u e).stay (fun _ _ _ q => q) (fun d q => by rw [upd_ne (neH q)]; exact q) fun d ys q => by rw [upd_ne (neH q)]; exact q
theorem FpOk.heap {b : Addr} {H' : Hp} (f : FpOk X pins H b) (h : H' b = none) : FpOk X pins H' b := ⟨h, f.2⟩
theorem refs_vals : ∀ ts : List Addr, Vals (ts.map V.ref) (ts.map Value.ref)
  | [] => .nil
  | _ :: r => .cons rfl (refs_vals r)
/-- what list(zip(xs, ys)) gives -/
def ZipQ (H : Hp) (xs ys : List V) (Q : VK) : Prop := ∀ (S : Addr) (ts : List Addr) (H' : Hp), H S = none → Same H H' → H' S = some (.lst (ts.map V.ref)) → ts.length = min xs.length ys.length →
  (∀ (j : Nat) t x y, ts[j]? = some t → xs[j]? = some x → ys[j]? = some y → H' t = some (.tup [x, y])) → (∀ t ∈ ts, H t = none) → Q (.ref S) H'
theorem listzip_run {E : Value → Shared → Prop} {z TI TO i1 i2 l1 l2 : Addr} {xs ys : List V} {Q : VK} (D : ZipDiff z TI TO i1 i2) (I : Inv X pins σ H s) (hc : X.calm = true) (hf : ∀ b ∈ [z, TI, TO, i1, i2], FpOk X pins H b) (st : ZipSt z TI TO i1 i2 l1 l2 0 s.heap)
    (ha : H l1 = some (.lst xs)) (hb : H l2 = some (.lst ys)) (hn : min xs.length ys.length < sizeLine) (q : ZipQ H xs ys Q) : wpAny (model X.prog X.w) X.A (call (.type "list") [.ref z]) (EP X pins σ Q) E s := by
  obtain ⟨hz, hTI, ⟨a0, b0, hTO⟩, h1, h2⟩ := st
  obtain ⟨S, hSe⟩ : ∃ S, S = s.heap.objs.size := ⟨_, rfl⟩
  have fS : FpOk X pins H S := by rw [hSe]; exact I.fpOk (Nat.le_refl _) (I.hok.fresh (Nat.le_refl _))
  have inS : ∀ b ∈ [z, TI, TO, i1, i2], b < S := fun b hb' => by
    have hlt : ∃ o, s.heap.get? b = some o := by
      obtain ⟨o1, e1, _⟩ := h1
      obtain ⟨o2, e2, _⟩ := h2
      simp only [List.mem_cons, List.not_mem_nil, or_false] at hb'
      rcases hb' with rfl | rfl | rfl | rfl | rfl
      · exact ⟨_, hz⟩
      · exact ⟨_, hTI⟩
      · exact ⟨_, hTO⟩
      · exact ⟨_, e1⟩
      · exact ⟨_, e2⟩
    obtain ⟨o, e⟩ := hlt
    rw [hSe]; exact Heap.lt_size e
  have nS : ∀ b ∈ [z, TI, TO, i1, i2], b ≠ S := fun b hb' => Nat.ne_of_lt (inS b hb')
  have apart : ∀ H' : Hp, Same H H' → (∀ b ∈ [z, TI, TO, i1, i2], H' b = none) → ZipApart z TI TO i1 i2 l1 l2 := fun H' sm nf => by
    have ne1 : ∀ b ∈ [z, TI, TO, i1, i2], l1 ≠ b := fun b hb' e => by have := sm _ _ ha; rw [e, nf b hb'] at this; cases this
    have ne2 : ∀ b ∈ [z, TI, TO, i1, i2], l2 ≠ b := fun b hb' e => by have := sm _ _ hb; rw [e, nf b hb'] at this; cases this
    exact ⟨D.TIz, D.TOz, D.i1z, D.i2z, D.TITO, D.TIi1, D.TIi2, D.TOi1, D.TOi2, D.i12, ne1 z (by simp), ne1 TO (by simp), ne1 i1 (by simp), ne1 i2 (by simp), ne2 z (by simp), ne2 TO (by simp), ne2 i1 (by simp), ne2 i2 (by simp)⟩
  let J : Nat → List Value → Shared → Prop := fun i acc s' => ∃ (H' : Hp) (ts : List Addr) (c : Nat), Inv X pins σ H' s' ∧ acc = ts.map Value.ref ∧ ts.length = i ∧ H' S = none ∧ s'.heap.get? S = some (lstObj acc c) ∧ Same H H' ∧
    (∀ (j : Nat) t x y, ts[j]? = some t → xs[j]? = some x → ys[j]? = some y → H' t = some (.tup [x, y])) ∧ (∀ t ∈ ts, H' t ≠ none ∧ H t = none) ∧ (∀ b ∈ [z, TI, TO, i1, i2], H' b = none) ∧ (∃ o, s'.heap.get? TO = some o) ∧ IsPair s'.heap TI (.ref i1) (.ref i2) ∧ s'.heap.IsListIter i1 l1 i ∧ s'.heap.IsListIter i2 l2 i ∧
    ((ts = [] ∧ IsZip s'.heap z TI TO .none ∧ ∃ a b, IsPair s'.heap TO a b) ∨ ∃ t r f, ts = t :: r ∧ IsZipF s'.heap z TI TO t f)
  have alive : ∀ {H' : Hp} {s' : Shared} {t : Addr}, Inv X pins σ H' s' → H' t ≠ none → ∃ o, s'.heap.get? t = some o := fun {H' s' t} I' h => by
    cases e : H' t with
    | none => exact absurd e h
    | some o =>
      have lt := I'.hok.lt e
      have x := I'.hok t o e
      cases e2 : s'.heap.get? t with
      | some ob => exact ⟨ob, rfl⟩
      | none =>
        exfalso
        cases o with
        | lst _ => obtain ⟨_, _, _, _, e3⟩ := x; rw [e2] at e3; cases e3
        | tup _ => obtain ⟨_, _, _, p⟩ := x; obtain ⟨_, e3, _⟩ := p; rw [e2] at e3; cases e3
        | dK _ => obtain ⟨_, _, _, _, _, _, _, e3, _⟩ := x; rw [e2] at e3; cases e3
        | dT _ => obtain ⟨_, _, _, _, _, _, _, e3, _⟩ := x; rw [e2] at e3; cases e3
        | set _ _ => obtain ⟨_, _, _, _, e3, _⟩ := x; rw [e2] at e3; cases e3
        | ins _ _ _ => obtain ⟨_, _, _, e3, _⟩ := x; rw [e2] at e3; cases e3
        | own _ => obtain ⟨_, e3⟩ := x; rw [e2] at e3; cases e3
        | xd _ => obtain ⟨_, ⟨_, _, _, e3, _⟩, _⟩ := x; rw [e2] at e3; cases e3
        | rng _ _ => obtain ⟨_, _, _, e3⟩ := x; rw [e2] at e3; cases e3
        | frz _ _ => obtain ⟨e3, _⟩ := x; rw [e2] at e3; cases e3
        | tbl _ => have e3 : s'.heap.get? t = some _ := x; rw [e2] at e3; cases e3
        | met _ _ => have e3 : s'.heap.get? t = some _ := x; rw [e2] at e3; cases e3
        | ext _ => obtain ⟨_, ⟨_, e3⟩, _⟩ := x; rw [e2] at e3; cases e3
  have chOk : ∀ {H' : Hp}, (∀ b ∈ [z, TI, TO, i1, i2], H' b = none) → ∀ b ∈ [z, TO, i1, i2], FpOk X pins H' b := fun {H'} nf b hb' => by
    have hb2 : b ∈ [z, TI, TO, i1, i2] := by
      simp only [List.mem_cons, List.not_mem_nil, or_false] at hb' ⊢
      rcases hb' with e | e | e | e <;> simp [e]
    exact (hf b hb2).heap (nf b hb2)
  -- one turn: what a new pair at T makes of J
  have step : ∀ (i : Nat) (H' : Hp) (ts : List Addr) (c : Nat) (s' : Shared) (h' : Heap) (x y : V) (u v : Value), Inv X pins σ H' s' → ts.length = i → H' S = none → s'.heap.get? S = some (lstObj (ts.map Value.ref) c) → Same H H' →
      (∀ (j : Nat) t x y, ts[j]? = some t → xs[j]? = some x → ys[j]? = some y → H' t = some (.tup [x, y])) → (∀ t ∈ ts, H' t ≠ none ∧ H t = none) → (∀ b ∈ [z, TI, TO, i1, i2], H' b = none) → (∀ b ∈ [z, TI, TO, i1, i2], ∃ o, s'.heap.get? b = some o) → IsPair s'.heap TI (.ref i1) (.ref i2) → xs[i]? = some x → ys[i]? = some y → RelV x u → RelV y v →
      (∀ b o, b ∉ [z, TO, i1, i2] → s'.heap.get? b = some o → h'.get? b = some o) → (∃ o, h'.get? TO = some o) → IsPair h' s'.heap.objs.size u v → h'.IsListIter i1 l1 (i + 1) → h'.IsListIter i2 l2 (i + 1) → (∃ t r f, ts ++ [s'.heap.objs.size] = t :: r ∧ IsZipF h' z TI TO t f) →
      ∃ v' c', some (Value.ref s'.heap.objs.size) = some v' ∧ h'.get? S = some (lstObj (ts.map Value.ref) c') ∧ ∀ g, Heap.SameBut S h' g → g.get? S = some (lstObj (ts.map Value.ref ++ [v']) (c' + 1)) → J (i + 1) (ts.map Value.ref ++ [v']) { s' with heap := g } := by
    intro i H' ts c s' h' x y u v I' hl hHS hS sm hts hal nf ex hTI' hx hy ru rv hk hTOx hT hi1 hi2 hzz
    have Slt : S < s'.heap.objs.size := Heap.lt_size hS
    have ST : S ≠ s'.heap.objs.size := Nat.ne_of_lt Slt
    have fT : H' s'.heap.objs.size = none := I'.hok.fresh (Nat.le_refl _)
    have hSn : S ∉ [z, TO, i1, i2] := fun hm => by
      simp only [List.mem_cons, List.not_mem_nil, or_false] at hm
      rcases hm with e | e | e | e
      · exact nS z (by simp) e.symm
      · exact nS TO (by simp) e.symm
      · exact nS i1 (by simp) e.symm
      · exact nS i2 (by simp) e.symm
    refine ⟨_, c, rfl, hk S _ hSn hS, fun g sb hg => ?_⟩
    have I1 : Inv X pins σ (upd H' s'.heap.objs.size (.tup [x, y])) { s' with heap := h' } := I'.pairOut (t' := s'.toks) (chOk nf) (Nat.le_refl _) hk ⟨_, hT, rfl, _, rfl⟩ ru rv
    have nT : ∀ b ∈ [z, TI, TO, i1, i2], b ≠ s'.heap.objs.size := fun b hb' => by obtain ⟨o, e⟩ := ex b hb'; exact Nat.ne_of_lt (Heap.lt_size e)
    have hS2 : (upd H' s'.heap.objs.size (.tup [x, y])) S = none := by rw [upd_ne ST]; exact hHS
    have I2 : Inv X pins σ (upd H' s'.heap.objs.size (.tup [x, y])) { s' with heap := g } := I1.moved (t' := s'.toks) (ch := [S]) (fun b hb' => by
      have e : b = S := by simpa using hb'
      rw [e]; exact fS.heap hS2) fun b o hb' e => (sb.2 b fun z' => hb' (by simp [z'])).trans e
    have nTt : ∀ {t : Addr}, H' t ≠ none → t ≠ s'.heap.objs.size := fun h e => h (by rw [e]; exact fT)
    refine ⟨upd H' s'.heap.objs.size (.tup [x, y]), ts ++ [s'.heap.objs.size], c + 1, I2, by rw [List.map_append]; rfl, by rw [List.length_append, hl]; rfl, hS2, hg, fun b o e => ?_, fun j t x' y' ht hx' hy' => ?_, fun t ht => ?_, fun b hb' => ?_, ?_, ?_, ?_, ?_, ?_⟩
    · have e' := sm b o e
      rw [upd_ne (fun z' => by rw [z', fT] at e'; cases e')]; exact e'
    · by_cases hj : j < ts.length
      · rw [List.getElem?_append_left hj] at ht
        have e' := hts j t x' y' ht hx' hy'
        rw [upd_ne (nTt (by rw [e']; simp))]; exact e'
      · have hj2 : j = ts.length := by
          have := (List.getElem?_eq_some_iff.mp ht).1
          rw [List.length_append, List.length_singleton] at this
          omega
        subst hj2
        rw [List.getElem?_append_right (Nat.le_refl _), Nat.sub_self] at ht
        have et : t = s'.heap.objs.size := (Option.some.inj ht).symm
        rw [hl] at hx' hy'
        rw [hx] at hx'; rw [hy] at hy'
        cases hx'; cases hy'
        rw [et]; exact upd_same
    · rcases List.mem_append.mp ht with z' | z'
      · rw [upd_ne (nTt (hal t z').1)]; exact hal t z'
      · have e : t = s'.heap.objs.size := by simpa using z'
        rw [e, upd_same]; exact ⟨by simp, sm.free fT⟩
    · rw [upd_ne (nT b hb')]; exact nf b hb'
    · obtain ⟨o, e⟩ := hTOx
      exact ⟨o, (sb.2 TO (nS TO (by simp))).trans e⟩
    · exact (sb.2 TI (nS TI (by simp))).trans (hk TI _ (by simp [D.TIz, D.TITO, D.TIi1, D.TIi2]) hTI')
    · exact hi1.extBut sb.extBut (nS i1 (by simp))
    · exact hi2.extBut sb.extBut (nS i2 (by simp))
    · obtain ⟨t, r, f, e, hzf⟩ := hzz
      exact .inr ⟨t, r, f, e, (sb.2 z (nS z (by simp))).trans hzf⟩
  refine callType_codes (Q₁ := fun obj s₁ => obj = .ref S ∧ s₁ = { s with heap := s.heap.push { cls := .type "list", data := .seq #[] } }) F.called_list (F.typeCall_list_1 _) F.entry_list_init (code_list_new _ ⟨by rw [hSe], rfl⟩) fun obj s₁ e₁ => ?_
  obtain ⟨rfl, rfl⟩ := e₁
  have hS0 : (s.heap.push { cls := .type "list", data := .seq #[] }).get? S = some { cls := .type "list", data := .seq #[] } := by rw [hSe]; exact Heap.get?_push_size _ rfl
  have up0 : ∀ b o, s.heap.get? b = some o → (s.heap.push { cls := .type "list", data := .seq #[] }).get? b = some o := fun b o e => Heap.get?_push_of_some _ e
  have I0 : Inv X pins σ H { s with heap := s.heap.push { cls := .type "list", data := .seq #[] } } := I.kept (t' := s.toks) up0
  refine ⟨⟨_, hS0, rfl⟩, F.args_list_init_2 _ _, ?_⟩
  show wpAny _ X.A.in1.in1 (Builtin.List.listItems (.ref S) >>= fun old => Builtin.List.listUpdate (.ref S) (fun _ => #[]) >>= fun _ => letGo old.toList.reverse >>= fun _ => Builtin.List.listExtendWith (.ref S) (.ref z) .none) _ _ _
  unfold Builtin.List.listItems
  refine wpAny_bind (wpAny_bind (wpAny_seqItems hS0 rfl (wpAny_pure ?_)))
  show wpAny _ X.A.in1.in1 (updateSeq S (fun _ => #[]) >>= fun _ => letGo (#[] : Array Value).toList.reverse >>= fun _ => Builtin.List.listExtendWith (.ref S) (.ref z) .none) _ _ _
  refine wpAny_bind (wpAny_updateSeq hS0 rfl (wpAny_bind (wpAny_letGo ?_)))
  have hS1 := Heap.get?_update_self (Obj.mapSeq (fun _ => (#[] : Array Value))) hS0 rfl
  have up1 : ∀ b o, b ≠ S → s.heap.get? b = some o → ((s.heap.push { cls := .type "list", data := .seq #[] }).update S (Obj.mapSeq (fun _ => (#[] : Array Value)))).get? b = some o := fun b o nb e => (Heap.get?_update_other _ _ (Ne.symm nb)).trans (up0 b o e)
  generalize hg1 : (s.heap.push { cls := .type "list", data := .seq #[] }).update S (Obj.mapSeq (fun _ => (#[] : Array Value))) = g1 at hS1 up1
  have hzT : ∀ g : Heap, (∀ b o, b ≠ S → s.heap.get? b = some o → g.get? b = some o) → g.get? z = some _ := fun g k => k z _ (nS z (by simp)) hz
  have TyZ : ∀ s' : Shared, s'.heap.get? z = some { cls := .type "zip", dict := none, data := .fields #[.none, .bool false, .bool false, .ref TI, .ref TO], slots := #[] } → s'.TypeIs (.ref z) "zip" := fun s' e => ⟨_, e, rfl⟩
  unfold Builtin.List.listExtendWith
  refine wpAny_bind (wpAny_typeOf (TyZ _ (hzT g1 up1)) ?_)
  have b1 : Builtin.List.listSameRef (.ref S) (.ref z) = false := by simp [Builtin.List.listSameRef, (nS z (by simp)).symm]
  have b2 : (Value.type "zip" == Value.type "list") = false := by decide
  have b3 : (Value.type "zip" == Value.type "tuple") = false := by decide
  simp only [b1, b2, b3, Bool.or_false, Bool.false_eq_true, if_false]
  refine wpAny_bind (wpAny_pyIter_zip (hzT g1 up1) (wpAny_bind (wpAny_holding ?_)))
  unfold Builtin.List.listLengthHint
  refine wpAny_bind (wpAny_specialOf (TyZ _ (hzT g1 up1)) zip_nolen ?_)
  show wpAny _ X.A.in1.in1 (specialOf (Value.ref z) (Str.ofString "__length_hint__") >>= fun a => _) _ _ _
  refine wpAny_bind (wpAny_specialOf (TyZ _ (hzT g1 up1)) zip_nohint (wpAny_pure ?_))
  show wpAny _ X.A.in1.in1 (rule "list.extend.makes-room" >>= fun _ => Builtin.List.listTouch (.ref S) >>= fun _ => again (.builtin "list.extend.loop" ⟨[.ref S, .ref z, .none], []⟩)) _ _ _
  refine wpAny_bind (wpAny_rule (wpAny_bind ?_))
  show wpAny _ X.A.in1.in1 (updateSeq S (·.push .none) >>= fun _ => updateSeq S (·.pop)) _ _ _
  refine wpAny_bind (wpAny_updateSeq hS1 rfl ?_)
  have hS2 := Heap.get?_update_self (Obj.mapSeq (·.push Value.none)) hS1 rfl
  refine wpAny_updateSeq (hz := by seq_fits) hS2 rfl ?_
  have hS3 := Heap.get?_update_self (Obj.mapSeq (·.pop)) hS2 rfl
  have up3 : ∀ b o, b ≠ S → s.heap.get? b = some o → ((g1.update S (Obj.mapSeq (·.push Value.none))).update S (Obj.mapSeq (·.pop))).get? b = some o :=
    fun b o nb e => (Heap.get?_update_other _ _ (Ne.symm nb)).trans ((Heap.get?_update_other _ _ (Ne.symm nb)).trans (up1 b o nb e))
  generalize hg3 : (g1.update S (Obj.mapSeq (·.push Value.none))).update S (Obj.mapSeq (·.pop)) = g3 at hS3 up3
  have I3 : Inv X pins σ H { s with heap := g3 } := I.moved (t' := s.toks) (ch := [S]) (fun b hb' => by
    have e : b = S := by simpa using hb'
    rw [e]; exact fS) fun b o hb' e => up3 b o (fun z' => hb' (by simp [z'])) e
  obtain ⟨c0, hc0⟩ : ∃ c0, g3.get? S = some (lstObj [] c0) := ⟨_, hS3⟩
  have J0 : J 0 [] { s with heap := g3 } := ⟨H, [], c0, I3, rfl, rfl, fS.1, hc0, Same.refl H, fun j t x y h => by simp at h, fun t h => by simp at h, fun b hb' => (hf b hb').1, ⟨_, up3 TO _ (nS TO (by simp)) hTO⟩, up3 TI _ (nS TI (by simp)) hTI, h1.at fun o e => up3 i1 o (nS i1 (by simp)) e, h2.at fun o e => up3 i2 o (nS i2 (by simp)) e,
    .inl ⟨rfl, up3 z _ (nS z (by simp)) hz, a0, b0, up3 TO _ (nS TO (by simp)) hTO⟩⟩
  refine wpAny_pure ⟨plainId_quiet F.plain_extend_loop _, ext_loop J hn (fun i acc s' h => ?_) (fun i acc s' E' hi h => ?_) (fun acc s' E' h => ?_) _ 0 [] _ rfl (Nat.zero_le _) J0⟩
  · obtain ⟨_, ts, _, _, e, l, _⟩ := h
    rw [e, List.length_map, l]
  · obtain ⟨H', ts, c, I', rfl, hl, hHS, hS, sm, hts, hal, nf, toEx, hTI', hi1, hi2, hzz⟩ := h
    have Z := apart H' sm nf
    obtain ⟨ia, na, ra, ea, _⟩ := I'.lst (sm _ _ ha)
    obtain ⟨ib, nb, rb, eb, _⟩ := I'.lst (sm _ _ hb)
    have hix : i < xs.length := by omega
    have hiy : i < ys.length := by omega
    have hx : xs[i]? = some xs[i] := List.getElem?_eq_getElem hix
    have hy : ys[i]? = some ys[i] := List.getElem?_eq_getElem hiy
    obtain ⟨u, hu, ru⟩ := ra.get hx
    obtain ⟨v, hv, rv⟩ := rb.get hy
    have LA : s'.heap.IsList l1 ia.toArray := ⟨_, ea, rfl, _, rfl⟩
    have LB : s'.heap.IsList l2 ib.toArray := ⟨_, eb, rfl, _, rfl⟩
    have exb : ∀ zo : ∃ o, s'.heap.get? z = some o, ∀ to : ∃ o, s'.heap.get? TO = some o, ∀ b ∈ [z, TI, TO, i1, i2], ∃ o, s'.heap.get? b = some o := fun zo to b hb' => by
      obtain ⟨o1, e1, _⟩ := hi1
      obtain ⟨o2, e2, _⟩ := hi2
      simp only [List.mem_cons, List.not_mem_nil, or_false] at hb'
      rcases hb' with rfl | rfl | rfl | rfl | rfl
      · exact zo
      · exact ⟨_, hTI'⟩
      · exact to
      · exact ⟨_, e1⟩
      · exact ⟨_, e2⟩
    rcases hzz with ⟨rfl, hz', a, b, hTO'⟩ | ⟨t, r, f, rfl, hzf⟩
    · refine wpAny_pyNext_zip_item Z hz' hTI' hTO' hi1 hi2 LA LB (x := u) (y := v) (by simpa using hu) (by simpa using hv) fun h' a1 a2 a3 a4 a5 a6 hk => ?_
      exact step i H' [] c s' h' _ _ u v I' hl hHS hS sm hts hal nf (exb ⟨_, hz'⟩ ⟨_, hTO'⟩) hTI' hx hy ru rv (fun b o hb' e => by
        simp only [List.mem_cons, List.not_mem_nil, or_false, not_or] at hb'
        exact hk b o hb'.1 hb'.2.1 hb'.2.2.1 hb'.2.2.2 e) ⟨_, a2⟩ a5 a3 a4 ⟨_, [], false, rfl, a1⟩
    · obtain ⟨ot, et⟩ := alive I' (hal t List.mem_cons_self).1
      refine next_more Z hzf hTI' et hi1 hi2 LA LB (x := u) (y := v) (by simpa using hu) (by simpa using hv) fun h' a1 a2 a3 a4 hk => ?_
      exact step i H' (t :: r) c s' h' _ _ u v I' hl hHS hS sm hts hal nf (exb ⟨_, hzf⟩ toEx) hTI' hx hy ru rv (fun b o hb' e => by
        simp only [List.mem_cons, List.not_mem_nil, or_false, not_or] at hb'
        exact hk b o hb'.1 hb'.2.2.1 hb'.2.2.2 e) (by obtain ⟨o, e⟩ := toEx; exact ⟨o, hk TO o D.TOz D.TOi1 D.TOi2 e⟩) a4 a2 a3 ⟨t, r ++ [_], true, rfl, a1⟩
  · obtain ⟨H', ts, c, I', rfl, hl, hHS, hS, sm, hts, hal, nf, toEx, hTI', hi1, hi2, hzz⟩ := h
    have Z := apart H' sm nf
    obtain ⟨ia, na, ra, ea, _⟩ := I'.lst (sm _ _ ha)
    obtain ⟨ib, nb, rb, eb, _⟩ := I'.lst (sm _ _ hb)
    have LA : s'.heap.IsList l1 ia.toArray := ⟨_, ea, rfl, _, rfl⟩
    have LB : s'.heap.IsList l2 ib.toArray := ⟨_, eb, rfl, _, rfl⟩
    have la := ra.length
    have lb := rb.length
    have hend : ia.toArray[min xs.length ys.length]? = none ∨ ib.toArray[min xs.length ys.length]? = none := by
      by_cases hle : xs.length ≤ ys.length
      · left; simp; omega
      · right; simp; omega
    have fin : ∀ h', (∀ b o, b ∉ [z, TO, i1, i2] → s'.heap.get? b = some o → h'.get? b = some o) → wants (fun r s₂ => r = .none ∧ EP X pins σ Q (.ref S) s₂) E (.ok (.ret .none)) { s' with heap := h' } := fun h' hk => by
      have I4 : Inv X pins σ H' { s' with heap := h' } := I'.moved (t' := s'.toks) (chOk nf) hk
      have hS4 : h'.get? S = some (lstObj (ts.map Value.ref) c) := hk S _ (fun hm => by
        simp only [List.mem_cons, List.not_mem_nil, or_false] at hm
        rcases hm with e | e | e | e
        · exact nS z (by simp) e.symm
        · exact nS TO (by simp) e.symm
        · exact nS i1 (by simp) e.symm
        · exact nS i2 (by simp) e.symm) hS
      have I5 := I4.adopt (fS.heap hHS) hS4 (refs_vals ts) (by rw [List.length_map, hl]; omega)
      have sm5 : Same H (upd H' S (.lst (ts.map V.ref))) := fun b o e => by rw [upd_ne (ne_of_none (sm b o e) hHS)]; exact sm b o e
      exact ⟨rfl, .ref S, _, I5, rfl, q S ts _ fS.1 sm5 upd_same hl (fun j t x y ht hx hy => by
        have e := hts j t x y ht hx hy
        rw [upd_ne (ne_of_none e hHS)]; exact e) fun t ht => (hal t ht).2⟩
    rcases hzz with ⟨rfl, hz', a, b, hTO'⟩ | ⟨t, r, f, rfl, hzf⟩
    · exact wpAny_pyNext_zip_end (I.ok.hd hc) Z hz' hTI' hTO' hi1 hi2 LA LB hend fun h' hk => ⟨rfl, fin h' fun b o hb' e => by
        simp only [List.mem_cons, List.not_mem_nil, or_false, not_or] at hb'
        exact hk b o hb'.1 hb'.2.1 hb'.2.2.1 hb'.2.2.2 e⟩
    · obtain ⟨ot, et⟩ := alive I' (hal t List.mem_cons_self).1
      exact next_over (I.ok.hd hc) Z hzf hTI' et hi1 hi2 LA LB hend fun h' hk => ⟨rfl, fin h' fun b o hb' e => by
        simp only [List.mem_cons, List.not_mem_nil, or_false, not_or] at hb'
        exact hk b o hb'.1 hb'.2.2.1 hb'.2.2.2 e⟩
/-- list(zip(a, b)), a and b lists -/
def tListZip (t : TA) : TE := fun σ H Q => t σ H fun vs H1 => ∃ (p q : Addr) (xs ys : List V), vs = [.ref p, .ref q] ∧ H1 p = some (.lst xs) ∧ H1 q = some (.lst ys) ∧ min xs.length ys.length < sizeLine ∧ ZipQ H1 xs ys Q
theorem pe_listzip {a b : Expr} {ta : TA} {p p2 pos pos2 : Pos} (hc : X.calm = true) (hg : Gl X "list") (hm : X.mg "list" = none) (hg2 : Gl X "zip") (hm2 : X.mg "zip" = none) (ha : PA X [a, b] ta)
    (hs : starEach [a, b] X.env = [(false, eval a X.env), (false, eval b X.env)] := by rfl) (hs2 : starEach [b] X.env = [(false, eval b X.env)] := by rfl) (hs3 : starEach [Expr.Call (.Name "zip" p2) [a, b] [] pos2] X.env = [(false, eval (.Call (.Name "zip" p2) [a, b] [] pos2) X.env)] := by rfl) :
    PE X (.Call (.Name "list" p) [.Call (.Name "zip" p2) [a, b] [] pos2] [] pos) (tListZip ta) := by
  intro pins s σ H Q I h
  refine wpAny_Call_Name_kw (ld_blt I hg hm (by decide +kernel : bootBuiltins "list" = some (.type "list")) ?_)
  refine PyProof.Rows.callWith_type1 ?_ (by rw [hs3]; rfl) rfl
  rw [hs3]
  show wpAny _ _ (spliced ((false, eval (.Call (.Name "zip" p2) [a, b] [] pos2) X.env) :: backTo pos [])) _ _ s
  refine Calls.spliced_cons (Call_ (ld_blt I hg2 hm2 (by decide +kernel : bootBuiltins "zip" = some (.type "zip")) (PyProof.Rows.callWith_type1 (thn (ha pos2 pins s σ H _ I h) fun us s1 ⟨vs, H1, I1, r1, q1⟩ => ?_) (by rw [hs, hs2]) (by rw [hs2]; rfl))))
  obtain ⟨l1, l2, xs, ys, e, h1, h2, hn, q⟩ := q1
  subst e
  obtain ⟨u, w', rfl, ru, rw'⟩ := vals2 r1
  cases ru
  cases rw'
  obtain ⟨ia, na, ra, ea, _⟩ := I1.lst h1
  obtain ⟨ib, nb, rb, eb, _⟩ := I1.lst h2
  refine call_zip_2 (xs := ia.toArray) (ys := ib.toArray) ⟨_, ea, rfl, _, rfl⟩ ⟨_, eb, rfl, _, rfl⟩ fun h' hz hTI hTO hi1 hi2 hsz hk => ?_
  have I2 : Inv X pins σ H1 { s1 with heap := h' } := I1.kept (t' := s1.toks) hk
  have lt : ∀ i j : Nat, i < j → s1.heap.objs.size + i ≠ s1.heap.objs.size + j := fun i j h e => by omega
  have D : ZipDiff (s1.heap.objs.size + 4) (s1.heap.objs.size + 2) (s1.heap.objs.size + 3) s1.heap.objs.size (s1.heap.objs.size + 1) :=
    ⟨lt 2 4 (by decide), lt 3 4 (by decide), lt 0 4 (by decide), lt 1 4 (by decide), lt 2 3 (by decide), (lt 0 2 (by decide)).symm, (lt 1 2 (by decide)).symm, (lt 0 3 (by decide)).symm, (lt 1 3 (by decide)).symm, lt 0 1 (by decide)⟩
  refine Calls.spliced_nil ?_
  refine listzip_run D I2 hc (fun b hb => ?_) ⟨hz, hTI, ⟨_, _, hTO⟩, hi1, hi2⟩ h1 h2 hn q
  have hge : s1.heap.objs.size ≤ b := by
    simp only [List.mem_cons, List.not_mem_nil, or_false] at hb
    rcases hb with rfl | rfl | rfl | rfl | rfl <;> omega
  exact I1.fpOk hge (I1.hok.fresh hge)
end
end L2


namespace L2
open PySem PySem.Spec PyProof.Rows
section
variable {X : Cx} {C : Addr} {x : Str} {p pos : Pos}
/-- a class without an __init__ of its own -/
structure Mk0 (K : PySem.W.Frag) (C : Addr) : Prop where
  makes : PySem.W.makesIn K C = true
  init : PySem.W.findIn K (.ref C) "__init__" = some (some (.builtin "object.__init__"))
  kp : PySem.W.keepIn K (.ref C) = true
def tMake00 (C : Addr) : TE := fun _ H Q => ∀ x dx, H x = none → H dx = none → dx ≠ x → Q (.ref x) (upd (upd H dx (.own x)) x (.ins C dx []))
theorem pe_make00 (M : Mk0 X.K C) (hg : Gl X x) (hm : X.mg x = some (.ref C)) (hdb : (x == ("__debug__" : Str)) = false := by decide) : PE X (.Call (.Name x p) [] [] pos) (tMake00 C) := by
  intro pins s σ H Q I h
  refine wpAny_Call_Name_kw (ld_glob I hg hm ?_ hdb)
  refine PySem.W.callWith_K0 I.kIn M.kp (wpAny_call ?_)
  have hq := h (s.heap.objs.size + 1) s.heap.objs.size (I.hok.fresh (Nat.le_succ _)) (I.hok.fresh (Nat.le_refl _)) (Nat.ne_of_lt (Nat.lt_succ_self _))
  have I2 := Inv.made (C := C) I
  have Y := PySem.W.makes_of (M := model X.prog X.w) I.kIn M.makes
  refine make_map0 I.kIn M.makes M.init (fun self => PySem.W.Looks.of_pure (PySem.W.oi_bind self)) ?_
  have e2 : ((s.heap.push PySem.W.emptyDict).push (PySem.W.instObj C s.heap.objs.size)).get? (s.heap.objs.size + 1) = some (PySem.W.instObj C s.heap.objs.size) := by
    have := Heap.get?_push_size (s.heap.push PySem.W.emptyDict) (o := PySem.W.instObj C s.heap.objs.size) rfl
    rwa [Heap.size_push] at this
  have t1 : PySem.W.Looks (model X.prog X.w) ((s.heap.push PySem.W.emptyDict).push (PySem.W.instObj C s.heap.objs.size)) (typeOf (.ref (s.heap.objs.size + 1))) (.ref C) := (PySem.W.Looks.ld e2).andThen .now
  have t2 : PySem.W.Looks (model X.prog X.w) ((s.heap.push PySem.W.emptyDict).push (PySem.W.instObj C s.heap.objs.size)) (isInstance (.ref (s.heap.objs.size + 1)) (.type "object")) true := t1.andThen (Y.top.keeps fun b o e => Heap.get?_push_of_some _ (Heap.get?_push_of_some _ e))
  refine codeAny_call_builtin PySem.W.oi_plain PySem.W.entry_oi (@PySem.W.check_slot (model X.prog X.w) _ _ _ "object.__init__" "object" "__init__" (.ref (s.heap.objs.size + 1)) [] [] _ PySem.W.oi_kind PySem.W.oi_split t2 (PySem.W.oi_args (.ref (s.heap.objs.size + 1))) ?_)
  rw [PySem.W.oi_run]
  exact wpAny_pure (And.intro rfl ⟨V.ref (s.heap.objs.size + 1), _, I2, rfl, hq⟩)
end
/-! ### every second one, and all from behind -/
theorem fm_some {α β : Type} {f : α → Option β} {g : α → β} : ∀ {l : List α}, (∀ k ∈ l, f k = some (g k)) → l.filterMap f = l.map g
  | [], _ => rfl
  | k :: l, h => by
    rw [List.filterMap_cons, h k List.mem_cons_self, List.map_cons, fm_some fun j hj => h j (List.mem_cons_of_mem _ hj)]
theorem geti (ns : List Int) {k : Nat} (h : k < ns.length) : (ns.map V.int)[k]? = some (V.int (ns.getD k 0)) := by
  rw [List.getElem?_map, List.getD_eq_getElem?_getD, List.getElem?_eq_getElem h]
  rfl
theorem pick0 (ns : List Int) : pickV (ns.map V.int) (some 0) none (some 2) = (List.range ((ns.length + 1) / 2)).map fun k => V.int (ns.getD (2 * k) 0) := by
  have e : sliceBounds (some 0) none (some 2) (ns.map V.int).length = (0, (ns.length : Int), 2) := by
    simp [sliceBounds]; omega
  unfold pickV
  rw [e]
  have e2 : sliceRange 0 (ns.length : Int) 2 = (List.range ((ns.length + 1) / 2)).map fun k => 2 * k := by
    unfold sliceRange
    have ec : (if (2 : Int) > 0 then (if (0 : Int) < (ns.length : Int) then ((ns.length : Int) - 0 + 2 - 1) / 2 else 0) else (if (0 : Int) > (ns.length : Int) then (0 - (ns.length : Int) - 2 - 1) / (-2) else 0)).toNat = (ns.length + 1) / 2 := by
      rw [if_pos (by decide)]
      split <;> omega
    simp only [ec]
    refine List.map_congr_left fun k _ => ?_
    omega
  simp only [e2, List.filterMap_map]
  refine fm_some fun k hk => ?_
  have := List.mem_range.mp hk
  exact geti ns (show 2 * k < ns.length by omega)
theorem pick1 (ns : List Int) : pickV (ns.map V.int) (some 1) none (some 2) = (List.range (ns.length / 2)).map fun k => V.int (ns.getD (2 * k + 1) 0) := by
  have e : sliceBounds (some 1) none (some 2) (ns.map V.int).length = (min 1 (ns.length : Int), (ns.length : Int), 2) := by
    simp [sliceBounds]; omega
  unfold pickV
  rw [e]
  have e2 : sliceRange (min 1 (ns.length : Int)) (ns.length : Int) 2 = (List.range (ns.length / 2)).map fun k => 2 * k + 1 := by
    unfold sliceRange
    have ec : (if (2 : Int) > 0 then (if min 1 (ns.length : Int) < (ns.length : Int) then ((ns.length : Int) - min 1 (ns.length : Int) + 2 - 1) / 2 else 0) else (if min 1 (ns.length : Int) > (ns.length : Int) then (min 1 (ns.length : Int) - (ns.length : Int) - 2 - 1) / (-2) else 0)).toNat = ns.length / 2 := by
      rw [if_pos (by decide)]
      split <;> omega
    simp only [ec]
    refine List.map_congr_left fun k hk => ?_
    have := List.mem_range.mp hk
    omega
  simp only [e2, List.filterMap_map]
  refine fm_some fun k hk => ?_
  have := List.mem_range.mp hk
  exact geti ns (show 2 * k + 1 < ns.length by omega)
end L2


namespace L2
open PySem PySem.Spec PyProof.Rows
/-! ### range(a, b, 2) -/
def ItrS (lo c : Int) (n : Nat) : It := ⟨fun i _ => i < n, fun i H x H' => H' = H ∧ x = .int (lo + i * c), fun i _ => n ≤ i⟩
/-- how many of lo, lo + 2, .. lie below hi -/
def many2 (lo hi : Int) : Nat := ((hi - lo + 1) / 2).toNat
section
variable {X : Cx} {tg : Expr}
def iRng3 (ta : TA) : TI := fun σ H R => ta σ H fun vs H1 => ∃ i j : Int, vs = [.int i, .int j, .int 2] ∧ (-1000000 ≤ i ∧ i ≤ 1000000 ∧ -1000000 ≤ j ∧ j ≤ 1000000) ∧ R (ItrS i 2 (many2 i j)) H1
end
end L2


namespace L2
open PySem PySem.Spec PyProof.Rows
end L2


namespace L3
open PySem L2
/-- a thing without addresses -/
inductive D where
  | non | bl (b : Bool) | int (i : Int) | str (x : Str) | lst (xs : List D) | tup (xs : List D) | ktup (xs : List D) | ins (C : Addr) (ns : List Str) (xs : List D) | scr (ns : List Int) | ty (n : String) | adr (a : Addr)
mutual
def Rep (K : PySem.W.Frag) (F : Hp) : D → V → Prop
  | .non, v => v = .non
  | .bl b, v => v = .bl b
  | .int i, v => v = .int i
  | .str x, v => v = .str x
  | .ty n, v => v = .ty n
  | .adr a, v => v = .ref a
  | .scr ns, v => ∃ p, v = .ref p ∧ SqL K F p (ns.map V.int)
  | .lst xs, v => ∃ p vs, v = .ref p ∧ F p = some (.lst vs) ∧ RepL K F xs vs
  | .tup xs, v => ∃ p vs, v = .ref p ∧ F p = some (.tup vs) ∧ RepL K F xs vs
  | .ktup xs, v => ∃ p vs, v = .ref p ∧ SqT K F p vs ∧ RepL K F xs vs
  | .ins C ns xs, v => ∃ p dx gs, v = .ref p ∧ F p = some (.ins C dx gs) ∧ gs.map (·.1) = ns ∧ RepL K F xs (gs.map (·.2))
def RepL (K : PySem.W.Frag) (F : Hp) : List D → List V → Prop
  | [], vs => vs = []
  | x :: xs, vs => ∃ v ws, vs = v :: ws ∧ Rep K F x v ∧ RepL K F xs ws
end
theorem SqT.same {K : PySem.W.Frag} {H H' : Hp} {a : Addr} {xs : List V} (e : Same H H') (h : SqT K H a xs) : SqT K H' a xs := by
  rcases h with (h | ⟨o, h⟩) | h
  · exact .inl (.inl (e _ _ h))
  · exact .inl (.inr ⟨o, e _ _ h⟩)
  · exact .inr h
mutual
theorem Rep.mono {K : PySem.W.Frag} {F F' : Hp} (e : Same F F') : ∀ {d : D} {v : V}, Rep K F d v → Rep K F' d v
  | .non, _, h => h
  | .bl _, _, h => h
  | .int _, _, h => h
  | .str _, _, h => h
  | .ty _, _, h => h
  | .adr _, _, h => h
  | .scr _, _, ⟨p, h1, h2⟩ => ⟨p, h1, e.seq h2⟩
  | .lst _, _, ⟨p, vs, h1, h2, h3⟩ => ⟨p, vs, h1, e _ _ h2, RepL.mono e h3⟩
  | .tup _, _, ⟨p, vs, h1, h2, h3⟩ => ⟨p, vs, h1, e _ _ h2, RepL.mono e h3⟩
  | .ktup _, _, ⟨p, vs, h1, h2, h3⟩ => ⟨p, vs, h1, SqT.same e h2, RepL.mono e h3⟩
  | .ins _ _ _, _, ⟨p, dx, gs, h1, h2, h3, h4⟩ => ⟨p, dx, gs, h1, e _ _ h2, h3, RepL.mono e h4⟩
theorem RepL.mono {K : PySem.W.Frag} {F F' : Hp} (e : Same F F') : ∀ {xs : List D} {vs : List V}, RepL K F xs vs → RepL K F' xs vs
  | [], _, h => h
  | _ :: _, _, ⟨v, ws, h1, h2, h3⟩ => ⟨v, ws, h1, Rep.mono e h2, RepL.mono e h3⟩
end

end L3


namespace L3
open PySem L2
/-- a name's thing: kept as it is; owned; lent by the caller -/
inductive Sl where
  | fz (d : D) | ow (d : D) | ln (d : D)
abbrev G := List (Option Sl)
/-- a value: a thing that stays as it is, or a new one of which nobody else knows -/
inductive RV where
  | fz (d : D) | fr (d : D)
def RV.d : RV → D
  | .fz d => d
  | .fr d => d
def RV.sl : RV → Sl
  | .fz d => .fz d
  | .fr d => .ow d
/-- the entry: what was kept, the heap, the lent ones (slot, address) -/
structure Bs where
  F : Hp
  H : Hp
  own : List (Nat × Addr)
def Own (K : PySem.W.Frag) (F H : Hp) (p : Addr) : D → Prop
  | .lst xs => ∃ vs, H p = some (.lst vs) ∧ RepL K F xs vs
  | .ins C ns xs => ∃ dx gs, H p = some (.ins C dx gs) ∧ gs.map (·.1) = ns ∧ RepL K F xs (gs.map (·.2))
  | _ => False
theorem Own.mono {K : PySem.W.Frag} {F F' H H' : Hp} {p : Addr} (e : Same F F') (h : H' p = H p) : ∀ {d : D}, Own K F H p d → Own K F' H' p d
  | .lst _, ⟨vs, a, b⟩ => ⟨vs, h.trans a, b.mono e⟩
  | .ins _ _ _, ⟨dx, gs, a, b, c⟩ => ⟨dx, gs, h.trans a, b, c.mono e⟩
theorem Own.some {K : PySem.W.Frag} {F H : Hp} {p : Addr} : ∀ {d : D}, Own K F H p d → ∃ o, H p = some o
  | .lst _, ⟨_, a, _⟩ => ⟨_, a⟩
  | .ins _ _ _, ⟨_, _, a, _⟩ => ⟨_, a⟩
/-- frozen: the thing stands -/
theorem Own.rep {K : PySem.W.Frag} {F H : Hp} {p : Addr} {o : HO} (hF : F p = none) (ho : H p = Option.some o) : ∀ {d : D}, Own K F H p d → Rep K (upd F p o) d (.ref p)
  | .lst _, ⟨vs, a, b⟩ => by
    rw [ho] at a; cases a
    exact ⟨p, vs, rfl, upd_same, b.mono fun x u e => by rw [upd_ne (ne_of_none e hF)]; exact e⟩
  | .ins _ _ _, ⟨dx, gs, a, b, c⟩ => by
    rw [ho] at a; cases a
    exact ⟨p, dx, gs, rfl, upd_same, b, c.mono fun x u e => by rw [upd_ne (ne_of_none e hF)]; exact e⟩
/-- slot i is owned or lent, its thing d -/
def Hld (Γ : G) (i : Nat) (d : D) : Prop := Γ[i]? = some (some (Sl.ow d)) ∨ Γ[i]? = some (some (Sl.ln d))
structure En (K : PySem.W.Frag) (B : Bs) (F : Hp) (σ : St) (H : Hp) (Γ : G) : Prop where
  sub : Same F H
  len : σ.length = Γ.length
  fz : ∀ (i : Nat) (d : D), Γ[i]? = some (some (Sl.fz d)) → ∃ v, σ[i]? = some (some v) ∧ Rep K F d v
  hl : ∀ (i : Nat) (d : D), Hld Γ i d → ∃ p, σ[i]? = some (some (V.ref p)) ∧ F p = none ∧ Own K F H p d
  ow : ∀ (i : Nat) (d : D) (p : Addr), Γ[i]? = some (some (Sl.ow d)) → σ[i]? = some (some (V.ref p)) → B.H p = none
  ln : ∀ (i : Nat) (d : D) (p : Addr), Γ[i]? = some (some (Sl.ln d)) → σ[i]? = some (some (V.ref p)) → (i, p) ∈ B.own
  dis : ∀ (i j : Nat) (d e : D) (p : Addr), Hld Γ i d → Hld Γ j e → σ[i]? = some (some (V.ref p)) → σ[j]? = some (some (V.ref p)) → i = j
  par : ∀ (i : Nat) (p : Addr), (i, p) ∈ B.own → σ[i]? = some (some (V.ref p)) ∧ ∃ d, Γ[i]? = some (some (Sl.ln d))
  keep : Same B.F F
  new : ∀ (b : Addr) (o : HO), F b = some o → B.F b = some o ∨ B.H b = none
  rest : ∀ (b : Addr) (o : HO), B.H b = some o → (∀ i, (i, b) ∉ B.own) → H b = some o
  dom : ∀ b, H b = none → B.H b = none
section
variable {K : PySem.W.Frag} {B : Bs} {F : Hp} {σ : St} {H : Hp} {Γ : G}
theorem En.alloc (e : En K B F σ H Γ) {l : Addr} (hl : H l = none) (o : HO) : En K B F σ (upd H l o) Γ where
  sub := fun b u h => by rw [upd_ne (ne_of_none (e.sub b u h) hl)]; exact e.sub b u h
  len := e.len
  fz := e.fz
  hl := fun i d h => by
    obtain ⟨p, h1, h2, h3⟩ := e.hl i d h
    obtain ⟨u, hu⟩ := h3.some
    exact ⟨p, h1, h2, h3.mono (Same.refl F) (upd_ne (ne_of_none hu hl))⟩
  ow := e.ow
  ln := e.ln
  dis := e.dis
  par := e.par
  keep := e.keep
  new := e.new
  rest := fun b u h n => by rw [upd_ne (ne_of_none (e.rest b u h n) hl)]; exact e.rest b u h n
  dom := fun b h => by
    by_cases q : b = l
    · subst q; exact e.dom _ hl
    · rw [upd_ne q] at h; exact e.dom b h
theorem same_upd {F : Hp} {l : Addr} {o : HO} (h : F l = none) : Same F (upd F l o) := fun b u e => by rw [upd_ne (ne_of_none e h)]; exact e
/-- a new thing is kept from now on -/
theorem En.freeze (e : En K B F σ H Γ) {l : Addr} {o : HO} (hF : F l = none) (hH : H l = some o) (hB : B.H l = none) (hn : ∀ (i : Nat) (d : D), Hld Γ i d → σ[i]? ≠ some (some (V.ref l))) : En K B (upd F l o) σ H Γ where
  sub := fun b u h => by
    by_cases q : b = l
    · subst q; rw [upd_same] at h; cases h; exact hH
    · rw [upd_ne q] at h; exact e.sub b u h
  len := e.len
  fz := fun i d h => by
    obtain ⟨v, h1, h2⟩ := e.fz i d h
    exact ⟨v, h1, h2.mono (same_upd hF)⟩
  hl := fun i d h => by
    obtain ⟨p, h1, h2, h3⟩ := e.hl i d h
    have q : p ≠ l := fun z => hn i d h (z ▸ h1)
    exact ⟨p, h1, by rw [upd_ne q]; exact h2, h3.mono (same_upd hF) rfl⟩
  ow := e.ow
  ln := e.ln
  dis := e.dis
  par := e.par
  keep := e.keep.trans (same_upd hF)
  new := fun b u h => by
    by_cases q : b = l
    · subst q; exact .inr hB
    · rw [upd_ne q] at h; exact e.new b u h
  rest := e.rest
  dom := e.dom
def RepV (K : PySem.W.Frag) (B : Bs) (F : Hp) (σ : St) (H : Hp) (Γ : G) (v : V) : RV → Prop
  | .fz d => Rep K F d v
  | .fr d => ∃ p, v = .ref p ∧ F p = none ∧ Own K F H p d ∧ B.H p = none ∧ ∀ (i : Nat) (e : D), Hld Γ i e → σ[i]? ≠ some (some (V.ref p))
theorem En.frozen (e : En K B F σ H Γ) {v : V} : ∀ {r : RV}, RepV K B F σ H Γ v r → ∃ F', Same F F' ∧ En K B F' σ H Γ ∧ Rep K F' r.d v
  | .fz d, h => ⟨F, Same.refl F, e, h⟩
  | .fr d, ⟨p, hv, h1, h2, h3, h4⟩ => by
    subst hv
    obtain ⟨o, ho⟩ := h2.some
    exact ⟨upd F p o, same_upd h1, e.freeze h1 ho h3 h4, h2.rep h1 ho⟩
/-- what is wanted of a value -/
def Po (K : PySem.W.Frag) (B : Bs) (F : Hp) (σ : St) (Q : RV → G → Prop) : VK := fun v H' => ∃ F' Γ' r, Same F F' ∧ En K B F' σ H' Γ' ∧ RepV K B F' σ H' Γ' v r ∧ Q r Γ'
abbrev TE3 := G → (RV → G → Prop) → Prop
def Ref (K : PySem.W.Frag) (t : TE) (t3 : TE3) : Prop := ∀ (B : Bs) (F : Hp) (σ : St) (H : Hp) (Γ : G) (Q : RV → G → Prop) (QQ : VK), En K B F σ H Γ → t3 Γ Q → (∀ v H', Po K B F σ Q v H' → QQ v H') → t σ H QQ
theorem Po.mono {F F' : Hp} {Q : RV → G → Prop} {v : V} {H : Hp} (s : Same F F') (h : Po K B F' σ Q v H) : Po K B F σ Q v H := by
  obtain ⟨F2, Γ', r, a, b⟩ := h
  exact ⟨F2, Γ', r, s.trans a, b⟩
theorem po_fz (e : En K B F σ H Γ) {Q : RV → G → Prop} {v : V} {d : D} (r : Rep K F d v) (q : Q (.fz d) Γ) : Po K B F σ Q v H := ⟨F, Γ, .fz d, Same.refl F, e, r, q⟩
theorem En.nohl (e : En K B F σ H Γ) {l : Addr} (hl : H l = none) : ∀ (i : Nat) (d : D), Hld Γ i d → σ[i]? ≠ some (some (V.ref l)) := fun i d h z => by
  obtain ⟨p, h1, h2, h3⟩ := e.hl i d h
  rw [h1] at z; cases z
  obtain ⟨o, ho⟩ := h3.some
  rw [hl] at ho; cases ho
theorem En.nof (e : En K B F σ H Γ) {l : Addr} (hl : H l = none) : F l = none := by
  cases q : F l with
  | none => rfl
  | some o => have := e.sub _ _ q; rw [hl] at this; cases this
theorem po_newL (e : En K B F σ H Γ) {Q : RV → G → Prop} {l : Addr} {vs : List V} {xs : List D} (hl : H l = none) (r : RepL K F xs vs) (q : Q (.fr (.lst xs)) Γ) : Po K B F σ Q (.ref l) (upd H l (.lst vs)) :=
  ⟨F, Γ, .fr (.lst xs), Same.refl F, e.alloc hl _, ⟨l, rfl, e.nof hl, ⟨vs, upd_same, r⟩, e.dom _ hl, e.nohl hl⟩, q⟩
theorem po_newT (e : En K B F σ H Γ) {Q : RV → G → Prop} {l : Addr} {vs : List V} {xs : List D} (hl : H l = none) (r : RepL K F xs vs) (q : Q (.fz (.tup xs)) Γ) : Po K B F σ Q (.ref l) (upd H l (.tup vs)) :=
  ⟨upd F l (.tup vs), Γ, .fz (.tup xs), same_upd (e.nof hl), (e.alloc hl _).freeze (e.nof hl) upd_same (e.dom _ hl) (e.nohl hl), ⟨l, vs, rfl, upd_same, r.mono (same_upd (e.nof hl))⟩, q⟩
/-! ### names, constants -/
def t3Var (i : Nat) (Γ : G) (Q : RV → G → Prop) : Prop := match Γ[i]? with
  | some (some (.fz d)) => Q (.fz d) Γ
  | some (some (.ow d)) => Q (.fz d) (Γ.set i (some (Sl.fz d)))
  | _ => False
theorem get_set_ne {α : Type} {l : List α} {i j : Nat} {a : α} (h : i ≠ j) : (l.set i a)[j]? = l[j]? := by rw [List.getElem?_set, if_neg h]
theorem get_set_eq {α : Type} {l : List α} {i : Nat} {a b : α} (h : l[i]? = some b) : (l.set i a)[i]? = some a := by
  rw [List.getElem?_set, if_pos rfl, if_pos (List.getElem?_eq_some_iff.mp h).1]
/-- an owned name's thing is kept as it is from now on -/
theorem En.give (e : En K B F σ H Γ) {i : Nat} {d : D} (h : Γ[i]? = some (some (Sl.ow d))) : ∃ F' p, Same F F' ∧ σ[i]? = some (some (V.ref p)) ∧ Rep K F' d (.ref p) ∧ En K B F' σ H (Γ.set i (some (Sl.fz d))) := by
  obtain ⟨p, h1, h2, h3⟩ := e.hl i d (.inl h)
  obtain ⟨o, ho⟩ := h3.some
  have hr := h3.rep h2 ho
  have back : ∀ {j u}, j ≠ i → (Γ.set i (some (Sl.fz d)))[j]? = u → Γ[j]? = u := fun hj q => by rw [get_set_ne (Ne.symm hj)] at q; exact q
  have hld : ∀ {j x}, Hld (Γ.set i (some (Sl.fz d))) j x → j ≠ i ∧ Hld Γ j x := fun {j x} q => by
    by_cases z : j = i
    · subst z
      rcases q with q | q <;> rw [get_set_eq h] at q <;> cases q
    · exact ⟨z, q.imp (back z) (back z)⟩
  refine ⟨upd F p o, p, same_upd h2, h1, hr, ?_, ?_, ?_, ?_, ?_, ?_, ?_, ?_, ?_, ?_, e.rest, e.dom⟩
  · intro b u q
    by_cases z : b = p
    · subst z; rw [upd_same] at q; cases q; exact ho
    · rw [upd_ne z] at q; exact e.sub b u q
  · rw [List.length_set]; exact e.len
  · intro j x q
    by_cases z : j = i
    · subst z
      rw [get_set_eq h] at q; cases q
      exact ⟨_, h1, hr⟩
    · obtain ⟨v, a, b⟩ := e.fz j x (back z q)
      exact ⟨v, a, b.mono (same_upd h2)⟩
  · intro j x q
    obtain ⟨z, q⟩ := hld q
    obtain ⟨p', a, b, c⟩ := e.hl j x q
    have ne : p' ≠ p := fun y => z (e.dis j i x d p q (.inl h) (y ▸ a) h1)
    exact ⟨p', a, by rw [upd_ne ne]; exact b, c.mono (same_upd h2) rfl⟩
  · intro j x p' q a
    obtain ⟨z, _⟩ := hld (.inl q)
    exact e.ow j x p' (back z q) a
  · intro j x p' q a
    obtain ⟨z, _⟩ := hld (.inr q)
    exact e.ln j x p' (back z q) a
  · intro j k x y p' q1 q2
    exact e.dis j k x y p' (hld q1).2 (hld q2).2
  · intro j p' q
    obtain ⟨a, y, b⟩ := e.par j p' q
    have z : j ≠ i := fun z => by subst z; rw [h] at b; cases b
    exact ⟨a, y, by rw [get_set_ne (Ne.symm z)]; exact b⟩
  · exact e.keep.trans (same_upd h2)
  · intro b u q
    by_cases z : b = p
    · subst z; exact .inr (e.ow i d _ h h1)
    · rw [upd_ne z] at q; exact e.new b u q
theorem ref_var (i : Nat) : Ref K (tVar i) (t3Var i) := by
  intro B F σ H Γ Q QQ e h k
  unfold t3Var at h
  split at h
  · rename_i d q
    obtain ⟨v, h1, h2⟩ := e.fz i d q
    exact ⟨v, h1, k _ _ (po_fz e h2 h)⟩
  · rename_i d q
    obtain ⟨F', p, s, h1, h2, e'⟩ := e.give q
    exact ⟨_, h1, k _ _ ⟨F', _, .fz d, s, e', h2, h⟩⟩
  · exact h.elim
def t3C (d : D) (Γ : G) (Q : RV → G → Prop) : Prop := Q (.fz d) Γ
theorem ref_c {v : V} {d : D} (h : ∀ F, Rep K F d v) : Ref K (tC v) (t3C d) := fun B F σ H Γ Q QQ e q k => k _ _ (po_fz e (h F) q)
/-! ### operands: read where they stand -/
/-- a thing, or what a name bears when the operation comes -/
inductive Bo where
  | d (x : D) | v (i : Nat)
def Gat (Γ : G) (i : Nat) : Option D := match Γ[i]? with
  | some (some (.fz d)) => some d
  | some (some (.ow d)) => some d
  | some (some (.ln d)) => some d
  | _ => none
def Bo.at (Γ : G) : Bo → Option D
  | .d x => some x
  | .v i => Gat Γ i
def RepBo (K : PySem.W.Frag) (F : Hp) (σ : St) : Bo → V → Prop
  | .d x, v => Rep K F x v
  | .v i, v => σ[i]? = some (some v)
def RepB (K : PySem.W.Frag) (F H : Hp) : D → V → Prop
  | .lst xs, v => ∃ p vs, v = .ref p ∧ H p = some (.lst vs) ∧ RepL K F xs vs
  | .ins C ns xs, v => ∃ p dx gs, v = .ref p ∧ H p = some (.ins C dx gs) ∧ gs.map (·.1) = ns ∧ RepL K F xs (gs.map (·.2))
  | d, v => Rep K F d v
theorem Rep.b {K : PySem.W.Frag} {F H : Hp} (s : Same F H) : ∀ {d : D} {v : V}, Rep K F d v → RepB K F H d v
  | .non, _, h => h
  | .bl _, _, h => h
  | .int _, _, h => h
  | .str _, _, h => h
  | .ty _, _, h => h
  | .adr _, _, h => h
  | .scr _, _, h => h
  | .tup _, _, h => h
  | .ktup _, _, h => h
  | .lst _, _, ⟨p, vs, h1, h2, h3⟩ => ⟨p, vs, h1, s _ _ h2, h3⟩
  | .ins _ _ _, _, ⟨p, dx, gs, h1, h2, h3, h4⟩ => ⟨p, dx, gs, h1, s _ _ h2, h3, h4⟩
theorem Own.b {K : PySem.W.Frag} {F H : Hp} {p : Addr} : ∀ {d : D}, Own K F H p d → RepB K F H d (.ref p)
  | .lst _, ⟨vs, h1, h2⟩ => ⟨p, vs, rfl, h1, h2⟩
  | .ins _ _ _, ⟨dx, gs, h1, h2, h3⟩ => ⟨p, dx, gs, rfl, h1, h2, h3⟩
theorem RepBo.mono {F F' : Hp} (s : Same F F') : ∀ {bo : Bo} {v : V}, RepBo K F σ bo v → RepBo K F' σ bo v
  | .d _, _, h => Rep.mono s h
  | .v _, _, h => h
theorem En.get (e : En K B F σ H Γ) {i : Nat} {d : D} (h : Gat Γ i = some d) : ∃ v, σ[i]? = some (some v) ∧ RepB K F H d v := by
  unfold Gat at h
  split at h
  · cases h
    rename_i q
    obtain ⟨v, h1, h2⟩ := e.fz i _ q
    exact ⟨v, h1, h2.b e.sub⟩
  · cases h
    rename_i q
    obtain ⟨p, h1, h2, h3⟩ := e.hl i _ (.inl q)
    exact ⟨_, h1, h3.b⟩
  · cases h
    rename_i q
    obtain ⟨p, h1, h2, h3⟩ := e.hl i _ (.inr q)
    exact ⟨_, h1, h3.b⟩
  · cases h
theorem En.bo (e : En K B F σ H Γ) : ∀ {bo : Bo} {v : V} {d : D}, RepBo K F σ bo v → bo.at Γ = some d → RepB K F H d v
  | .d x, v, d, h, q => by cases q; exact Rep.b e.sub h
  | .v i, v, d, h, q => by
    obtain ⟨u, h1, h2⟩ := e.get q
    rw [show σ[i]? = some (some v) from h] at h1
    cases h1
    exact h2
abbrev TB3 := G → (Bo → G → Prop) → Prop
def PoB (K : PySem.W.Frag) (B : Bs) (F : Hp) (σ : St) (Q : Bo → G → Prop) : VK := fun v H' => ∃ F' Γ' bo, Same F F' ∧ En K B F' σ H' Γ' ∧ RepBo K F' σ bo v ∧ Q bo Γ'
def RefB (K : PySem.W.Frag) (t : TE) (t3 : TB3) : Prop := ∀ (B : Bs) (F : Hp) (σ : St) (H : Hp) (Γ : G) (Q : Bo → G → Prop) (QQ : VK), En K B F σ H Γ → t3 Γ Q → (∀ v H', PoB K B F σ Q v H' → QQ v H') → t σ H QQ
def bor (i : Nat) (Γ : G) (Q : Bo → G → Prop) : Prop := (∃ d, Gat Γ i = some d) ∧ Q (.v i) Γ
def bof (a3 : TE3) (Γ : G) (Q : Bo → G → Prop) : Prop := a3 Γ fun x Γ1 => Q (.d x.d) Γ1
theorem refb_var (i : Nat) : RefB K (tVar i) (bor i) := by
  intro B F σ H Γ Q QQ e ⟨⟨d, hd⟩, q⟩ k
  obtain ⟨v, h1, _⟩ := e.get hd
  exact ⟨v, h1, k _ _ ⟨F, Γ, .v i, Same.refl F, e, h1, q⟩⟩
theorem refb_of {t : TE} {a3 : TE3} (h : Ref K t a3) : RefB K t (bof a3) := by
  intro B F σ H Γ Q QQ e q k
  refine h B F σ H Γ _ _ e q (fun v H1 ⟨F1, Γ1, x, s1, e1, r1, q1⟩ => ?_)
  obtain ⟨F1', s1', e1', r1'⟩ := e1.frozen r1
  exact k _ _ ⟨F1', Γ1, .d x.d, s1.trans s1', e1', r1', q1⟩
/-- an operation on two things -/
def OpRef (K : PySem.W.Frag) (r : R2) (op : D → D → TE3) : Prop := ∀ (B : Bs) (F : Hp) (σ : St) (H : Hp) (Γ : G) (x y : V) (dx dy : D) (Q : RV → G → Prop) (QQ : VK), En K B F σ H Γ → RepB K F H dx x → RepB K F H dy y → op dx dy Γ Q → (∀ v H', Po K B F σ Q v H' → QQ v H') → r x y H QQ
def t3Op (op : D → D → TE3) (a3 b3 : TB3) (Γ : G) (Q : RV → G → Prop) : Prop := a3 Γ fun x Γ1 => b3 Γ1 fun y Γ2 => ∃ dx dy, x.at Γ2 = some dx ∧ y.at Γ2 = some dy ∧ op dx dy Γ2 Q
theorem ref_op {r : R2} {ta tb : TE} {a3 b3 : TB3} {op : D → D → TE3} (h : OpRef K r op) (ha : RefB K ta a3) (hb : RefB K tb b3) : Ref K (tOp r ta tb) (t3Op op a3 b3) := by
  intro B F σ H Γ Q QQ e q k
  refine ha B F σ H Γ _ _ e q (fun v H1 ⟨F1, Γ1, x, s1, e1, r1, q1⟩ => ?_)
  refine hb B F1 σ H1 Γ1 _ _ e1 q1 (fun u H2 ⟨F2, Γ2, y, s2, e2, r2, dx, dy, h1, h2, q2⟩ => ?_)
  exact h B F2 σ H2 Γ2 v u dx dy Q QQ e2 (e2.bo (r1.mono s2) h1) (e2.bo r2 h2) q2 fun z H3 p => k z H3 (p.mono (s1.trans s2))
/-- one operand -/
def t3Un (op : D → TE3) (a3 : TB3) (Γ : G) (Q : RV → G → Prop) : Prop := a3 Γ fun x Γ1 => ∃ dx, x.at Γ1 = some dx ∧ op dx Γ1 Q
def UnRef (K : PySem.W.Frag) (r : V → Hp → VK → Prop) (op : D → TE3) : Prop := ∀ (B : Bs) (F : Hp) (σ : St) (H : Hp) (Γ : G) (x : V) (dx : D) (Q : RV → G → Prop) (QQ : VK), En K B F σ H Γ → RepB K F H dx x → op dx Γ Q → (∀ v H', Po K B F σ Q v H' → QQ v H') → r x H QQ
theorem ref_un {r : V → Hp → VK → Prop} {ta : TE} {a3 : TB3} {op : D → TE3} (h : UnRef K r op) (ha : RefB K ta a3) : Ref K (fun σ H Q => ta σ H fun x H1 => r x H1 Q) (t3Un op a3) := by
  intro B F σ H Γ Q QQ e q k
  refine ha B F σ H Γ _ _ e q (fun v H1 ⟨F1, Γ1, x, s1, e1, r1, dx, h1, q1⟩ => ?_)
  exact h B F1 σ H1 Γ1 v dx Q QQ e1 (e1.bo r1 h1) q1 fun z H3 p => k z H3 (p.mono s1)
end
end L3


namespace L3
open PySem L2 PySem.Spec PyProof.Rows
structure P3 (K : PySem.W.Frag) (X : Cx) (e : Expr) (t : TE) (t3 : TE3) : Prop where
  pe : PE X e t
  rf : Ref K t t3
/-- an operand -/
structure P3B (K : PySem.W.Frag) (X : Cx) (e : Expr) (t : TE) (t3 : TB3) : Prop where
  pe : PE X e t
  rf : RefB K t t3
section
variable {K : PySem.W.Frag} {X : Cx} {a b c : Expr} {ta tb tc : TE} {a3 b3 c3 : TB3} {pos : Pos}
theorem P3.opd {e3 : TE3} (h : P3 K X a ta e3) : P3B K X a ta (bof e3) := ⟨h.pe, refb_of h.rf⟩
theorem bv (i : Nat) {x : Str} {pos : Pos} (hN : X.N[i]? = some x := by rfl) (hv : Vis X.env.scope x := by first | exact Or.inl rfl | exact Or.inr (Or.inl rfl) | exact Or.inr (Or.inr rfl)) (hd : (x == ("__debug__" : Str)) = false := by decide)
    (hcd : (x == ("__classdict__" : Str)) = false := by decide) : P3B K X (.Name x pos) (tVar i) (bor i) := ⟨pe_var hN hv hd hcd, refb_var i⟩
theorem po_int {B : Bs} {F : Hp} {σ : L2.St} {H : Hp} {Γ : G} {Q : RV → G → Prop} {i : Int} (e : En K B F σ H Γ) (q : Q (.fz (.int i)) Γ) : Po K B F σ Q (.int i) H := po_fz (d := .int i) e rfl q
theorem po_str {B : Bs} {F : Hp} {σ : L2.St} {H : Hp} {Γ : G} {Q : RV → G → Prop} {i : Str} (e : En K B F σ H Γ) (q : Q (.fz (.str i)) Γ) : Po K B F σ Q (.str i) H := po_fz (d := .str i) e rfl q
theorem po_bl {B : Bs} {F : Hp} {σ : L2.St} {H : Hp} {Γ : G} {Q : RV → G → Prop} {i : Bool} (e : En K B F σ H Γ) (q : Q (.fz (.bl i)) Γ) : Po K B F σ Q (.bl i) H := po_fz (d := .bl i) e rfl q
theorem p3v (i : Nat) {x : Str} {pos : Pos} (hN : X.N[i]? = some x := by rfl) (hv : Vis X.env.scope x := by first | exact Or.inl rfl | exact Or.inr (Or.inl rfl) | exact Or.inr (Or.inr rfl)) (hd : (x == ("__debug__" : Str)) = false := by decide)
    (hcd : (x == ("__classdict__" : Str)) = false := by decide) : P3 K X (.Name x pos) (tVar i) (t3Var i) := ⟨pe_var hN hv hd hcd, ref_var i⟩
theorem p3_int {i j pos} : P3 K X (.Constant (.int i) j pos) (tC (.int i)) (t3C (.int i)) := ⟨pe_int, ref_c fun _ => rfl⟩
theorem p3_bl {i j pos} : P3 K X (.Constant (.bool i) j pos) (tC (.bl i)) (t3C (.bl i)) := ⟨pe_bl, ref_c fun _ => rfl⟩
theorem p3_str {x j pos} : P3 K X (.Constant (.str x) j pos) (tC (.str x)) (t3C (.str x)) := ⟨pe_str, ref_c fun _ => rfl⟩
theorem p3_gint {x : Str} {i : Int} {pos : Pos} (hg : Gl X x) (hm : ∃ t, X.mg x = some (.int i t)) (hd : (x == ("__debug__" : Str)) = false := by decide) : P3 K X (.Name x pos) (tC (.int i)) (t3C (.int i)) :=
  ⟨let ⟨t, hm⟩ := hm; pe_glob (v := .int i) hg hm ⟨t, rfl⟩ hd, ref_c fun _ => rfl⟩
theorem p3_pow {x y v : Int} {j k : Nat} {pos pos' pos'' : Pos} (h : x ^ y.toNat = v) (hc : CPow x y) : P3 K X (.BinOp (.Constant (.int x) j pos') .Pow (.Constant (.int y) k pos'') pos) (tOp (rI CPow fun i j => .int (i ^ j.toNat)) (tC (.int x)) (tC (.int y))) (t3C (.int v)) :=
  ⟨pe_op op_pow pe_int pe_int, fun B F σ H Γ Q QQ e q k => ⟨x, y, rfl, rfl, hc, by show QQ (.int (x ^ y.toNat)) H; rw [h]; exact k _ _ (po_int e q)⟩⟩
/-! ### operations -/
/-- ints to a plain thing -/
def i2 (C : Int → Int → Prop) (f : Int → Int → D) (x y : D) (Γ : G) (Q : RV → G → Prop) : Prop := match x, y with
  | .int i, .int j => C i j ∧ Q (.fz (f i j)) Γ
  | _, _ => False
def i2' (f : Int → Int → D) (x y : D) (Γ : G) (Q : RV → G → Prop) : Prop := match x, y with
  | .int i, .int j => Q (.fz (f i j)) Γ
  | _, _ => False
theorem opI {C : Int → Int → Prop} {f : Int → Int → D} {g : Int → Int → V} (h : ∀ F i j, Rep K F (f i j) (g i j)) : OpRef K (rI C g) (i2 C f) := by
  intro B F σ H Γ x y dx dy Q QQ e rx ry q k
  unfold i2 at q
  split at q
  · cases rx; cases ry
    exact ⟨_, _, rfl, rfl, q.1, k _ _ (po_fz e (h F _ _) q.2)⟩
  · exact q.elim
theorem opI0 {f : Int → Int → D} {g : Int → Int → V} (h : ∀ F i j, Rep K F (f i j) (g i j)) : OpRef K (rI0 g) (i2' f) := by
  intro B F σ H Γ x y dx dy Q QQ e rx ry q k
  unfold i2' at q
  split at q
  · cases rx; cases ry
    exact ⟨_, _, rfl, rfl, k _ _ (po_fz e (h F _ _) q)⟩
  · exact q.elim
/-- + : ints, lists, texts -/
def add3 (x y : D) (Γ : G) (Q : RV → G → Prop) : Prop := match x, y with
  | .int i, .int j => Q (.fz (.int (i + j))) Γ
  | .lst xs, .lst ys => xs.length + ys.length ≤ sizeLine ∧ Q (.fr (.lst (xs ++ ys))) Γ
  | .str i, .str j => i.length + j.length ≤ sizeLine ∧ Q (.fz (.str (i ++ j))) Γ
  | _, _ => False
theorem RepL.length {F : Hp} : ∀ {xs : List D} {vs : List V}, RepL K F xs vs → vs.length = xs.length
  | [], _, h => by cases h; rfl
  | _ :: _, _, ⟨v, ws, h1, h2, h3⟩ => by subst h1; simp [h3.length]
theorem RepL.append {F : Hp} : ∀ {xs ys : List D} {vs ws : List V}, RepL K F xs vs → RepL K F ys ws → RepL K F (xs ++ ys) (vs ++ ws)
  | [], _, _, _, h, h' => by cases h; exact h'
  | _ :: _, _, _, _, ⟨v, ws, h1, h2, h3⟩, h' => by subst h1; exact ⟨v, _, rfl, h2, h3.append h'⟩
theorem RepL.get {F : Hp} : ∀ {xs : List D} {vs : List V}, RepL K F xs vs → ∀ {i : Nat} {d : D}, xs[i]? = some d → ∃ v, vs[i]? = some v ∧ Rep K F d v
  | [], _, _, i, d, e => by simp at e
  | x :: xs, _, ⟨v, ws, h1, h2, h3⟩, 0, d, e => by subst h1; simp at e; subst e; exact ⟨v, rfl, h2⟩
  | x :: xs, _, ⟨v, ws, h1, h2, h3⟩, i + 1, d, e => by
    subst h1
    obtain ⟨u, a, b⟩ := h3.get (i := i) (d := d) (by simpa using e)
    exact ⟨u, by simpa using a, b⟩
theorem RepL.getV {F : Hp} : ∀ {xs : List D} {vs : List V}, RepL K F xs vs → ∀ {i : Nat} {v : V}, vs[i]? = some v → ∃ d, xs[i]? = some d ∧ Rep K F d v := fun {xs vs} h {i v} e => by
  have hi : i < vs.length := (List.getElem?_eq_some_iff.mp e).1
  rw [h.length] at hi
  obtain ⟨u, a, b⟩ := h.get (List.getElem?_eq_getElem hi)
  rw [e] at a; cases a
  exact ⟨_, List.getElem?_eq_getElem hi, b⟩
theorem RepL.take {F : Hp} : ∀ {xs : List D} {vs : List V} (n : Nat), RepL K F xs vs → RepL K F (xs.take n) (vs.take n)
  | _, _, 0, _ => by simp [RepL]
  | [], _, n + 1, h => by cases h; simp [RepL]
  | x :: xs, _, n + 1, ⟨v, ws, h1, h2, h3⟩ => by subst h1; exact ⟨v, _, rfl, h2, RepL.take n h3⟩
theorem RepL.drop {F : Hp} : ∀ {xs : List D} {vs : List V} (n : Nat), RepL K F xs vs → RepL K F (xs.drop n) (vs.drop n)
  | _, _, 0, h => h
  | [], _, n + 1, h => by cases h; simp [RepL]
  | x :: xs, _, n + 1, ⟨v, ws, h1, h2, h3⟩ => by subst h1; exact RepL.drop n h3
theorem RepL.set {F : Hp} {d : D} {v : V} (r : Rep K F d v) : ∀ {xs : List D} {vs : List V} (n : Nat), RepL K F xs vs → RepL K F (xs.set n d) (vs.set n v)
  | [], _, _, h => by cases h; simp [RepL]
  | x :: xs, _, 0, ⟨u, ws, h1, h2, h3⟩ => by subst h1; exact ⟨v, ws, rfl, r, h3⟩
  | x :: xs, _, n + 1, ⟨u, ws, h1, h2, h3⟩ => by subst h1; exact ⟨u, _, rfl, h2, RepL.set r n h3⟩
theorem RepL.ints {F : Hp} : ∀ (ns : List Int), RepL K F (ns.map D.int) (ns.map V.int)
  | [] => rfl
  | n :: ns => ⟨_, _, rfl, rfl, RepL.ints ns⟩
abbrev rAdd : R2 := fun x y H Q => rI0 (fun i j => .int (i + j)) x y H Q ∨ rCat x y H Q ∨ (∃ i j, x = .str i ∧ y = .str j ∧ i.length + j.length ≤ sizeLine ∧ Q (.str (i ++ j)) H)
theorem op_addA : OpR X (binaryOp .Add) rAdd := op_add.or (op_cat.or op_add_str)
theorem addRef : OpRef K rAdd add3 := by
  intro B F σ H Γ x y dx dy Q QQ e rx ry q k
  unfold add3 at q
  split at q
  · cases rx; cases ry
    exact .inl ⟨_, _, rfl, rfl, k _ _ (po_int e q)⟩
  · obtain ⟨p, vs, rfl, h1, h2⟩ := rx
    obtain ⟨p', ws, rfl, h3, h4⟩ := ry
    refine .inr (.inl ⟨p, p', vs, ws, rfl, rfl, h1, h3, by rw [h2.length, h4.length]; exact q.1, fun l hl => k _ _ (po_newL e hl (h2.append h4) q.2)⟩)
  · cases rx; cases ry
    exact .inr (.inr ⟨_, _, rfl, rfl, q.1, k _ _ (po_str e q.2)⟩)
  · exact q.elim
theorem p3_add (ha : P3B K X a ta a3) (hb : P3B K X b tb b3) : P3 K X (.BinOp a .Add b pos) (tOp rAdd ta tb) (t3Op add3 a3 b3) := ⟨pe_op op_addA ha.pe hb.pe, ref_op addRef ha.rf hb.rf⟩
theorem p3_sub (ha : P3B K X a ta a3) (hb : P3B K X b tb b3) : P3 K X (.BinOp a .Sub b pos) (tOp (rI0 fun i j => .int (i - j)) ta tb) (t3Op (i2' fun i j => .int (i - j)) a3 b3) := ⟨pe_op op_sub ha.pe hb.pe, ref_op (opI0 fun _ _ _ => rfl) ha.rf hb.rf⟩
theorem p3_mul (ha : P3B K X a ta a3) (hb : P3B K X b tb b3) : P3 K X (.BinOp a .Mult b pos) (tOp (rI CMul fun i j => .int (i * j)) ta tb) (t3Op (i2 CMul fun i j => .int (i * j)) a3 b3) := ⟨pe_op op_mul ha.pe hb.pe, ref_op (opI fun _ _ _ => rfl) ha.rf hb.rf⟩
theorem p3_fdiv (ha : P3B K X a ta a3) (hb : P3B K X b tb b3) : P3 K X (.BinOp a .FloorDiv b pos) (tOp (rI CDiv fun i j => .int (i / j)) ta tb) (t3Op (i2 CDiv fun i j => .int (i / j)) a3 b3) := ⟨pe_op op_fdiv ha.pe hb.pe, ref_op (opI fun _ _ _ => rfl) ha.rf hb.rf⟩
theorem p3_mod (ha : P3B K X a ta a3) (hb : P3B K X b tb b3) : P3 K X (.BinOp a .Mod b pos) (tOp (rI (fun _ j => 0 < j) fun i j => .int (i % j)) ta tb) (t3Op (i2 (fun _ j => 0 < j) fun i j => .int (i % j)) a3 b3) := ⟨pe_op op_mod ha.pe hb.pe, ref_op (opI fun _ _ _ => rfl) ha.rf hb.rf⟩
theorem p3_powI (ha : P3B K X a ta a3) (hb : P3B K X b tb b3) : P3 K X (.BinOp a .Pow b pos) (tOp (rI CPow fun i j => .int (i ^ j.toNat)) ta tb) (t3Op (i2 CPow fun i j => .int (i ^ j.toNat)) a3 b3) := ⟨pe_op op_pow ha.pe hb.pe, ref_op (opI fun _ _ _ => rfl) ha.rf hb.rf⟩
/-- comparisons of ints -/
def cmpI (f : Int → Int → Bool) (x y : D) (Γ : G) (Q : RV → G → Prop) : Prop := i2' (fun i j => .bl (f i j)) x y Γ Q
abbrev f_lt (i j : Int) : Bool := decide (i < j)
abbrev f_le (i j : Int) : Bool := decide (i ≤ j)
abbrev f_gt (i j : Int) : Bool := decide (j < i)
abbrev f_ge (i j : Int) : Bool := decide (j ≤ i)
/-- a comparison's rule: the model's, the layer's, the plain one -/
structure C3 (K : PySem.W.Frag) (X : Cx) (op : CmpOp) (r : R2) (o3 : D → D → TE3) : Prop where
  op : OpR X (compareOp op) r
  rf : OpRef K r o3
theorem c3_lt : C3 K X .Lt (rI0 fun i j => .bl (decide (i < j))) (cmpI f_lt) := ⟨op_lt, opI0 fun _ _ _ => rfl⟩
theorem c3_le : C3 K X .LtE (rI0 fun i j => .bl (decide (i ≤ j))) (cmpI f_le) := ⟨op_le, opI0 fun _ _ _ => rfl⟩
theorem c3_gt : C3 K X .Gt (rI0 fun i j => .bl (decide (j < i))) (cmpI f_gt) := ⟨op_gt, opI0 fun _ _ _ => rfl⟩
/-- == of plain things -/
def eqS : D → D → Option Bool
  | .int i, .int j => some (decide (i = j))
  | .str i, .str j => some (decide (i = j))
  | .bl i, .bl j => some (decide (i = j))
  | .non, .non => some true
  | .int _, .str _ => some false
  | .str _, .int _ => some false
  | .bl _, .str _ => some false
  | .str _, .bl _ => some false
  | .non, .int _ => some false
  | .int _, .non => some false
  | .non, .str _ => some false
  | .str _, .non => some false
  | .non, .bl _ => some false
  | .bl _, .non => some false
  | _, _ => none
def eq3 (neg : Bool) (x y : D) (Γ : G) (Q : RV → G → Prop) : Prop := match eqS x y with
  | some k => Q (.fz (.bl (neg ^^ k))) Γ
  | none => False
theorem p3_cmp {op : CmpOp} {r : R2} {o3 : D → D → TE3} (h : C3 K X op r o3) (ha : P3B K X a ta a3) (hb : P3B K X b tb b3) (hm : behindInMarks op b = false) : P3 K X (.Compare a [op] [b] pos) (tOp r ta tb) (t3Op o3 a3 b3) := ⟨pe_cmpR h.op ha.pe hb.pe hm, ref_op h.rf ha.rf hb.rf⟩
def t3Chain (o3 o3' : D → D → TE3) (a3 b3 c3 : TB3) (Γ : G) (Q : RV → G → Prop) : Prop := a3 Γ fun x Γ1 => b3 Γ1 fun y Γ2 => ∃ dx dy, x.at Γ2 = some dx ∧ y.at Γ2 = some dy ∧ o3 dx dy Γ2 fun z Γ3 => match z with
  | .fz (.bl true) => c3 Γ3 fun w Γ4 => ∃ dy dw, y.at Γ4 = some dy ∧ w.at Γ4 = some dw ∧ o3' dy dw Γ4 Q
  | .fz (.bl false) => Q (.fz (.bl false)) Γ3
  | _ => False
theorem ref_chain {r r' : R2} {o3 o3' : D → D → TE3} (h : OpRef K r o3) (h' : OpRef K r' o3') (ha : RefB K ta a3) (hb : RefB K tb b3) (hc : RefB K tc c3) : Ref K (tChain r r' ta tb tc) (t3Chain o3 o3' a3 b3 c3) := by
  intro B F σ H Γ Q QQ e q k
  refine ha B F σ H Γ _ _ e q (fun v H1 ⟨F1, Γ1, x, s1, e1, r1, q1⟩ => ?_)
  refine hb B F1 σ H1 Γ1 _ _ e1 q1 (fun u H2 ⟨F2, Γ2, y, s2, e2, r2, dx, dy, h1, h2, q2⟩ => ?_)
  refine h B F2 σ H2 Γ2 v u dx dy _ _ e2 (e2.bo (r1.mono s2) h1) (e2.bo r2 h2) q2 fun z H3 ⟨F3, Γ3, z3, s3, e3, r3, q3⟩ => ?_
  have sall := (s1.trans s2).trans s3
  revert r3 q3
  split
  · intro r3 q3
    refine ⟨true, r3, ?_⟩
    rw [if_pos rfl]
    refine hc B F3 σ H3 Γ3 _ _ e3 q3 (fun w H4 ⟨F4, Γ4, w3, s4, e4, r4, dy, dw, h3, h4, q4⟩ => ?_)
    exact h' B F4 σ H4 Γ4 u w dy dw Q QQ e4 (e4.bo (r2.mono (s3.trans s4)) h3) (e4.bo r4 h4) q4 fun z H5 p => k z H5 (p.mono (sall.trans s4))
  · intro r3 q3
    refine ⟨false, r3, ?_⟩
    rw [if_neg (by simp)]
    exact k _ _ (Po.mono sall (po_bl e3 q3))
  · intro _ q3; exact q3.elim
theorem p3_chain {op op' : CmpOp} {r r' : R2} {o3 o3' : D → D → TE3} (h : C3 K X op r o3) (h' : C3 K X op' r' o3') (ha : P3B K X a ta a3) (hb : P3B K X b tb b3) (hc : P3B K X c tc c3) (hm : lastMarks [op, op'] [b, c] = false := by with_unfolding_all rfl) :
    P3 K X (.Compare a [op, op'] [b, c] pos) (tChain r r' ta tb tc) (t3Chain o3 o3' a3 b3 c3) := ⟨pe_chain h.op h'.op ha.pe hb.pe hc.pe hm, ref_chain h.rf h'.rf ha.rf hb.rf hc.rf⟩
def neg3 (x : D) (Γ : G) (Q : RV → G → Prop) : Prop := match x with
  | .int i => Q (.fz (.int (-i))) Γ
  | _ => False
theorem p3_neg (ha : P3B K X a ta a3) : P3 K X (.UnaryOp .USub a pos) (tUn (rU fun i => .int (-i)) ta) (t3Un neg3 a3) := ⟨pe_un un_neg ha.pe, ref_un (r := rU fun i => .int (-i)) (ta := ta) (by
  intro B F σ H Γ x dx Q QQ e rx q k
  unfold neg3 at q
  split at q
  · cases rx
    exact ⟨_, rfl, k _ _ (po_int e q)⟩
  · exact q.elim) ha.rf⟩
end
end L3


namespace L3
open PySem L2 PySem.Spec
/-! ### tests -/
abbrev TT3 := G → (Bool → G → Prop) → Prop
def PoT (K : PySem.W.Frag) (B : Bs) (F : Hp) (σ : L2.St) (Q : Bool → G → Prop) : Bool → Hp → Prop := fun b H' => ∃ F' Γ', Same F F' ∧ En K B F' σ H' Γ' ∧ Q b Γ'
def RefT (K : PySem.W.Frag) (t : TT) (t3 : TT3) : Prop := ∀ (B : Bs) (F : Hp) (σ : L2.St) (H : Hp) (Γ : G) (Q : Bool → G → Prop) (QQ : Bool → Hp → Prop), En K B F σ H Γ → t3 Γ Q → (∀ b H', PoT K B F σ Q b H' → QQ b H') → t σ H QQ
structure P3T (K : PySem.W.Frag) (X : Cx) (e : Expr) (t : TT) (t3 : TT3) : Prop where
  pe : PT X e t
  rf : RefT K t t3
structure P3W (K : PySem.W.Frag) (X : Cx) (e : Expr) (t : TT) (t3 : TT3) : Prop where
  pe : PW X e t
  rf : RefT K t t3
section
variable {K : PySem.W.Frag} {X : Cx} {a b c : Expr} {ta tb tc : TE} {a3 b3 c3 : TE3} {a3' b3' c3' : TB3} {pos : Pos} {tA tB' : TT} {A3 B3 : TT3} {rest : List Expr}
/-- a truth, whatever thing it is -/
def tst (a3 : TE3) (Γ : G) (Q : Bool → G → Prop) : Prop := a3 Γ fun x Γ1 => match x.d with
  | .bl k => Q k Γ1
  | _ => False
theorem PoT.mono {B : Bs} {F F' : Hp} {σ : L2.St} {H : Hp} {Q : Bool → G → Prop} {k : Bool} (s : Same F F') (h : PoT K B F' σ Q k H) : PoT K B F σ Q k H := by
  obtain ⟨F2, Γ', a, b⟩ := h
  exact ⟨F2, Γ', s.trans a, b⟩
theorem ref_b (h : Ref K ta a3) : RefT K (fun σ H Q => ta σ H fun x H1 => ∃ c, x = .bl c ∧ Q c H1) (tst a3) := by
  intro B F σ H Γ Q QQ e q k
  refine h B F σ H Γ _ _ e q (fun v H1 ⟨F1, Γ1, x, s1, e1, r1, q1⟩ => ?_)
  obtain ⟨F1', s1', e1', r1'⟩ := e1.frozen r1
  revert r1' q1
  split
  · rename_i hz
    intro q1 r1'
    rw [hz] at r1'
    exact ⟨_, r1', k _ _ ⟨F1', Γ1, s1.trans s1', e1', q1⟩⟩
  · intro q1; exact q1.elim
theorem p3t_val {e : Expr} {t : TE} {e3 : TE3} (h : P3 K X e t e3) (he : ∀ whole, isTrue e X.env whole = (do let v ← whole; standAt e.pos; holding [v] (truthy v)) := by intro _; rfl) : P3T K X e (tB t) (tst e3) := ⟨pt_val h.pe he, ref_b h.rf⟩
theorem p3t_cmp {op : CmpOp} {r : R2} {o3 : D → D → TE3} (h : C3 K X op r o3) (ha : P3B K X a ta a3') (hb : P3B K X b tb b3') (hm : behindInMarks op b = false) : P3T K X (.Compare a [op] [b] pos) (tTest (tOp r ta tb)) (tst (t3Op o3 a3' b3')) :=
  ⟨pt_cmpR h.op ha.pe hb.pe hm, ref_b (ref_op h.rf ha.rf hb.rf)⟩
theorem p3t_chain {op op' : CmpOp} {r r' : R2} {o3 o3' : D → D → TE3} (h : C3 K X op r o3) (h' : C3 K X op' r' o3') (ha : P3B K X a ta a3') (hb : P3B K X b tb b3') (hc : P3B K X c tc c3') (hm : lastMarks [op, op'] [b, c] = false := by with_unfolding_all rfl) :
    P3T K X (.Compare a [op, op'] [b, c] pos) (tTest (tChain r r' ta tb tc)) (tst (t3Chain o3 o3' a3' b3' c3')) := ⟨pt_chain h.op h'.op ha.pe hb.pe hc.pe hm, ref_b (ref_chain h.rf h'.rf ha.rf hb.rf hc.rf)⟩
def and3 (A3 B3 : TT3) (Γ : G) (Q : Bool → G → Prop) : Prop := A3 Γ fun c Γ1 => match c with
  | true => B3 Γ1 Q
  | false => Q false Γ1
def or3 (A3 B3 : TT3) (Γ : G) (Q : Bool → G → Prop) : Prop := A3 Γ fun c Γ1 => match c with
  | true => Q true Γ1
  | false => B3 Γ1 Q
def not3 (A3 : TT3) (Γ : G) (Q : Bool → G → Prop) : Prop := A3 Γ fun c Γ1 => Q (!c) Γ1
theorem ref_and (ha : RefT K tA A3) (hb : RefT K tB' B3) : RefT K (tAnd tA tB') (and3 A3 B3) := by
  intro B F σ H Γ Q QQ e q k
  refine ha B F σ H Γ _ _ e q (fun c H1 ⟨F1, Γ1, s1, e1, q1⟩ => ?_)
  cases c with
  | true => exact iteT (hb B F1 σ H1 Γ1 _ _ e1 q1 fun c H2 p => k _ _ (p.mono s1))
  | false => exact iteF (k _ _ ⟨F1, Γ1, s1, e1, q1⟩)
theorem ref_or (ha : RefT K tA A3) (hb : RefT K tB' B3) : RefT K (tOr tA tB') (or3 A3 B3) := by
  intro B F σ H Γ Q QQ e q k
  refine ha B F σ H Γ _ _ e q (fun c H1 ⟨F1, Γ1, s1, e1, q1⟩ => ?_)
  cases c with
  | true => exact iteT (k _ _ ⟨F1, Γ1, s1, e1, q1⟩)
  | false => exact iteF (hb B F1 σ H1 Γ1 _ _ e1 q1 fun c H2 p => k _ _ (p.mono s1))
theorem ref_not (ha : RefT K tA A3) : RefT K (tNot tA) (not3 A3) := by
  intro B F σ H Γ Q QQ e q k
  exact ha B F σ H Γ _ _ e q (fun c H1 ⟨F1, Γ1, s1, e1, q1⟩ => k _ _ ⟨F1, Γ1, s1, e1, q1⟩)
theorem p3w_and1 (ha : P3T K X a tA A3) : P3W K X (.BoolOp .And [a] pos) tA A3 := ⟨pw_and1 ha.pe, ha.rf⟩
theorem p3w_or1 (ha : P3T K X a tA A3) : P3W K X (.BoolOp .Or [a] pos) tA A3 := ⟨pw_or1 ha.pe, ha.rf⟩
theorem p3w_and (ha : P3T K X a tA A3) (hb : P3W K X (.BoolOp .And (b :: rest) pos) tB' B3) : P3W K X (.BoolOp .And (a :: b :: rest) pos) (tAnd tA tB') (and3 A3 B3) := ⟨pw_and ha.pe hb.pe, ref_and ha.rf hb.rf⟩
theorem p3w_or (ha : P3T K X a tA A3) (hb : P3W K X (.BoolOp .Or (b :: rest) pos) tB' B3) : P3W K X (.BoolOp .Or (a :: b :: rest) pos) (tOr tA tB') (or3 A3 B3) := ⟨pw_or ha.pe hb.pe, ref_or ha.rf hb.rf⟩
theorem P3W.pt {e : Expr} (h : P3W K X e tA A3) : P3T K X e tA A3 := ⟨h.pe.pt, h.rf⟩
theorem p3t_not (ha : P3T K X a tA A3) : P3T K X (.UnaryOp .Not a pos) (tNot tA) (not3 A3) := ⟨pt_not ha.pe, ref_not ha.rf⟩
/-! and, or, not as values -/
def andV3 (a3 b3'' : TE3) (Γ : G) (Q : RV → G → Prop) : Prop := a3 Γ fun x Γ1 => match x.d with
  | .bl true => b3'' Γ1 Q
  | .bl false => Q (.fz (.bl false)) Γ1
  | _ => False
def orV3 (a3 b3'' : TE3) (Γ : G) (Q : RV → G → Prop) : Prop := a3 Γ fun x Γ1 => match x.d with
  | .bl true => Q (.fz (.bl true)) Γ1
  | .bl false => b3'' Γ1 Q
  | _ => False
def notV3 (a3 : TE3) (Γ : G) (Q : RV → G → Prop) : Prop := a3 Γ fun x Γ1 => match x.d with
  | .bl k => Q (.fz (.bl (!k))) Γ1
  | _ => False
theorem p3_one {op} (h : P3 K X a ta a3) : P3 K X (.BoolOp op [a] pos) ta a3 := ⟨pe_one h.pe, h.rf⟩
theorem p3_and (ha : P3 K X a ta a3) (hb : P3 K X (.BoolOp .And (b :: rest) pos) tb b3) : P3 K X (.BoolOp .And (a :: b :: rest) pos) (tAndV ta tb) (andV3 a3 b3) := ⟨pe_and ha.pe hb.pe, by
  intro B F σ H Γ Q QQ e q k
  refine ha.rf B F σ H Γ _ _ e q (fun v H1 ⟨F1, Γ1, x, s1, e1, r1, q1⟩ => ?_)
  obtain ⟨F1', s1', e1', r1'⟩ := e1.frozen r1
  revert r1' q1
  split
  · rename_i hz
    intro q1 r1'
    rw [hz] at r1'
    exact ⟨true, r1', iteT (hb.rf B F1' σ H1 Γ1 _ _ e1' q1 fun v H2 p => k _ _ (p.mono (s1.trans s1')))⟩
  · rename_i hz
    intro q1 r1'
    rw [hz] at r1'
    exact ⟨false, r1', iteF (k _ _ (Po.mono (s1.trans s1') (po_bl e1' q1)))⟩
  · intro q1; exact q1.elim⟩
def if3 (A3 : TT3) (a3 b3 : TE3) (Γ : G) (Q : RV → G → Prop) : Prop := A3 Γ fun c Γ1 => match c with
  | true => a3 Γ1 Q
  | false => b3 Γ1 Q
/-! ### lists of things -/
end
abbrev TA3 := G → (List D → G → Prop) → Prop
def PoA (K : PySem.W.Frag) (B : Bs) (F : Hp) (σ : L2.St) (Q : List D → G → Prop) : List V → Hp → Prop := fun vs H' => ∃ F' Γ' ds, Same F F' ∧ En K B F' σ H' Γ' ∧ RepL K F' ds vs ∧ Q ds Γ'
def RefA (K : PySem.W.Frag) (t : TA) (t3 : TA3) : Prop := ∀ (B : Bs) (F : Hp) (σ : L2.St) (H : Hp) (Γ : G) (Q : List D → G → Prop) (QQ : List V → Hp → Prop), En K B F σ H Γ → t3 Γ Q → (∀ vs H', PoA K B F σ Q vs H' → QQ vs H') → t σ H QQ
structure P3A (K : PySem.W.Frag) (X : Cx) (es : List Expr) (t : TA) (t3 : TA3) : Prop where
  pe : PA X es t
  rf : RefA K t t3
section
variable {K : PySem.W.Frag} {X : Cx} {e : Expr} {es : List Expr} {te : TE} {e3 : TE3} {t : TA} {t3 : TA3} {pos : Pos}
def nil3 (Γ : G) (Q : List D → G → Prop) : Prop := Q [] Γ
def cons3 (e3 : TE3) (t3 : TA3) (Γ : G) (Q : List D → G → Prop) : Prop := e3 Γ fun x Γ1 => t3 Γ1 fun xs Γ2 => Q (x.d :: xs) Γ2
theorem p3a_nil : P3A K X [] tNil nil3 := ⟨pa_nil, fun B F σ H Γ Q QQ e q k => k _ _ ⟨F, Γ, [], Same.refl F, e, rfl, q⟩⟩
theorem p3a_cons (ha : P3 K X e te e3) (hr : P3A K X es t t3) (hs : starEach (e :: es) X.env = (false, eval e X.env) :: starEach es X.env := by rfl) : P3A K X (e :: es) (tCons te t) (cons3 e3 t3) := ⟨pa_cons ha.pe hr.pe hs, by
  intro B F σ H Γ Q QQ e q k
  refine ha.rf B F σ H Γ _ _ e q (fun v H1 ⟨F1, Γ1, x, s1, e1, r1, q1⟩ => ?_)
  obtain ⟨F1', s1', e1', r1'⟩ := e1.frozen r1
  refine hr.rf B F1' σ H1 Γ1 _ _ e1' q1 (fun vs H2 ⟨F2, Γ2, ds, s2, e2, r2, q2⟩ => ?_)
  exact k _ _ ⟨F2, Γ2, x.d :: ds, (s1.trans s1').trans s2, e2, ⟨v, vs, rfl, r1'.mono s2, r2⟩, q2⟩⟩
def lst3 (t3 : TA3) (Γ : G) (Q : RV → G → Prop) : Prop := t3 Γ fun xs Γ1 => xs.length ≤ sizeLine ∧ Q (.fr (.lst xs)) Γ1
def tup3 (t3 : TA3) (Γ : G) (Q : RV → G → Prop) : Prop := t3 Γ fun xs Γ1 => xs.length ≤ sizeLine ∧ Q (.fz (.tup xs)) Γ1
theorem p3_lst (h : P3A K X es t t3) : P3 K X (.List es pos) (tLst t) (lst3 t3) := ⟨pe_lst h.pe, by
  intro B F σ H Γ Q QQ e q k
  refine h.rf B F σ H Γ _ _ e q (fun vs H1 ⟨F1, Γ1, ds, s1, e1, r1, q1⟩ => ?_)
  exact ⟨by rw [r1.length]; exact q1.1, fun p hp => k _ _ (Po.mono s1 (po_newL e1 hp r1 q1.2))⟩⟩
theorem p3_tup {x1} (h : P3A K X es t t3) : P3 K X (.Tuple es x1 pos) (tTup t) (tup3 t3) := ⟨pe_tup h.pe, by
  intro B F σ H Γ Q QQ e q k
  refine h.rf B F σ H Γ _ _ e q (fun vs H1 ⟨F1, Γ1, ds, s1, e1, r1, q1⟩ => ?_)
  exact ⟨by rw [r1.length]; exact q1.1, fun p hp => k _ _ (Po.mono s1 (po_newT e1 hp r1 q1.2))⟩⟩
end
/-! ### calls of Python's own -/
abbrev TAB3 := G → (List Bo → G → Prop) → Prop
def RepBos (K : PySem.W.Frag) (F : Hp) (σ : L2.St) : List Bo → List V → Prop
  | [], vs => vs = []
  | b :: bs, vs => ∃ v ws, vs = v :: ws ∧ RepBo K F σ b v ∧ RepBos K F σ bs ws
def RepBL (K : PySem.W.Frag) (F H : Hp) : List D → List V → Prop
  | [], vs => vs = []
  | d :: ds, vs => ∃ v ws, vs = v :: ws ∧ RepB K F H d v ∧ RepBL K F H ds ws
def ats (Γ : G) : List Bo → Option (List D)
  | [] => some []
  | b :: bs => match b.at Γ, ats Γ bs with
    | some d, some ds => some (d :: ds)
    | _, _ => none
def PoAB (K : PySem.W.Frag) (B : Bs) (F : Hp) (σ : L2.St) (Q : List Bo → G → Prop) : List V → Hp → Prop := fun vs H' => ∃ F' Γ' bs, Same F F' ∧ En K B F' σ H' Γ' ∧ RepBos K F' σ bs vs ∧ Q bs Γ'
def RefAB (K : PySem.W.Frag) (t : TA) (t3 : TAB3) : Prop := ∀ (B : Bs) (F : Hp) (σ : L2.St) (H : Hp) (Γ : G) (Q : List Bo → G → Prop) (QQ : List V → Hp → Prop), En K B F σ H Γ → t3 Γ Q → (∀ vs H', PoAB K B F σ Q vs H' → QQ vs H') → t σ H QQ
structure P3AB (K : PySem.W.Frag) (X : Cx) (es : List Expr) (t : TA) (t3 : TAB3) : Prop where
  pe : PA X es t
  rf : RefAB K t t3
section
variable {K : PySem.W.Frag} {X : Cx} {e : Expr} {es : List Expr} {te : TE} {e3 : TB3} {t : TA} {t3 : TAB3} {pos : Pos} {B : Bs} {F H : Hp} {σ : L2.St} {Γ : G}
theorem En.bos (e : En K B F σ H Γ) : ∀ {bs : List Bo} {vs : List V} {ds : List D}, RepBos K F σ bs vs → ats Γ bs = some ds → RepBL K F H ds vs
  | [], _, _, h, q => by cases q; exact h
  | b :: bs, _, _, ⟨v, ws, h1, h2, h3⟩, q => by
    unfold ats at q
    split at q
    · rename_i d ds hd hds
      cases q
      exact ⟨v, ws, h1, e.bo h2 hd, e.bos h3 hds⟩
    · cases q
def nilB (Γ : G) (Q : List Bo → G → Prop) : Prop := Q [] Γ
def consB (e3 : TB3) (t3 : TAB3) (Γ : G) (Q : List Bo → G → Prop) : Prop := e3 Γ fun x Γ1 => t3 Γ1 fun xs Γ2 => Q (x :: xs) Γ2
theorem b3a_nil : P3AB K X [] tNil nilB := ⟨pa_nil, fun B F σ H Γ Q QQ e q k => k _ _ ⟨F, Γ, [], Same.refl F, e, rfl, q⟩⟩
theorem b3a_cons (ha : P3B K X e te e3) (hr : P3AB K X es t t3) (hs : starEach (e :: es) X.env = (false, eval e X.env) :: starEach es X.env := by rfl) : P3AB K X (e :: es) (tCons te t) (consB e3 t3) := ⟨pa_cons ha.pe hr.pe hs, by
  intro B F σ H Γ Q QQ e q k
  refine ha.rf B F σ H Γ _ _ e q (fun v H1 ⟨F1, Γ1, x, s1, e1, r1, q1⟩ => ?_)
  refine hr.rf B F1 σ H1 Γ1 _ _ e1 q1 (fun vs H2 ⟨F2, Γ2, ds, s2, e2, r2, q2⟩ => ?_)
  exact k _ _ ⟨F2, Γ2, x :: ds, s1.trans s2, e2, ⟨v, vs, rfl, r1.mono s2, r2⟩, q2⟩⟩
def CallRef (K : PySem.W.Frag) (r : List V → Hp → VK → Prop) (c3 : List D → TE3) : Prop := ∀ (B : Bs) (F : Hp) (σ : L2.St) (H : Hp) (Γ : G) (vs : List V) (ds : List D) (Q : RV → G → Prop) (QQ : VK), En K B F σ H Γ → RepBL K F H ds vs → c3 ds Γ Q → (∀ v H', Po K B F σ Q v H' → QQ v H') → r vs H QQ
def call3 (c3 : List D → TE3) (t3 : TAB3) (Γ : G) (Q : RV → G → Prop) : Prop := t3 Γ fun bs Γ1 => ∃ ds, ats Γ1 bs = some ds ∧ c3 ds Γ1 Q
theorem ref_cb {r : List V → Hp → VK → Prop} {c3 : List D → TE3} (h : CallRef K r c3) (ha : RefAB K t t3) : Ref K (tCB r t) (call3 c3 t3) := by
  intro B F σ H Γ Q QQ e q k
  refine ha B F σ H Γ _ _ e q (fun vs H1 ⟨F1, Γ1, bs, s1, e1, r1, ds, hd, q1⟩ => ?_)
  exact h B F1 σ H1 Γ1 vs ds Q QQ e1 (e1.bos r1 hd) q1 fun v H2 p => k _ _ (p.mono s1)
structure B3 (K : PySem.W.Frag) (X : Cx) (f : Value) (r : List V → Hp → VK → Prop) (c3 : List D → TE3) : Prop where
  op : CallR X f r
  rf : CallRef K r c3
variable {x : Str} {p : Pos} {id T : String} {r : List V → Hp → VK → Prop} {c3 : List D → TE3}
theorem p3_callB (hc : B3 K X (.builtin id) r c3) (hg : Gl X x) (hm : X.mg x = none) (hv : bootBuiltins x = some (.builtin id)) (ha : P3AB K X (e :: es) t t3) (hn : x ≠ "__name__" := by decide) (hdb : (x == ("__debug__" : Str)) = false := by decide)
    (he : starEach (e :: es) X.env = (false, eval e X.env) :: starEach es X.env := by rfl) (hpl : (backTo pos (starEach es X.env)).any (·.1) = false := by rfl) : P3 K X (.Call (.Name x p) (e :: es) [] pos) (tCB r t) (call3 c3 t3) :=
  ⟨pe_callB hc.op hg hm hv ha.pe hn hdb he hpl, ref_cb hc.rf ha.rf⟩
theorem p3_callTy (hc : B3 K X (.type T) r c3) (hg : Gl X x) (hm : X.mg x = none) (hv : bootBuiltins x = some (.type T)) (ha : P3AB K X (e :: es) t t3) (hn : x ≠ "__name__" := by decide) (hdb : (x == ("__debug__" : Str)) = false := by decide)
    (he : starEach (e :: es) X.env = (false, eval e X.env) :: starEach es X.env := by rfl) (hpl : (backTo pos (starEach es X.env)).any (·.1) = false := by rfl) : P3 K X (.Call (.Name x p) (e :: es) [] pos) (tCB r t) (call3 c3 t3) :=
  ⟨pe_callTy hc.op hg hm hv ha.pe hn hdb he hpl, ref_cb hc.rf ha.rf⟩
def abs3 (ds : List D) (Γ : G) (Q : RV → G → Prop) : Prop := match ds with
  | [.int i] => Q (.fz (.int (if i < 0 then -i else i))) Γ
  | _ => False
def mx3 (f : Int → Int → Int) (ds : List D) (Γ : G) (Q : RV → G → Prop) : Prop := match ds with
  | [.int i, .int j] => Q (.fz (.int (f i j))) Γ
  | _ => False
theorem RepBL.one {d : D} {vs : List V} (h : RepBL K F H [d] vs) : ∃ v, vs = [v] ∧ RepB K F H d v := by
  obtain ⟨v, ws, rfl, h1, h2⟩ := h
  cases h2
  exact ⟨v, rfl, h1⟩
theorem RepBL.two {d e : D} {vs : List V} (h : RepBL K F H [d, e] vs) : ∃ v w, vs = [v, w] ∧ RepB K F H d v ∧ RepB K F H e w := by
  obtain ⟨v, ws, rfl, h1, h2⟩ := h
  obtain ⟨w, rfl, h3⟩ := RepBL.one h2
  exact ⟨v, w, rfl, h1, h3⟩
abbrev fmax (i j : Int) : Int := if j > i then j else i
abbrev fmin (i j : Int) : Int := if j < i then j else i
theorem c_max (hc : X.calm = true) : B3 K X (.builtin "max") (fun xs H Q => ∃ i j, xs = [.int i, .int j] ∧ Q (.int (if j > i then j else i)) H) (mx3 fmax) := ⟨call_max2 hc, by
  intro B F σ H Γ vs ds Q QQ e r q k
  unfold mx3 at q
  split at q
  · obtain ⟨v, w, rfl, h, h'⟩ := r.two
    cases h; cases h'
    exact ⟨_, _, rfl, k _ _ (po_int e q)⟩
  · exact q.elim⟩
theorem c_min (hc : X.calm = true) : B3 K X (.builtin "min") (fun xs H Q => ∃ i j, xs = [.int i, .int j] ∧ Q (.int (if j < i then j else i)) H) (mx3 fmin) := ⟨call_min2 hc, by
  intro B F σ H Γ vs ds Q QQ e r q k
  unfold mx3 at q
  split at q
  · obtain ⟨v, w, rfl, h, h'⟩ := r.two
    cases h; cases h'
    exact ⟨_, _, rfl, k _ _ (po_int e q)⟩
  · exact q.elim⟩
def int3 (ds : List D) (Γ : G) (Q : RV → G → Prop) : Prop := match ds with
  | [.int i] => Q (.fz (.int i)) Γ
  | [.bl k] => Q (.fz (.int (if k then 1 else 0))) Γ
  | _ => False
theorem c_int : B3 K X (.type "int") (fun xs H Q => (∃ i, xs = [.int i] ∧ Q (.int i) H) ∨ ∃ k, xs = [.bl k] ∧ Q (.int (if k then 1 else 0)) H) int3 := ⟨call_int1, by
  intro B F σ H Γ vs ds Q QQ e r q k
  unfold int3 at q
  split at q
  · obtain ⟨v, rfl, h⟩ := r.one
    cases h
    exact .inl ⟨_, rfl, k _ _ (po_int e q)⟩
  · obtain ⟨v, rfl, h⟩ := r.one
    cases h
    exact .inr ⟨_, rfl, k _ _ (po_int e q)⟩
  · exact q.elim⟩
/-- how many -/
def lenD : D → Option Nat
  | .lst xs => some xs.length
  | .tup xs => some xs.length
  | .ktup xs => some xs.length
  | .scr ns => some ns.length
  | _ => none
def len3 (ds : List D) (Γ : G) (Q : RV → G → Prop) : Prop := match ds with
  | [.str z] => z.length ≤ sizeLine ∧ Q (.fz (.int z.length)) Γ
  | [d] => ∃ n, lenD d = some n ∧ Q (.fz (.int n)) Γ
  | _ => False
abbrev rLen (K : PySem.W.Frag) : List V → Hp → VK → Prop := fun xs H Q => (∃ p ys, xs = [.ref p] ∧ (SqL K H p ys ∨ SqT K H p ys) ∧ Q (.int ys.length) H) ∨ (∃ z, xs = [.str z] ∧ z.length ≤ sizeLine ∧ Q (.int z.length) H)
theorem CallR.or' {f : Value} {r r' : List V → Hp → VK → Prop} (h : CallR X f r) (h' : CallR X f r') : CallR X f (fun xs H Q => r xs H Q ∨ r' xs H Q) := by
  intro pins s σ H xs us Q I rx q
  rcases q with q | q
  · exact h pins s σ H xs us Q I rx q
  · exact h' pins s σ H xs us Q I rx q
theorem lenD_sq {d : D} {v : V} {n : Nat} (s : Same F H) (h : RepB K F H d v) (hn : lenD d = some n) : ∃ p ys, v = .ref p ∧ (SqL K H p ys ∨ SqT K H p ys) ∧ ys.length = n := by
  unfold lenD at hn
  split at hn
  · cases hn
    obtain ⟨p, vs, rfl, h1, h2⟩ := h
    exact ⟨p, vs, rfl, .inl (SqL.of h1), h2.length⟩
  · cases hn
    obtain ⟨p, vs, rfl, h1, h2⟩ := h
    exact ⟨p, vs, rfl, .inr (.inl (.inl (s _ _ h1))), h2.length⟩
  · cases hn
    obtain ⟨p, vs, rfl, h1, h2⟩ := h
    exact ⟨p, vs, rfl, .inr (SqT.same s h1), h2.length⟩
  · cases hn
    obtain ⟨p, rfl, h1⟩ := h
    exact ⟨p, _, rfl, .inl (s.seq h1), by simp⟩
  · cases hn
theorem c_len (hK : X.K = K) : B3 K X (.builtin "len") (rLen K) len3 := ⟨by subst hK; exact CallR.or' call_len_seq call_len_str, by
  intro B F σ H Γ vs ds Q QQ e r q k
  unfold len3 at q
  split at q
  · obtain ⟨v, rfl, h⟩ := r.one
    cases h
    exact .inr ⟨_, rfl, q.1, k _ _ (po_int e q.2)⟩
  · obtain ⟨v, rfl, h⟩ := r.one
    obtain ⟨n, hn, q⟩ := q
    obtain ⟨p, ys, rfl, hs, hl⟩ := lenD_sq e.sub h hn
    subst hl
    exact .inl ⟨p, ys, rfl, hs, k _ _ (po_int e q)⟩
  · exact q.elim⟩
end
end L3


namespace L3
open PySem L2 PySem.Spec
section
variable {K : PySem.W.Frag} {X : Cx} {a b c : Expr} {ta tb tc : TE} {a3 b3 c3 : TB3} {pos : Pos} {B : Bs} {F H : Hp} {σ : L2.St} {Γ : G}
/-! ### items -/
theorem RepL.atI {xs : List D} {vs : List V} (h : RepL K F xs vs) {i : Int} {d : D} (e : atI xs i = some d) : ∃ v, L2.atI vs i = some v ∧ Rep K F d v := by
  unfold L2.atI at e ⊢
  rw [h.length]
  cases q : ixN xs.length i with
  | none => rw [q] at e; cases e
  | some j =>
    rw [q] at e
    exact h.get e
def ix3 (x y : D) (Γ : G) (Q : RV → G → Prop) : Prop := match x, y with
  | .lst xs, .int i => ∃ d, atI xs i = some d ∧ Q (.fz d) Γ
  | .tup xs, .int i => ∃ d, atI xs i = some d ∧ Q (.fz d) Γ
  | .ktup xs, .int i => ∃ d, atI xs i = some d ∧ Q (.fz d) Γ
  | .scr ns, .int i => ∃ n, atI ns i = some n ∧ Q (.fz (.int n)) Γ
  | .str z, .int i => z.length ≤ sizeLine ∧ ∃ c, atI z.cps.toList i = some c ∧ Q (.fz (.str ⟨#[c]⟩)) Γ
  | _, _ => False
theorem atI_map {α β : Type} {f : α → β} {xs : List α} {i : Int} {d : α} (e : atI xs i = some d) : atI (xs.map f) i = some (f d) := by
  unfold L2.atI at e ⊢
  rw [List.length_map]
  cases q : ixN xs.length i with
  | none => rw [q] at e; cases e
  | some j =>
    rw [q] at e
    show (xs.map f)[j]? = _
    rw [List.getElem?_map, show xs[j]? = some d from e]
    rfl
theorem ixRef : OpRef K (rIx K) ix3 := by
  intro B F σ H Γ x y dx dy Q QQ e rx ry q k
  unfold ix3 at q
  split at q
  · obtain ⟨d, hd, q⟩ := q
    obtain ⟨p, vs, rfl, h1, h2⟩ := rx
    cases ry
    obtain ⟨v, hv, r⟩ := h2.atI hd
    exact .inl ⟨p, vs, _, v, rfl, rfl, SqL.of h1, hv, k _ _ (po_fz e r q)⟩
  · obtain ⟨d, hd, q⟩ := q
    obtain ⟨p, vs, rfl, h1, h2⟩ := rx
    cases ry
    obtain ⟨v, hv, r⟩ := h2.atI hd
    exact .inr (.inl ⟨p, vs, _, v, rfl, rfl, .inl (.inl (e.sub _ _ h1)), hv, k _ _ (po_fz e r q)⟩)
  · obtain ⟨d, hd, q⟩ := q
    obtain ⟨p, vs, rfl, h1, h2⟩ := rx
    cases ry
    obtain ⟨v, hv, r⟩ := h2.atI hd
    exact .inr (.inl ⟨p, vs, _, v, rfl, rfl, SqT.same e.sub h1, hv, k _ _ (po_fz e r q)⟩)
  · obtain ⟨d, hd, q⟩ := q
    obtain ⟨p, rfl, h1⟩ := rx
    cases ry
    exact .inl ⟨p, _, _, .int d, rfl, rfl, e.sub.seq h1, atI_map hd, k _ _ (po_int e q)⟩
  · cases rx; cases ry
    obtain ⟨hz, c, hc, q⟩ := q
    exact .inr (.inr ⟨_, _, c, rfl, rfl, hz, hc, k _ _ (po_str e q)⟩)
  · exact q.elim
theorem p3_ix (hK : X.K = K) (ha : P3B K X a ta a3) (hb : P3B K X b tb b3) (hs : PlainIx b) : P3 K X (.Subscript a b pos) (tOp (rIx K) ta tb) (t3Op ix3 a3 b3) := ⟨pe_ix (by subst hK; exact ix_seq) ha.pe hb.pe hs, ref_op ixRef ha.rf hb.rf⟩
/-! ### slices -/
def cut {α : Type} (xs : List α) (lo hi : Option Int) : List α := (xs.drop (HT.sIx xs.length 0 lo)).take (HT.sIx xs.length xs.length hi - HT.sIx xs.length 0 lo)
def pk {α : Type} (xs : List α) (lo hi st : Option Int) : List α := (sliceRange (sliceBounds lo hi st xs.length).1 (sliceBounds lo hi st xs.length).2.1 (sliceBounds lo hi st xs.length).2.2).filterMap (xs[·]?)
theorem RepL.cut {xs : List D} {vs : List V} (h : RepL K F xs vs) (lo hi : Option Int) : RepL K F (cut xs lo hi) (cutV vs lo hi) := by
  unfold L3.cut cutV
  rw [h.length]
  exact (h.drop _).take _
theorem RepL.places {xs : List D} {vs : List V} (h : RepL K F xs vs) : ∀ js : List Nat, RepL K F (js.filterMap (xs[·]?)) (js.filterMap (vs[·]?))
  | [] => rfl
  | j :: js => by
    have ih := h.places js
    cases hn : xs[j]? with
    | some x =>
      obtain ⟨u, hu, r⟩ := h.get hn
      simp only [List.filterMap_cons, hn, hu]
      exact ⟨u, _, rfl, r, ih⟩
    | none =>
      have hv : vs[j]? = none := by
        rw [List.getElem?_eq_none_iff] at hn ⊢
        rw [h.length]; exact hn
      simp only [List.filterMap_cons, hn, hv]
      exact ih
theorem RepL.pk {xs : List D} {vs : List V} (h : RepL K F xs vs) (lo hi st : Option Int) : RepL K F (pk xs lo hi st) (pickV vs lo hi st) := by
  unfold L3.pk pickV
  rw [h.length]
  exact h.places _
abbrev TO3 := G → (Option Int → G → Prop) → Prop
def RefO (K : PySem.W.Frag) (t : TO) (t3 : TO3) : Prop := ∀ (B : Bs) (F : Hp) (σ : L2.St) (H : Hp) (Γ : G) (Q : Option Int → G → Prop) (QQ : Option Int → Hp → Prop), En K B F σ H Γ → t3 Γ Q → (∀ o H', (∃ F' Γ', Same F F' ∧ En K B F' σ H' Γ' ∧ Q o Γ') → QQ o H') → t σ H QQ
structure P3O (K : PySem.W.Frag) (X : Cx) (e : Option Expr) (t : TO) (t3 : TO3) : Prop where
  pe : PO X e t
  rf : RefO K t t3
def none3 (Γ : G) (Q : Option Int → G → Prop) : Prop := Q none Γ
def some3 (a3 : TB3) (Γ : G) (Q : Option Int → G → Prop) : Prop := a3 Γ fun x Γ1 => ∃ i, x.at Γ1 = some (.int i) ∧ Q (some i) Γ1
theorem p3o_none : P3O K X none tNoPart none3 := ⟨po_none, fun B F σ H Γ Q QQ e q k => k _ _ ⟨F, Γ, Same.refl F, e, q⟩⟩
theorem p3o_some (h : P3B K X a ta a3) : P3O K X (some a) (tPart ta) (some3 a3) := ⟨po_some h.pe, by
  intro B F σ H Γ Q QQ e q k
  refine h.rf B F σ H Γ _ _ e q (fun v H1 ⟨F1, Γ1, x, s1, e1, r1, i, h1, q1⟩ => ?_)
  have : v = .int i := e1.bo r1 h1
  exact ⟨i, this, k _ _ ⟨F1, Γ1, s1, e1, q1⟩⟩⟩
def sl3 (a3 : TB3) (l3 h3 : TO3) (Γ : G) (Q : RV → G → Prop) : Prop := a3 Γ fun x Γ1 => l3 Γ1 fun lo Γ2 => h3 Γ2 fun hi Γ3 => ∃ xs, x.at Γ3 = some (.lst xs) ∧ Q (.fr (.lst (cut xs lo hi))) Γ3
theorem p3_slice {lo hi : Option Expr} {tl th : TO} {l3 h3 : TO3} {p2 : Pos} (hK : X.K = K) (ha : P3B K X a ta a3) (hl : P3O K X lo tl l3) (hh : P3O K X hi th h3) : P3 K X (.Subscript a (.Slice lo hi none p2) pos) (tSl (rSlL K) ta tl th) (sl3 a3 l3 h3) :=
  ⟨pe_slice (by subst hK; exact sl_list) ha.pe hl.pe hh.pe, by
  intro B F σ H Γ Q QQ e q k
  refine ha.rf B F σ H Γ _ _ e q (fun v H1 ⟨F1, Γ1, x, s1, e1, r1, q1⟩ => ?_)
  refine hl.rf B F1 σ H1 Γ1 _ _ e1 q1 (fun lo H2 ⟨F2, Γ2, s2, e2, q2⟩ => ?_)
  refine hh.rf B F2 σ H2 Γ2 _ _ e2 q2 (fun hi H3 ⟨F3, Γ3, s3, e3, xs, h3, q3⟩ => ?_)
  obtain ⟨p, vs, rfl, h4, h5⟩ := e3.bo (r1.mono (s2.trans s3)) h3
  exact ⟨p, vs, rfl, SqL.of h4, fun l hl => k _ _ (Po.mono ((s1.trans s2).trans s3) (po_newL e3 hl (h5.cut lo hi) q3))⟩⟩
/-- a[lo:hi] of a tuple, not the whole -/
def slT3 (a3 : TB3) (l3 h3 : TO3) (Γ : G) (Q : RV → G → Prop) : Prop := a3 Γ fun x Γ1 => l3 Γ1 fun lo Γ2 => h3 Γ2 fun hi Γ3 => ∃ xs, x.at Γ3 = some (.tup xs) ∧ ¬ (HT.sIx xs.length 0 lo = 0 ∧ HT.sIx xs.length xs.length hi = xs.length) ∧ Q (.fz (.tup (cut xs lo hi))) Γ3
def slS3 (a3 : TB3) (l3 h3 s3 : TO3) (Γ : G) (Q : RV → G → Prop) : Prop := a3 Γ fun x Γ1 => l3 Γ1 fun lo Γ2 => h3 Γ2 fun hi Γ3 => s3 Γ3 fun st Γ4 => st ≠ some 0 ∧ ∃ xs, x.at Γ4 = some (.lst xs) ∧ Q (.fr (.lst (pk xs lo hi st))) Γ4
theorem p3_slice3 {lo hi : Option Expr} {st : Expr} {tl th ts : TO} {l3 h3 s3 : TO3} {p2 : Pos} (hK : X.K = K) (ha : P3B K X a ta a3) (hl : P3O K X lo tl l3) (hh : P3O K X hi th h3) (hs : P3O K X (some st) ts s3) : P3 K X (.Subscript a (.Slice lo hi (some st) p2) pos) (tSl3 K ta tl th ts) (slS3 a3 l3 h3 s3) :=
  ⟨by subst hK; exact pe_slice3 ha.pe hl.pe hh.pe hs.pe, by
  intro B F σ H Γ Q QQ e q k
  refine ha.rf B F σ H Γ _ _ e q (fun v H1 ⟨F1, Γ1, x, s1, e1, r1, q1⟩ => ?_)
  refine hl.rf B F1 σ H1 Γ1 _ _ e1 q1 (fun lo H2 ⟨F2, Γ2, s2, e2, q2⟩ => ?_)
  refine hh.rf B F2 σ H2 Γ2 _ _ e2 q2 (fun hi H3 ⟨F3, Γ3, s3, e3, q3⟩ => ?_)
  refine hs.rf B F3 σ H3 Γ3 _ _ e3 q3 (fun st H4 ⟨F4, Γ4, s4, e4, hst, xs, h4, q4⟩ => ?_)
  obtain ⟨p, vs, rfl, h5, h6⟩ := e4.bo (r1.mono ((s2.trans s3).trans s4)) h4
  exact ⟨hst, p, vs, rfl, SqL.of h5, fun l hl => k _ _ (Po.mono (((s1.trans s2).trans s3).trans s4) (po_newL e4 hl (h6.pk lo hi st) q4))⟩⟩
/-! ### list(..), tuple(..), isinstance, all, in -/
def itemsD : D → Option (List D)
  | .lst xs => some xs
  | .tup xs => some xs
  | .ktup xs => some xs
  | .scr ns => some (ns.map .int)
  | _ => none
theorem itemsD_sq {d : D} {v : V} {xs : List D} (s : Same F H) (h : RepB K F H d v) (hn : itemsD d = some xs) : ∃ p ys, v = .ref p ∧ (SqL K H p ys ∨ SqT K H p ys) ∧ RepL K F xs ys := by
  unfold itemsD at hn
  split at hn
  · cases hn
    obtain ⟨p, vs, rfl, h1, h2⟩ := h
    exact ⟨p, vs, rfl, .inl (SqL.of h1), h2⟩
  · cases hn
    obtain ⟨p, vs, rfl, h1, h2⟩ := h
    exact ⟨p, vs, rfl, .inr (.inl (.inl (s _ _ h1))), h2⟩
  · cases hn
    obtain ⟨p, vs, rfl, h1, h2⟩ := h
    exact ⟨p, vs, rfl, .inr (SqT.same s h1), h2⟩
  · cases hn
    obtain ⟨p, rfl, h1⟩ := h
    exact ⟨p, _, rfl, .inl (s.seq h1), RepL.ints _⟩
  · cases hn
def list3 (ds : List D) (Γ : G) (Q : RV → G → Prop) : Prop := match ds with
  | [d] => ∃ xs, itemsD d = some xs ∧ Q (.fr (.lst xs)) Γ
  | _ => False
theorem c_list (hK : X.K = K) : B3 K X (.type "list") (fun xs H Q => ∃ p ys, xs = [.ref p] ∧ (SqL K H p ys ∨ SqT K H p ys) ∧ ∀ l, H l = none → Q (.ref l) (upd H l (.lst ys))) list3 := ⟨by subst hK; exact call_list_of, by
  intro B F σ H Γ vs ds Q QQ e r q k
  unfold list3 at q
  split at q
  · obtain ⟨v, rfl, h⟩ := r.one
    obtain ⟨xs, hn, q⟩ := q
    obtain ⟨p, ys, rfl, hs, hl⟩ := itemsD_sq e.sub h hn
    exact ⟨p, ys, rfl, hs, fun l hf => k _ _ (po_newL e hf hl q)⟩
  · exact q.elim⟩
def tuple3 (ds : List D) (Γ : G) (Q : RV → G → Prop) : Prop := match ds with
  | [.lst xs] => Q (.fz (.tup xs)) Γ
  | _ => False
def knD : D → Bool
  | .non => true | .bl _ => true | .int _ => true | .str _ => true | .lst _ => true | .tup _ => true | _ => false
theorem knD_kn {d : D} {v : V} (s : Same F H) (h : RepB K F H d v) (hk : knD d = true) : Kn H v := by
  unfold knD at hk
  split at hk
  · cases h; exact .non
  · cases h; exact .bl _
  · cases h; exact .int _
  · cases h; exact .str _
  · obtain ⟨p, vs, rfl, h1, _⟩ := h; exact .lst h1
  · obtain ⟨p, vs, rfl, h1, _⟩ := h; exact .tup (s _ _ h1)
  · cases hk
def dB : D → Bool
  | .bl _ => true | _ => false
def dI : D → Bool
  | .bl _ => true | .int _ => true | _ => false
def dL : D → Bool
  | .lst _ => true | _ => false
def dT : D → Bool
  | .tup _ => true | _ => false
def is3 (t : String) (f : D → Bool) (ds : List D) (Γ : G) (Q : RV → G → Prop) : Prop := match ds with
  | [d, .ty t'] => t' = t ∧ knD d = true ∧ Q (.fz (.bl (f d))) Γ
  | _ => False
theorem c_is {t : String} {f : D → Bool} {g : Hp → V → Bool} (h : CallR X (.builtin "isinstance") (fun xs H Q => ∃ x, xs = [x, .ty t] ∧ Kn H x ∧ Q (.bl (g H x)) H))
    (hg : ∀ {F H : Hp} {d : D} {v : V}, Same F H → RepB K F H d v → knD d = true → g H v = f d) : B3 K X (.builtin "isinstance") (fun xs H Q => ∃ x, xs = [x, .ty t] ∧ Kn H x ∧ Q (.bl (g H x)) H) (is3 t f) := ⟨h, by
  intro B F σ H Γ vs ds Q QQ e r q k
  unfold is3 at q
  split at q
  · obtain ⟨v, w, rfl, h1, h2⟩ := r.two
    obtain ⟨rfl, hk, q⟩ := q
    cases h2
    exact ⟨v, rfl, knD_kn e.sub h1 hk, by rw [hg e.sub h1 hk]; exact k _ _ (po_bl e q)⟩
  · exact q.elim⟩
theorem c_isB (T : TyFacts X.K) : B3 K X (.builtin "isinstance") (fun xs H Q => ∃ x, xs = [x, .ty "bool"] ∧ Kn H x ∧ Q (.bl (isB x)) H) (is3 "bool" dB) := c_is (g := fun _ v => isB v) (call_isB T) fun s h hk => by
  unfold knD at hk
  split at hk
  · cases h; rfl
  · cases h; rfl
  · cases h; rfl
  · cases h; rfl
  · obtain ⟨p, vs, rfl, h1, _⟩ := h; rfl
  · obtain ⟨p, vs, rfl, h1, _⟩ := h; rfl
  · cases hk
theorem c_isI (T : TyFacts X.K) : B3 K X (.builtin "isinstance") (fun xs H Q => ∃ x, xs = [x, .ty "int"] ∧ Kn H x ∧ Q (.bl (isI x)) H) (is3 "int" dI) := c_is (g := fun _ v => isI v) (call_isI T) fun s h hk => by
  unfold knD at hk
  split at hk
  · cases h; rfl
  · cases h; rfl
  · cases h; rfl
  · cases h; rfl
  · obtain ⟨p, vs, rfl, h1, _⟩ := h; rfl
  · obtain ⟨p, vs, rfl, h1, _⟩ := h; rfl
  · cases hk
theorem c_isL (T : TyFacts X.K) : B3 K X (.builtin "isinstance") (fun xs H Q => ∃ x, xs = [x, .ty "list"] ∧ Kn H x ∧ Q (.bl (isL H x)) H) (is3 "list" dL) := c_is (call_isL T) fun s h hk => by
  unfold knD at hk
  split at hk
  · cases h; rfl
  · cases h; rfl
  · cases h; rfl
  · cases h; rfl
  · obtain ⟨p, vs, rfl, h1, _⟩ := h; exact isL_lst h1
  · obtain ⟨p, vs, rfl, h1, _⟩ := h; exact isL_tup (s _ _ h1)
  · cases hk
def all3 (ds : List D) (Γ : G) (Q : RV → G → Prop) : Prop := match ds with
  | [.lst xs] => ∃ bs : List Bool, xs = bs.map .bl ∧ Q (.fz (.bl (bs.all id))) Γ
  | _ => False
theorem RepL.bls_inv : ∀ {bs : List Bool} {vs : List V}, RepL K F (bs.map D.bl) vs → vs = bs.map V.bl
  | [], _, h => h
  | n :: ns, _, ⟨v, ws, h1, h2, h3⟩ => by
    rw [h1, RepL.bls_inv h3]
    have : v = .bl n := h2
    rw [this]; rfl
theorem c_all (hK : X.K = K) (hc : X.calm = true) : B3 K X (.builtin "all") (fun xs H Q => ∃ (p : Addr) (bs : List Bool), xs = [.ref p] ∧ SqL K H p (bs.map V.bl) ∧ Q (.bl (bs.all id)) H) all3 := ⟨by subst hK; exact call_allB hc, by
  intro B F σ H Γ vs ds Q QQ e r q k
  unfold all3 at q
  split at q
  · obtain ⟨bs, rfl, q⟩ := q
    obtain ⟨v, rfl, p, ys, rfl, h1, h2⟩ := r.one
    exact ⟨p, bs, rfl, SqL.of (by rw [h1, h2.bls_inv]), k _ _ (po_bl e q)⟩
  · exact q.elim⟩
def flD : D → Bool
  | .non => true | .bl _ => true | .int _ => true | .str _ => true | _ => false
def toV : D → V
  | .bl b => .bl b | .int i => .int i | .str x => .str x | _ => .non
def in3 (neg : Bool) (x y : D) (Γ : G) (Q : RV → G → Prop) : Prop := ∃ xs, itemsD y = some xs ∧ flD x = true ∧ xs.all flD = true ∧ Q (.fz (.bl (if neg then !inV (toV x) (xs.map toV) else inV (toV x) (xs.map toV)))) Γ
/-! ### values of objects -/
def fld3 (f : Str) (x : D) (Γ : G) (Q : RV → G → Prop) : Prop := match x with
  | .ins C ns xs => ∃ d, (ns.zip xs).lookup f = some d ∧ Q (.fz d) Γ
  | _ => False
end
end L3


namespace L3
open PySem L2 PySem.Spec
structure E3 where
  nx : G → Prop
  rt : RV → G → Prop
  bk : G → Prop := fun _ => False
  ct : G → Prop := fun _ => False
abbrev TS3 := E3 → G → Prop
structure EndsR (K : PySem.W.Frag) (B : Bs) (F : Hp) (D : Ends) (D3 : E3) : Prop where
  nx : ∀ F' σ' H' Γ', Same F F' → En K B F' σ' H' Γ' → D3.nx Γ' → D.nx σ' H'
  rt : ∀ F' σ' H' Γ' v r, Same F F' → En K B F' σ' H' Γ' → RepV K B F' σ' H' Γ' v r → D3.rt r Γ' → D.rt v H'
  bk : ∀ F' σ' H' Γ', Same F F' → En K B F' σ' H' Γ' → D3.bk Γ' → D.bk σ' H'
  ct : ∀ F' σ' H' Γ', Same F F' → En K B F' σ' H' Γ' → D3.ct Γ' → D.ct σ' H'
theorem EndsR.mono {K : PySem.W.Frag} {B : Bs} {F F1 : Hp} {D : Ends} {D3 : E3} (h : EndsR K B F D D3) (s : Same F F1) : EndsR K B F1 D D3 :=
  ⟨fun F' σ' H' Γ' s' => h.nx F' σ' H' Γ' (s.trans s'), fun F' σ' H' Γ' v r s' => h.rt F' σ' H' Γ' v r (s.trans s'), fun F' σ' H' Γ' s' => h.bk F' σ' H' Γ' (s.trans s'), fun F' σ' H' Γ' s' => h.ct F' σ' H' Γ' (s.trans s')⟩
def RefS (K : PySem.W.Frag) (t : TS) (t3 : TS3) : Prop := ∀ (B : Bs) (F : Hp) (σ : L2.St) (H : Hp) (Γ : G) (D : Ends) (D3 : E3), En K B F σ H Γ → EndsR K B F D D3 → t3 D3 Γ → t D σ H
structure P3S (K : PySem.W.Frag) (X : Cx) (st : Stmt) (t : TS) (t3 : TS3) : Prop where
  pe : PS X st t
  rf : RefS K t t3
structure P3Ss (K : PySem.W.Frag) (X : Cx) (st : List Stmt) (t : TS) (t3 : TS3) : Prop where
  pe : PSs X st t
  rf : RefS K t t3
section
variable {K : PySem.W.Frag} {X : Cx} {B : Bs} {F H : Hp} {σ : L2.St} {Γ : G} {pos : Pos}
/-- slot i may be given another thing -/
def free3 (Γ : G) (i : Nat) : Prop := match Γ[i]? with
  | some (some (.ln _)) => False
  | some _ => True
  | none => False
theorem free3_lt {i : Nat} (h : free3 Γ i) : i < Γ.length := by
  unfold free3 at h
  split at h
  · exact h.elim
  · rename_i q
    exact (List.getElem?_eq_some_iff.mp q).1
  · exact h.elim
theorem get_set_self {α : Type} {l : List α} {i : Nat} {a : α} (h : i < l.length) : (l.set i a)[i]? = some a := by
  rw [List.getElem?_set, if_pos rfl, if_pos h]
theorem En.set (e : En K B F σ H Γ) {i : Nat} (hi : free3 Γ i) {v : V} : ∀ {r : RV}, RepV K B F σ H Γ v r → En K B F (σ.set i (some v)) H (Γ.set i (some r.sl)) := fun {r} hr => by
  have il := free3_lt hi
  have is : i < σ.length := by rw [e.len]; exact il
  have nl : ∀ d, Γ[i]? ≠ some (some (Sl.ln d)) := fun d q => by unfold free3 at hi; rw [q] at hi; exact hi
  have ne : ∀ {j : Nat}, j ≠ i → (Γ.set i (some r.sl))[j]? = Γ[j]? ∧ (σ.set i (some v))[j]? = σ[j]? := fun h => ⟨get_set_ne (Ne.symm h), get_set_ne (Ne.symm h)⟩
  have hld : ∀ {j x}, Hld (Γ.set i (some r.sl)) j x → (j = i ∧ r = .fr x) ∨ (j ≠ i ∧ Hld Γ j x) := fun {j x} q => by
    by_cases z : j = i
    · subst z
      left
      refine ⟨rfl, ?_⟩
      rcases q with q | q <;> rw [get_set_self il] at q <;> cases r <;> cases q <;> rfl
    · right
      exact ⟨z, by unfold Hld at q ⊢; rw [(ne z).1] at q; exact q⟩
  refine ⟨e.sub, by rw [List.length_set, List.length_set]; exact e.len, ?_, ?_, ?_, ?_, ?_, ?_, e.keep, e.new, e.rest, e.dom⟩
  · intro j d q
    by_cases z : j = i
    · subst z
      rw [get_set_self il] at q
      cases r with
      | fz x => cases q; exact ⟨v, get_set_self is, hr⟩
      | fr x => cases q
    · rw [(ne z).1] at q
      rw [(ne z).2]
      exact e.fz j d q
  · intro j d q
    rcases hld q with ⟨rfl, rfl⟩ | ⟨z, q⟩
    · obtain ⟨p, rfl, h1, h2, h3, h4⟩ := hr
      exact ⟨p, get_set_self is, h1, h2⟩
    · rw [(ne z).2]
      exact e.hl j d q
  · intro j d p q a
    rcases hld (.inl q) with ⟨rfl, rfl⟩ | ⟨z, _⟩
    · obtain ⟨p', rfl, h1, h2, h3, h4⟩ := hr
      rw [get_set_self is] at a; cases a
      exact h3
    · rw [(ne z).1] at q
      rw [(ne z).2] at a
      exact e.ow j d p q a
  · intro j d p q a
    rcases hld (.inr q) with ⟨rfl, rfl⟩ | ⟨z, _⟩
    · rw [get_set_self il] at q; cases q
    · rw [(ne z).1] at q
      rw [(ne z).2] at a
      exact e.ln j d p q a
  · intro j k d d' p q1 q2 a1 a2
    rcases hld q1 with ⟨rfl, rfl⟩ | ⟨z1, w1⟩
    · rcases hld q2 with ⟨rfl, h⟩ | ⟨z2, w2⟩
      · rfl
      · obtain ⟨p', rfl, h1, h2, h3, h4⟩ := hr
        rw [get_set_self is] at a1; cases a1
        rw [(ne z2).2] at a2
        exact absurd a2 (h4 k _ w2)
    · rcases hld q2 with ⟨rfl, h⟩ | ⟨z2, w2⟩
      · subst h
        obtain ⟨p', rfl, h1, h2, h3, h4⟩ := hr
        rw [get_set_self is] at a2; cases a2
        rw [(ne z1).2] at a1
        exact absurd a1 (h4 j _ w1)
      · rw [(ne z1).2] at a1
        rw [(ne z2).2] at a2
        exact e.dis j k d d' p w1 w2 a1 a2
  · intro j p q
    obtain ⟨a, d, b⟩ := e.par j p q
    have z : j ≠ i := fun z => by subst z; exact nl d b
    rw [(ne z).1, (ne z).2]
    exact ⟨a, d, b⟩
/-- slot i is forgotten -/
theorem En.forget (e : En K B F σ H Γ) {i : Nat} (hi : free3 Γ i) : En K B F σ H (Γ.set i none) := by
  have nl : ∀ d, Γ[i]? ≠ some (some (Sl.ln d)) := fun d q => by unfold free3 at hi; rw [q] at hi; exact hi
  have il := free3_lt hi
  have ne : ∀ {j : Nat} {s : Sl}, (Γ.set i none)[j]? = some (some s) → j ≠ i ∧ Γ[j]? = some (some s) := fun {j s} q => by
    by_cases z : j = i
    · subst z; rw [get_set_self il] at q; cases q
    · exact ⟨z, by rw [get_set_ne (Ne.symm z)] at q; exact q⟩
  have hld : ∀ {j x}, Hld (Γ.set i none) j x → Hld Γ j x := fun q => q.imp (fun q => (ne q).2) (fun q => (ne q).2)
  exact ⟨e.sub, by rw [List.length_set]; exact e.len, fun j d q => e.fz j d (ne q).2, fun j d q => e.hl j d (hld q), fun j d p q => e.ow j d p (ne q).2, fun j d p q => e.ln j d p (ne q).2, fun j k d d' p q1 q2 => e.dis j k d d' p (hld q1) (hld q2),
    fun j p q => by
      obtain ⟨a, d, b⟩ := e.par j p q
      have z : i ≠ j := fun z => by subst z; exact nl d b
      exact ⟨a, d, by rw [get_set_ne z]; exact b⟩, e.keep, e.new, e.rest, e.dom⟩
/-- a name handed on for good: return x -/
def t3Mv (i : Nat) (Γ : G) (Q : RV → G → Prop) : Prop := match Γ[i]? with
  | some (some (.fz d)) => Q (.fz d) Γ
  | some (some (.ow d)) => Q (.fr d) (Γ.set i none)
  | _ => False
theorem ref_mv (i : Nat) : Ref K (tVar i) (t3Mv i) := by
  intro B F σ H Γ Q QQ e h k
  unfold t3Mv at h
  split at h
  · rename_i d q
    obtain ⟨v, h1, h2⟩ := e.fz i d q
    exact ⟨v, h1, k _ _ (po_fz e h2 h)⟩
  · rename_i d q
    obtain ⟨p, h1, h2, h3⟩ := e.hl i d (.inl q)
    have hf : free3 Γ i := by unfold free3; rw [q]; trivial
    have e' := e.forget hf
    refine ⟨_, h1, k _ _ ⟨F, _, .fr d, Same.refl F, e', ⟨p, rfl, h2, h3, e.ow i d p q h1, fun j x hj => ?_⟩, h⟩⟩
    intro a
    have hj' : j ≠ i ∧ Hld Γ j x := by
      by_cases z : j = i
      · subst z
        rcases hj with hj | hj <;> rw [get_set_self (free3_lt hf)] at hj <;> cases hj
      · exact ⟨z, by unfold Hld at hj ⊢; rw [get_set_ne (Ne.symm z)] at hj; exact hj⟩
    exact hj'.1 (e.dis j i x d p hj'.2 (.inl q) a h1)
  · exact h.elim
theorem p3mv (i : Nat) {x : Str} {pos : Pos} (hN : X.N[i]? = some x := by rfl) (hv : Vis X.env.scope x := by first | exact Or.inl rfl | exact Or.inr (Or.inl rfl) | exact Or.inr (Or.inr rfl)) (hd : (x == ("__debug__" : Str)) = false := by decide)
    (hcd : (x == ("__classdict__" : Str)) = false := by decide) : P3 K X (.Name x pos) (tVar i) (t3Mv i) := ⟨pe_var hN hv hd hcd, ref_mv i⟩
/-! ### statements -/
variable {st : Stmt} {rest : List Stmt} {t u : TS} {t3 u3 : TS3} {e : Expr} {te : TE} {e3 : TE3}
def next3 (D : E3) (Γ : G) : Prop := D.nx Γ
def seq3 (t u : TS3) (D : E3) (Γ : G) : Prop := t { D with nx := u D } Γ
def ret3 (e3 : TE3) (D : E3) (Γ : G) : Prop := e3 Γ D.rt
def drop3 (e3 : TE3) (D : E3) (Γ : G) : Prop := e3 Γ fun _ Γ1 => D.nx Γ1
theorem q3_nil : P3Ss K X [] tNext next3 := ⟨pss_nil, fun B F σ H Γ D D3 e k q => k.nx F σ H Γ (Same.refl F) e q⟩
theorem q3_cons (h1 : P3S K X st t t3) (h2 : P3Ss K X rest u u3) : P3Ss K X (st :: rest) (tSeq t u) (seq3 t3 u3) := ⟨pss_cons h1.pe h2.pe, fun B F σ H Γ D D3 e k q =>
  h1.rf B F σ H Γ _ { D3 with nx := u3 D3 } e ⟨fun F' σ' H' Γ' s e' q' => h2.rf B F' σ' H' Γ' _ D3 e' (k.mono s) q', k.rt, k.bk, k.ct⟩ q⟩
theorem q3_one (h1 : P3S K X st t t3) : P3Ss K X [st] t t3 := ⟨pss_one h1.pe, h1.rf⟩
theorem s3_ret (h : P3 K X e te e3) : P3S K X (.Return (some e) pos) (tRet te) (ret3 e3) := ⟨ps_ret h.pe, fun B F σ H Γ D D3 e k q =>
  h.rf B F σ H Γ _ _ e q fun v H' ⟨F', Γ', r, s, e', rv, q'⟩ => k.rt F' σ H' Γ' v r s e' rv q'⟩
theorem s3_expr (h : P3 K X e te e3) (hs : swapsWith e none pos.line X.env = pure false := by rfl) : P3S K X (.Expr e pos) (tDrop te) (drop3 e3) := ⟨ps_expr h.pe hs, fun B F σ H Γ D D3 e k q =>
  h.rf B F σ H Γ _ _ e q fun v H' ⟨F', Γ', r, s, e', rv, q'⟩ => k.nx F' σ H' Γ' s e' q'⟩
def ifS3 (A3 : TT3) (t u : TS3) (D : E3) (Γ : G) : Prop := A3 Γ fun c Γ1 => match c with
  | true => t D Γ1
  | false => u D Γ1
theorem s3_if {c : Expr} {a b : List Stmt} {tc : TT} {A3 : TT3} (hc : P3T K X c tc A3) (ha : P3Ss K X a t t3) (hb : P3Ss K X b u u3) : P3S K X (.If c a b pos) (tIfS tc t u) (ifS3 A3 t3 u3) := ⟨ps_if hc.pe ha.pe hb.pe, fun B F σ H Γ D D3 e k q =>
  hc.rf B F σ H Γ _ _ e q fun c H' ⟨F', Γ', s, e', q'⟩ => by
    cases c with
    | true => exact iteT (ha.rf B F' σ H' Γ' D D3 e' (k.mono s) q')
    | false => exact iteF (hb.rf B F' σ H' Γ' D D3 e' (k.mono s) q')⟩
theorem s3_never : P3S K X st tNever (fun _ _ => False) := ⟨ps_never, fun B F σ H Γ D D3 e k q => q⟩
/-- x = e -/
def set3 (i : Nat) (e3 : TE3) (D : E3) (Γ : G) : Prop := e3 Γ fun r Γ1 => free3 Γ1 i ∧ D.nx (Γ1.set i (some r.sl))
theorem ref_set {i : Nat} (h : Ref K te e3) : RefS K (tAsg te (gName i)) (set3 i e3) := fun B F σ H Γ D D3 e k q =>
  h B F σ H Γ _ _ e q fun v H' ⟨F', Γ', r, s, e', rv, hf, q'⟩ => k.nx F' _ H' _ s (e'.set hf rv) q'
theorem s3_set {i : Nat} {x : Str} {pos' : Pos} (hN : X.N.Nodup) (hi : X.N[i]? = some x) (hx : Loc X.env.scope x) (he : P3 K X e te e3) (hs : swapsWith e (some (.Name x pos')) pos.line X.env = pure false := by rfl) (hf : X.fn x = true ∨ X.env.scope.names.lookup x = some .local := by first | exact .inl rfl | exact .inr rfl | assumption) :
    P3S K X (.Assign [.Name x pos'] e pos) (tAsg te (gName i)) (set3 i e3) := ⟨ps_set hN hi hx he.pe hs hf, ref_set he.rf⟩
/-- a, b = x, y -/
def par3 (i j : Nat) (t3 : TA3) (D : E3) (Γ : G) : Prop := t3 Γ fun ds Γ1 => ∃ d d', ds = [d, d'] ∧ free3 Γ1 i ∧ free3 (Γ1.set i (some (.fz d))) j ∧ D.nx ((Γ1.set i (some (.fz d))).set j (some (.fz d')))
theorem s3_par {i j : Nat} {x y : Str} {a b : Expr} {ta : TA} {a3 : TA3} {px py pt : Pos} {kt k2 pt2} (hc : X.calm = true) (hN : X.N.Nodup) (hi : X.N[i]? = some x) (hj : X.N[j]? = some y) (hij : i ≠ j)
    (hx : X.env.scope.names.lookup x = some .local) (hy : X.env.scope.names.lookup y = some .local) (ha : P3A K X [a, b] ta a3)
    (hw : swappedStores [.Tuple [.Name x px, .Name y py] kt pt] (.Tuple [a, b] k2 pt2) X.env = pure (some [x, y]))
    (hs : swapsWithSole [.Tuple [.Name x px, .Name y py] kt pt] (.Tuple [a, b] k2 pt2) pos.line X.env = pure false := by rfl) :
    P3S K X (.Assign [.Tuple [.Name x px, .Name y py] kt pt] (.Tuple [a, b] k2 pt2) pos) (tPar i j ta) (par3 i j a3) := ⟨ps_par hc hN hi hj hij hx hy ha.pe hw hs, fun B F σ H Γ D D3 e k q =>
  ha.rf B F σ H Γ _ _ e q fun vs H' ⟨F', Γ', ds, s, e', rv, d, d', h1, h2, h3, q'⟩ => by
    subst h1
    obtain ⟨v, ws, rfl, r1, w, ws', rfl, r2, r3⟩ := rv
    cases r3
    refine ⟨v, w, rfl, k.nx F' _ H' _ s ?_ q'⟩
    exact (e'.set (r := .fz d) h2 r1).set (r := .fz d') h3 r2⟩
/-! ### targets: names in brackets -/
/-- each name gets its thing -/
def gives (Γ : G) : List Nat → List D → Option G
  | [], [] => some Γ
  | i :: is, d :: ds => gives (Γ.set i (some (.fz d))) is ds
  | _, _ => none
def frees (Γ : G) : List Nat → List D → Prop
  | [], _ => True
  | i :: is, d :: ds => free3 Γ i ∧ frees (Γ.set i (some (.fz d))) is ds
  | _, _ => True
def gNames : List Nat → TGs
  | [] => gNil
  | i :: is => gCons (gName i) (gNames is)
theorem gNames_run {is : List Nat} : ∀ {Γ : G} {σ : L2.St} {vs : List V} {ds : List D} {Γ' : G} {QQ : L2.St → Hp → Prop}, En K B F σ H Γ → RepL K F ds vs → gives Γ is ds = some Γ' → frees Γ is ds → (∀ σ', En K B F σ' H Γ' → QQ σ' H) → gNames is vs σ H QQ := by
  induction is with
  | nil =>
    intro Γ σ vs ds Γ' QQ e r g f k
    cases ds with
    | nil => cases g; cases r; exact ⟨rfl, k σ e⟩
    | cons d ds => cases g
  | cons i is ih =>
    intro Γ σ vs ds Γ' QQ e r g f k
    cases ds with
    | nil => cases g
    | cons d ds =>
      obtain ⟨v, ws, rfl, r1, r2⟩ := r
      exact ⟨v, ws, rfl, ih (e.set (r := .fz d) f.1 r1) r2 g f.2 k⟩
def setT3 (is : List Nat) (e3 : TE3) (D : E3) (Γ : G) : Prop := e3 Γ fun r Γ1 => ∃ ds Γ', r.d = .tup ds ∧ gives Γ1 is ds = some Γ' ∧ frees Γ1 is ds ∧ D.nx Γ'
theorem gives_len {is : List Nat} : ∀ {Γ Γ' : G} {ds : List D}, gives Γ is ds = some Γ' → ds.length = is.length := by
  induction is with
  | nil => intro Γ Γ' ds h; cases ds with | nil => rfl | cons => cases h
  | cons i is ih => intro Γ Γ' ds h; cases ds with | nil => cases h | cons d ds => simp [ih h]
/-- a, b, .. = e -/
theorem s3_setT {es : List Expr} {kt : Nat} {pt : Pos} {is : List Nat} (hK : X.K = K) (he : P3 K X e te e3) (hg : PGs X es (gNames is)) (hc : X.calm = true) (hn : (assignEach es X.env).length = is.length := by rfl) (hst : (assignEach es X.env).findIdx? (·.1) = none := by rfl)
    (hs : swapsWithSole [.Tuple es kt pt] e pos.line X.env = pure false := by rfl) (hw : swappedStores [.Tuple es kt pt] e X.env = pure none := by rfl) (h1 : (assignEach [.Tuple es kt pt] X.env).map (·.2) = [assign (.Tuple es kt pt) X.env] := by rfl) :
    P3S K X (.Assign [.Tuple es kt pt] e pos) (tAsg te (gTup K is.length (gNames is))) (setT3 is e3) := ⟨by subst hK; exact ps_asg he.pe (pg_tup hc hg hn hst) hs hw h1, fun B F σ H Γ D D3 e k q =>
  he.rf B F σ H Γ _ _ e q fun v H' ⟨F', Γ', r, s, e', rv, ds, Γ2, h1, h2, h3, q'⟩ => by
    obtain ⟨F2, s2, e2, r2⟩ := e'.frozen rv
    rw [h1] at r2
    obtain ⟨p, vs, rfl, h4, h5⟩ := r2
    refine ⟨p, vs, rfl, .inl (.inl (e2.sub _ _ h4)), by rw [h5.length, gives_len h2], gNames_run e2 h5 h2 h3 fun σ' e3 => k.nx F2 σ' _ Γ2 (s.trans s2) e3 q'⟩⟩
/-! ### lists that change -/
def putD (Γ : G) (i : Nat) (d : D) : G := match Γ[i]? with
  | some (some (.ow _)) => Γ.set i (some (.ow d))
  | some (some (.ln _)) => Γ.set i (some (.ln d))
  | _ => Γ
/-- slot i's own list (or one that was lent) -/
def heldL (Γ : G) (i : Nat) : Option (List D) := match Γ[i]? with
  | some (some (.ow (.lst xs))) => some xs
  | some (some (.ln (.lst xs))) => some xs
  | _ => none
theorem heldL_hld {i : Nat} {xs : List D} (h : heldL Γ i = some xs) : Hld Γ i (.lst xs) := by
  unfold heldL at h
  split at h
  · cases h; rename_i q; exact .inl q
  · cases h; rename_i q; exact .inr q
  · cases h
/-- another content at the address of slot i -/
theorem En.mut (e : En K B F σ H Γ) {i : Nat} {xs xs' : List D} (h : heldL Γ i = some xs) {p : Addr} (hp : σ[i]? = some (some (V.ref p))) {vs' : List V} (r : RepL K F xs' vs') : En K B F σ (upd H p (.lst vs')) (putD Γ i (.lst xs')) := by
  have hh := heldL_hld h
  obtain ⟨p0, a0, b0, c0⟩ := e.hl i _ hh
  rw [hp] at a0; cases a0
  obtain ⟨o, ho⟩ := c0.some
  have hput : (Γ[i]? = some (some (Sl.ow (.lst xs))) ∧ putD Γ i (.lst xs') = Γ.set i (some (.ow (.lst xs')))) ∨ (Γ[i]? = some (some (Sl.ln (.lst xs))) ∧ putD Γ i (.lst xs') = Γ.set i (some (.ln (.lst xs')))) := by
    rcases hh with q | q
    · exact .inl ⟨q, by unfold putD; rw [q]⟩
    · exact .inr ⟨q, by unfold putD; rw [q]⟩
  have il : i < Γ.length := by rcases hput with ⟨q, _⟩ | ⟨q, _⟩ <;> exact (List.getElem?_eq_some_iff.mp q).1
  have other : ∀ {j : Nat}, j ≠ i → (putD Γ i (.lst xs'))[j]? = Γ[j]? := fun z => by
    rcases hput with ⟨_, q⟩ | ⟨_, q⟩ <;> rw [q, get_set_ne (Ne.symm z)]
  have same : ∀ {s : Sl}, (putD Γ i (.lst xs'))[i]? = some (some s) → (s = .ow (.lst xs') ∧ Γ[i]? = some (some (Sl.ow (.lst xs)))) ∨ (s = .ln (.lst xs') ∧ Γ[i]? = some (some (Sl.ln (.lst xs)))) := fun {s} q => by
    rcases hput with ⟨a, b⟩ | ⟨a, b⟩
    · rw [b, get_set_self il] at q; cases q; exact .inl ⟨rfl, a⟩
    · rw [b, get_set_self il] at q; cases q; exact .inr ⟨rfl, a⟩
  have hld : ∀ {j x}, Hld (putD Γ i (.lst xs')) j x → (j = i ∧ x = .lst xs') ∨ (j ≠ i ∧ Hld Γ j x) := fun {j x} q => by
    by_cases z : j = i
    · subst z
      left
      rcases q with q | q <;> rcases same q with ⟨h, _⟩ | ⟨h, _⟩ <;> cases h <;> exact ⟨rfl, rfl⟩
    · right; exact ⟨z, by unfold Hld at q ⊢; rw [other z] at q; exact q⟩
  have hld' : ∀ {j x}, Hld (putD Γ i (.lst xs')) j x → ∃ y, Hld Γ j y := fun q => by
    rcases hld q with ⟨rfl, _⟩ | ⟨_, q⟩
    · exact ⟨_, hh⟩
    · exact ⟨_, q⟩
  refine ⟨?_, ?_, ?_, ?_, ?_, ?_, ?_, ?_, e.keep, e.new, ?_, ?_⟩
  · intro b u q
    have z : b ≠ p := fun z => by subst z; rw [b0] at q; cases q
    rw [upd_ne z]; exact e.sub b u q
  · rcases hput with ⟨_, q⟩ | ⟨_, q⟩ <;> rw [q, List.length_set] <;> exact e.len
  · intro j d q
    by_cases z : j = i
    · subst z; rcases same q with ⟨h, _⟩ | ⟨h, _⟩ <;> cases h
    · rw [other z] at q; exact e.fz j d q
  · intro j d q
    rcases hld q with ⟨rfl, rfl⟩ | ⟨z, q⟩
    · exact ⟨p, hp, b0, vs', upd_same, r⟩
    · obtain ⟨p', a, b, c⟩ := e.hl j d q
      have ne : p' ≠ p := fun y => z (e.dis j i _ _ p q hh (y ▸ a) hp)
      exact ⟨p', a, b, c.mono (Same.refl F) (upd_ne ne)⟩
  · intro j d p' q a
    by_cases z : j = i
    · subst z
      rcases same q with ⟨h, g⟩ | ⟨h, g⟩
      · exact e.ow j _ p' g a
      · cases h
    · rw [other z] at q; exact e.ow j d p' q a
  · intro j d p' q a
    by_cases z : j = i
    · subst z
      rcases same q with ⟨h, g⟩ | ⟨h, g⟩
      · cases h
      · exact e.ln j _ p' g a
    · rw [other z] at q; exact e.ln j d p' q a
  · intro j k d d' p' q1 q2
    obtain ⟨y1, h1⟩ := hld' q1
    obtain ⟨y2, h2⟩ := hld' q2
    exact e.dis j k y1 y2 p' h1 h2
  · intro j p' q
    obtain ⟨a, d, b⟩ := e.par j p' q
    refine ⟨a, ?_⟩
    by_cases z : j = i
    · subst z
      rcases hput with ⟨c, _⟩ | ⟨_, c⟩
      · rw [b] at c; cases c
      · exact ⟨_, by rw [c, get_set_self il]⟩
    · exact ⟨d, by rw [other z]; exact b⟩
  · intro b u q n
    have z : b ≠ p := fun z => by
      subst z
      rcases hh with g | g
      · rw [e.ow i _ _ g hp] at q; cases q
      · exact n i (e.ln i _ _ g hp)
    rw [upd_ne z]; exact e.rest b u q n
  · intro b q
    by_cases z : b = p
    · subst z; rw [upd_same] at q; cases q
    · rw [upd_ne z] at q; exact e.dom b q
end
end L3


namespace L3
open PySem L2 PySem.Spec
section
variable {K : PySem.W.Frag} {X : Cx} {B : Bs} {F H : Hp} {σ : L2.St} {Γ : G} {pos : Pos}
/-! ### what was lent comes back -/
def newD : List (Option Nat) → G → Nat → Option D
  | some j' :: ls, s :: cs, j => if j' = j then (match s with
      | some (.ln d) => some d
      | _ => newD ls cs j) else newD ls cs j
  | none :: ls, _ :: cs, j => newD ls cs j
  | _, _, _ => none
theorem newD_some : ∀ {ls : List (Option Nat)} {cs : G} {j : Nat} {d : D}, newD ls cs j = some d → ∃ k : Nat, ls[k]? = some (some j) ∧ cs[k]? = some (some (Sl.ln d))
  | some j' :: ls, s :: cs, j, d, h => by
    unfold newD at h
    split at h
    · rename_i e
      subst e
      split at h
      · cases h; exact ⟨0, rfl, rfl⟩
      · obtain ⟨k, a, b⟩ := newD_some h
        exact ⟨k + 1, by simpa using a, by simpa using b⟩
    · obtain ⟨k, a, b⟩ := newD_some h
      exact ⟨k + 1, by simpa using a, by simpa using b⟩
  | none :: ls, _ :: cs, j, d, h => by
    unfold newD at h
    obtain ⟨k, a, b⟩ := newD_some h
    exact ⟨k + 1, by simpa using a, by simpa using b⟩
  | [], _, _, _, h => by unfold newD at h; cases h
  | some _ :: _, [], _, _, h => by unfold newD at h; cases h
  | none :: _, [], _, _, h => by unfold newD at h; cases h
theorem newD_is : ∀ {ls : List (Option Nat)} {cs : G} {j k : Nat} {d : D}, ls[k]? = some (some j) → cs[k]? = some (some (Sl.ln d)) → ∃ d', newD ls cs j = some d'
  | [], _, _, _, _, h, _ => by simp at h
  | _ :: _, [], _, _, _, _, h => by simp at h
  | some j' :: ls, s :: cs, j, 0, d, h, h' => by
    simp at h h'
    subst h h'
    exact ⟨d, by unfold newD; rw [if_pos rfl]⟩
  | none :: ls, s :: cs, j, 0, d, h, h' => by simp at h
  | some j' :: ls, s :: cs, j, k + 1, d, h, h' => by
    unfold newD
    split
    · split
      · exact ⟨_, rfl⟩
      · exact newD_is (k := k) (by simpa using h) (by simpa using h')
    · exact newD_is (k := k) (by simpa using h) (by simpa using h')
  | none :: ls, s :: cs, j, k + 1, d, h, h' => by
    unfold newD
    exact newD_is (k := k) (by simpa using h) (by simpa using h')
def backS (n : Option D) : Option Sl → Option Sl
  | some (.ow d) => some (.ow (n.getD d))
  | some (.ln d) => some (.ln (n.getD d))
  | s => s
def backG (ls : List (Option Nat)) (Γ cs : G) : G := Γ.mapIdx fun j s => backS (newD ls cs j) s
theorem backG_get {ls : List (Option Nat)} {cs : G} {j : Nat} : (backG ls Γ cs)[j]? = (Γ[j]?).map (backS (newD ls cs j)) := by
  unfold backG
  rw [List.getElem?_mapIdx]
theorem En.back {F1 H1 : Hp} {own' : List (Nat × Addr)} {σc : L2.St} {Γc : G} {ls : List (Option Nat)} (e : En K B F1 σ H1 Γ) (e2 : En K ⟨F1, H1, own'⟩ F σc H Γc)
    (h1 : ∀ k p, (k, p) ∈ own' → ∃ j d, ls[k]? = some (some j) ∧ Hld Γ j d ∧ σ[j]? = some (some (V.ref p))) : En K B F σ H (backG ls Γ Γc) := by
  have gfz : ∀ {j d}, (backG ls Γ Γc)[j]? = some (some (Sl.fz d)) → Γ[j]? = some (some (Sl.fz d)) := fun {j d} q => by
    rw [backG_get] at q
    cases w : Γ[j]? with
    | none => rw [w] at q; cases q
    | some s =>
      rw [w] at q
      cases s with
      | none => cases q
      | some s => cases s <;> cases q; rfl
  have gow : ∀ {j d}, (backG ls Γ Γc)[j]? = some (some (Sl.ow d)) → ∃ d0, Γ[j]? = some (some (Sl.ow d0)) ∧ d = (newD ls Γc j).getD d0 := fun {j d} q => by
    rw [backG_get] at q
    cases w : Γ[j]? with
    | none => rw [w] at q; cases q
    | some s =>
      rw [w] at q
      cases s with
      | none => cases q
      | some s => cases s <;> cases q; exact ⟨_, rfl, rfl⟩
  have gln : ∀ {j d}, (backG ls Γ Γc)[j]? = some (some (Sl.ln d)) → ∃ d0, Γ[j]? = some (some (Sl.ln d0)) ∧ d = (newD ls Γc j).getD d0 := fun {j d} q => by
    rw [backG_get] at q
    cases w : Γ[j]? with
    | none => rw [w] at q; cases q
    | some s =>
      rw [w] at q
      cases s with
      | none => cases q
      | some s => cases s <;> cases q; exact ⟨_, rfl, rfl⟩
  have gh : ∀ {j d}, Hld (backG ls Γ Γc) j d → ∃ d0, Hld Γ j d0 ∧ d = (newD ls Γc j).getD d0 := fun {j d} q => by
    rcases q with q | q
    · obtain ⟨d0, a, b⟩ := gow q; exact ⟨d0, .inl a, b⟩
    · obtain ⟨d0, a, b⟩ := gln q; exact ⟨d0, .inr a, b⟩
  refine ⟨e2.sub, by unfold backG; rw [List.length_mapIdx]; exact e.len, ?_, ?_, ?_, ?_, ?_, ?_, e.keep.trans e2.keep, ?_, ?_, ?_⟩
  · intro j d q
    obtain ⟨v, a, b⟩ := e.fz j d (gfz q)
    exact ⟨v, a, b.mono e2.keep⟩
  · intro j d q
    obtain ⟨d0, w0, rfl⟩ := gh q
    obtain ⟨p, a, b, c⟩ := e.hl j d0 w0
    obtain ⟨o, ho⟩ := c.some
    have fp : F p = none := by
      cases w : F p with
      | none => rfl
      | some u =>
        rcases e2.new p u w with z | z
        · rw [show F1 p = some u from z] at b; cases b
        · rw [show H1 p = none from z] at ho; cases ho
    refine ⟨p, a, fp, ?_⟩
    cases w : newD ls Γc j with
    | some d' =>
      obtain ⟨k, x, y⟩ := newD_some w
      obtain ⟨p', a', b', c'⟩ := e2.hl k d' (.inr y)
      obtain ⟨j2, d2, x2, _, a2⟩ := h1 k p' (e2.ln k d' p' y a')
      rw [x] at x2; cases x2
      rw [a] at a2; cases a2
      exact c'
    | none =>
      have hk : ∀ k, (k, p) ∉ own' := fun k hk => by
        obtain ⟨j2, d2, x2, q2, a2⟩ := h1 k p hk
        obtain ⟨_, d3, y⟩ := e2.par k p hk
        have : j2 = j := e.dis j2 j d2 d0 p q2 w0 a2 a
        subst this
        obtain ⟨d4, z⟩ := newD_is x2 y
        rw [w] at z; cases z
      have hp : H p = H1 p := by rw [ho]; exact e2.rest p o ho hk
      exact c.mono e2.keep hp
  · intro j d p q a
    obtain ⟨d0, q, _⟩ := gow q
    exact e.ow j d0 p q a
  · intro j d p q a
    obtain ⟨d0, q, _⟩ := gln q
    exact e.ln j d0 p q a
  · intro i j d d' p q1 q2
    obtain ⟨d0, q1, _⟩ := gh q1
    obtain ⟨d1, q2, _⟩ := gh q2
    exact e.dis i j d0 d1 p q1 q2
  · intro j p q
    obtain ⟨a, d, b⟩ := e.par j p q
    exact ⟨a, _, by rw [backG_get, b]; rfl⟩
  · intro b o q
    rcases e2.new b o q with z | z
    · exact e.new b o z
    · exact .inr (e.dom b z)
  · intro b o q n
    have q1 := e.rest b o q n
    refine e2.rest b o q1 fun k hk => ?_
    obtain ⟨j, d, x, y, a⟩ := h1 k b hk
    rcases y with y | y
    · rw [e.ow j d b y a] at q; cases q
    · exact n j (e.ln j d b y a)
  · intro b q
    exact e.dom b (e2.dom b q)
/-! ### walks -/
structure ItR (K : PySem.W.Frag) (F : Hp) (J : It) (xs : List D) : Prop where
  go : ∀ i H', Same F H' → i < xs.length → J.go i H'
  stop : ∀ i H', Same F H' → i = xs.length → J.stop i H'
  yld : ∀ i H' x H'' d, Same F H' → xs[i]? = some d → J.yld i H' x H'' → (H'' = H' ∧ Rep K F d x) ∨ ∃ t vs ds, H' t = none ∧ H'' = upd H' t (.tup vs) ∧ x = .ref t ∧ RepL K F ds vs ∧ d = .tup ds
abbrev TI3 := G → (List D → G → Prop) → Prop
def RefI (K : PySem.W.Frag) (t : TI) (i3 : TI3) : Prop := ∀ (B : Bs) (F : Hp) (σ : L2.St) (H : Hp) (Γ : G) (Q : List D → G → Prop) (R : It → Hp → Prop), En K B F σ H Γ → i3 Γ Q → (∀ J H1 F1 Γ1 xs, Same F F1 → En K B F1 σ H1 Γ1 → ItR K F1 J xs → Q xs Γ1 → R J H1) → t σ H R
structure P3I (K : PySem.W.Frag) (X : Cx) (tg iter : Expr) (t : TI) (i3 : TI3) : Prop where
  pe : PI X tg iter t
  rf : RefI K t i3
abbrev TG3 := D → G → (G → Prop) → Prop
def RefG (K : PySem.W.Frag) (g : TG) (g3 : TG3) : Prop := ∀ (B : Bs) (F : Hp) (σ : L2.St) (H : Hp) (Γ : G) (v : V) (d : D) (Q : G → Prop) (QQ : L2.St → Hp → Prop), En K B F σ H Γ → Rep K F d v → g3 d Γ Q → (∀ σ' Γ', En K B F σ' H Γ' → Q Γ' → QQ σ' H) → g v σ H QQ
structure P3G (K : PySem.W.Frag) (X : Cx) (tg : Expr) (g : TG) (g3 : TG3) : Prop where
  pe : PG X tg g
  rf : RefG K g g3
def tgN (i : Nat) (d : D) (Γ : G) (Q : G → Prop) : Prop := free3 Γ i ∧ Q (Γ.set i (some (.fz d)))
def tgT (is : List Nat) (d : D) (Γ : G) (Q : G → Prop) : Prop := ∃ ds Γ', d = .tup ds ∧ gives Γ is ds = some Γ' ∧ frees Γ is ds ∧ Q Γ'
theorem g3_name {i : Nat} {x : Str} (hN : X.N.Nodup) (hi : X.N[i]? = some x) (hx : Loc X.env.scope x) (hf : X.fn x = true ∨ X.env.scope.names.lookup x = some .local := by first | exact .inl rfl | exact .inr rfl | assumption) : P3G K X (.Name x pos) (gName i) (tgN i) :=
  ⟨pg_name hN hi hx hf, fun B F σ H Γ v d Q QQ e r q k => k _ _ (e.set (r := .fz d) q.1 r) q.2⟩
theorem g3_tup {es : List Expr} {kt : Nat} {is : List Nat} (hK : X.K = K) (hg : PGs X es (gNames is)) (hc : X.calm = true) (hn : (assignEach es X.env).length = is.length := by rfl) (hst : (assignEach es X.env).findIdx? (·.1) = none := by rfl) :
    P3G K X (.Tuple es kt pos) (gTup K is.length (gNames is)) (tgT is) := ⟨by subst hK; exact pg_tup hc hg hn hst, fun B F σ H Γ v d Q QQ e r q k => by
  obtain ⟨ds, Γ', rfl, h1, h2, q⟩ := q
  obtain ⟨p, vs, rfl, h4, h5⟩ := r
  exact ⟨p, vs, rfl, .inl (.inl (e.sub _ _ h4)), by rw [h5.length, gives_len h1], gNames_run e h5 h1 h2 fun σ' e' => k σ' Γ' e' q⟩⟩
/-- what the walk hands out, kept -/
theorem ItR.turn {J : It} {xs : List D} (R : ItR K F J xs) {F' H' H'' : Hp} (s : Same F F') (e : En K B F' σ H' Γ) {i : Nat} {d : D} {x : V} (hd : xs[i]? = some d) (y : J.yld i H' x H'') : ∃ F2, Same F' F2 ∧ En K B F2 σ H'' Γ ∧ Rep K F2 d x := by
  rcases R.yld i H' x H'' d (s.trans e.sub) hd y with ⟨rfl, r⟩ | ⟨t, vs, ds, h1, rfl, rfl, r, rfl⟩
  · exact ⟨F', Same.refl F', e, r.mono s⟩
  · exact ⟨upd F' t (.tup vs), same_upd (e.nof h1), (e.alloc h1 _).freeze (e.nof h1) upd_same (e.dom _ h1) (e.nohl h1), t, vs, rfl, upd_same, r.mono (s.trans (same_upd (e.nof h1)))⟩
def for3 (i3 : TI3) (g3 : TG3) (b3 : TS3) (D : E3) (Γ : G) : Prop := i3 Γ fun xs Γ1 => ∃ Iv : Nat → G → Prop, Iv 0 Γ1 ∧ (∀ k d Γ, xs[k]? = some d → Iv k Γ → g3 d Γ fun Γ' => b3 { D with nx := Iv (k + 1), ct := Iv (k + 1), bk := D.nx } Γ') ∧ ∀ Γ, Iv xs.length Γ → D.nx Γ
theorem s3_for {tg iter : Expr} {body : List Stmt} {wi : TI} {i3 : TI3} {g : TG} {g3 : TG3} {tb : TS} {b3 : TS3} (hp : PassesOwn (model X.prog X.w) X.A X.env X.xe) (hc : X.calm = true) (hi : P3I K X tg iter wi i3) (hg : P3G K X tg g g3) (hb : P3Ss K X body tb b3) (hs : ∀ x, foldedSetIterable iter X.env x = pure x := by intro _; rfl) :
    P3S K X (.For tg iter body [] pos) (tFor wi g tb) (for3 i3 g3 b3) := ⟨ps_for hp hc hi.pe hg.pe hb.pe hs, fun B F σ H Γ D D3 e k q => by
  refine hi.rf B F σ H Γ _ _ e q fun J H1 F1 Γ1 xs s1 e1 R ⟨Iv, i0, it, ie⟩ => ?_
  refine ⟨fun i m σ H => m = xs.length - i ∧ i ≤ xs.length ∧ ∃ F' Γ', Same F1 F' ∧ En K B F' σ H Γ' ∧ Iv i Γ', ⟨_, rfl, Nat.zero_le _, F1, Γ1, Same.refl _, e1, i0⟩, ?_⟩
  rintro i m σ2 H2 ⟨rfl, hi', F2, Γ2, s2, e2, iv⟩
  by_cases lt : i < xs.length
  · refine .inr ⟨R.go i H2 (s2.trans e2.sub) lt, fun σ' H' => ∃ F' Γ', Same F1 F' ∧ En K B F' σ' H' Γ' ∧ Iv (i + 1) Γ', fun σ' H' ⟨F', Γ', a, b, c⟩ => ⟨xs.length - (i + 1), by omega, rfl, lt, F', Γ', a, b, c⟩, fun x H3 y => ?_⟩
    have hd : xs[i]? = some xs[i] := List.getElem?_eq_getElem lt
    obtain ⟨F3, s3, e3, r3⟩ := R.turn s2 e2 hd y
    refine hg.rf B F3 σ2 H3 Γ2 x _ _ _ e3 r3 (it i _ Γ2 hd iv) fun σ' Γ' e4 q4 => ?_
    have s4 := s2.trans s3
    refine hb.rf B F3 σ' H3 Γ' _ { D3 with nx := Iv (i + 1), ct := Iv (i + 1), bk := D3.nx } e4 ⟨fun F' σ' H' Γ' s e q => ⟨F', Γ', s4.trans s, e, q⟩, fun F' σ' H' Γ' v r s e rv q => k.rt F' σ' H' Γ' v r ((s1.trans s4).trans s) e rv q, fun F' σ' H' Γ' s e q => k.nx F' σ' H' Γ' ((s1.trans s4).trans s) e q, fun F' σ' H' Γ' s e q => ⟨F', Γ', s4.trans s, e, q⟩⟩ q4
  · have z : i = xs.length := by omega
    subst z
    exact .inl ⟨R.stop _ H2 (s2.trans e2.sub) rfl, k.nx F2 σ2 H2 Γ2 (s1.trans s2) e2 (ie Γ2 iv)⟩⟩
/-! the sources -/
/-- a list that is kept -/
def iL3 (a3 : TE3) (Γ : G) (Q : List D → G → Prop) : Prop := a3 Γ fun r Γ1 => ∃ xs, r.d = .lst xs ∧ Q xs Γ1
theorem i3_list {tg l : Expr} {tl : TE} {l3 : TE3} (hK : X.K = K) (h : P3 K X l tl l3) : P3I K X tg l (iList K tl) (iL3 l3) := ⟨by subst hK; exact pi_list h.pe, fun B F σ H Γ Q R e q k =>
  h.rf B F σ H Γ _ _ e q fun v H' ⟨F', Γ', r, s, e', rv, xs, hx, q'⟩ => by
    obtain ⟨F2, s2, e2, r2⟩ := e'.frozen rv
    rw [hx] at r2
    obtain ⟨p, vs, rfl, h1, h2⟩ := r2
    refine ⟨p, rfl, ⟨vs, SqL.of (e2.sub _ _ h1)⟩, k _ H' F2 Γ' xs (s.trans s2) e2 ⟨fun i H'' sm lt => ?_, fun i H'' sm ei => ?_, fun i H'' x H3 d sm hd y => ?_⟩ q'⟩
    · rw [← h2.length] at lt
      exact ⟨vs, vs[i], SqL.of (sm _ _ h1), by simp [lt]⟩
    · exact ⟨vs, SqL.of (sm _ _ h1), by rw [h2.length]; omega⟩
    · obtain ⟨e1, y⟩ := y
      obtain ⟨d', hd', r⟩ := h2.getV (y vs (SqL.of (sm _ _ h1)))
      rw [hd] at hd'; cases hd'
      exact .inl ⟨e1, r⟩⟩
/-- lo, lo + 1, .. -/
def rng (lo : Int) (n : Nat) : List D := (List.range n).map fun (k : Nat) => D.int (lo + (k : Int))
theorem rng_R {lo : Int} {n : Nat} : ItR K F (Itr lo n) (rng lo n) := by
  have hl : (rng lo n).length = n := by simp [rng]
  refine ⟨fun i H' _ lt => by rw [hl] at lt; exact lt, fun i H' _ e => by rw [hl] at e; exact Nat.le_of_eq e.symm, fun i H' x H'' d _ hd y => ?_⟩
  obtain ⟨e1, e2⟩ := y
  subst e1 e2
  refine .inl ⟨rfl, ?_⟩
  have hi : i < n := by have := (List.getElem?_eq_some_iff.mp hd).1; rw [hl] at this; exact this
  have : (rng lo n)[i]? = some (.int (lo + i)) := by unfold rng; rw [List.getElem?_map, List.getElem?_range hi]; rfl
  rw [this] at hd; cases hd
  rfl
def iR1 (t3 : TA3) (Γ : G) (Q : List D → G → Prop) : Prop := t3 Γ fun ds Γ1 => ∃ j : Int, ds = [.int j] ∧ -(2 ^ 62) ≤ j ∧ j < 2 ^ 62 ∧ Q (rng 0 j.toNat) Γ1
def iR2 (t3 : TA3) (Γ : G) (Q : List D → G → Prop) : Prop := t3 Γ fun ds Γ1 => ∃ i j : Int, ds = [.int i, .int j] ∧ (-(2 ^ 62) ≤ i ∧ i < 2 ^ 62 ∧ -(2 ^ 62) ≤ j ∧ j < 2 ^ 62) ∧ Q (rng i (j - i).toNat) Γ1
theorem i3_range1 {tg a : Expr} {ta : TA} {a3 : TA3} {p pos : Pos} (hg : Gl X "range") (hm : X.mg "range" = none) (ha : P3A K X [a] ta a3) (hs : starEach [a] X.env = [(false, eval a X.env)] := by rfl) : P3I K X tg (.Call (.Name "range" p) [a] [] pos) (iRng1 ta) (iR1 a3) := ⟨pi_range1 hg hm ha.pe hs, fun B F σ H Γ Q R e q k =>
  ha.rf B F σ H Γ _ _ e q fun vs H' ⟨F', Γ', ds, s, e', rv, j, h1, h2, h3, q'⟩ => by
    subst h1
    obtain ⟨v, ws, rfl, r1, r2⟩ := rv
    cases r1; cases r2
    exact ⟨j, rfl, h2, h3, k _ H' F' Γ' _ s e' rng_R q'⟩⟩
/-- zip(a, b), both lists kept -/
def zipD (xs ys : List D) : List D := (xs.zip ys).map fun p => .tup [p.1, p.2]
def iZ3 (t3 : TA3) (Γ : G) (Q : List D → G → Prop) : Prop := t3 Γ fun ds Γ1 => ∃ xs ys, ds = [.lst xs, .lst ys] ∧ Q (zipD xs ys) Γ1
theorem zipD_get {xs ys : List D} {i : Nat} {d : D} (h : (zipD xs ys)[i]? = some d) : ∃ x y, xs[i]? = some x ∧ ys[i]? = some y ∧ d = .tup [x, y] := by
  unfold zipD at h
  rw [List.getElem?_map] at h
  cases q : (xs.zip ys)[i]? with
  | none => rw [q] at h; cases h
  | some p =>
    rw [q] at h; cases h
    rw [List.getElem?_zip_eq_some] at q
    exact ⟨_, _, q.1, q.2, rfl⟩
theorem i3_zip {a b : Expr} {ta : TA} {a3 : TA3} {es : List Expr} {kt : Nat} {tp p pos : Pos} (hg : Gl X "zip") (hm : X.mg "zip" = none) (ha : P3A K X [a, b] ta a3) (hs : starEach [a, b] X.env = [(false, eval a X.env), (false, eval b X.env)] := by rfl) (hs2 : starEach [b] X.env = [(false, eval b X.env)] := by rfl) :
    P3I K X (.Tuple es kt tp) (.Call (.Name "zip" p) [a, b] [] pos) (iZip ta) (iZ3 a3) := ⟨pi_zip hg hm ha.pe hs hs2, fun B F σ H Γ Q R e q k =>
  ha.rf B F σ H Γ _ _ e q fun vs H' ⟨F', Γ', ds, s, e', rv, xs, ys, h1, q'⟩ => by
    subst h1
    obtain ⟨v, ws, rfl, ⟨p1, vs1, rfl, g1, r1⟩, w, ws', rfl, ⟨p2, vs2, rfl, g2, r2⟩, r3⟩ := rv
    cases r3
    refine ⟨p1, p2, vs1, vs2, rfl, e'.sub _ _ g1, e'.sub _ _ g2, k _ H' F' Γ' _ s e' ⟨fun i H'' sm lt => ?_, fun i H'' sm ei => ?_, fun i H'' x H3 d sm hd y => ?_⟩ q'⟩
    · obtain ⟨x, y, hx, hy, _⟩ := zipD_get (List.getElem?_eq_getElem lt)
      obtain ⟨v, hv, _⟩ := r1.get hx
      obtain ⟨w, hw, _⟩ := r2.get hy
      exact ⟨vs1, vs2, v, w, sm _ _ g1, sm _ _ g2, hv, hw⟩
    · refine ⟨vs1, vs2, sm _ _ g1, sm _ _ g2, ?_⟩
      subst ei
      unfold zipD
      rw [List.length_map, List.length_zip, r1.length, r2.length]
      omega
    · obtain ⟨t, zs1, zs2, x1, y1, ht, a1, a2, b1, b2, rfl, rfl⟩ := y
      rw [sm _ _ g1] at a1; cases a1
      rw [sm _ _ g2] at a2; cases a2
      obtain ⟨dx, dy, hx, hy, rfl⟩ := zipD_get hd
      obtain ⟨v, hv, rv⟩ := r1.get hx
      obtain ⟨w, hw, rw'⟩ := r2.get hy
      rw [b1] at hv; cases hv
      rw [b2] at hw; cases hw
      exact .inr ⟨t, _, [dx, dy], ht, rfl, rfl, ⟨_, _, rfl, rv, _, _, rfl, rw', rfl⟩, rfl⟩⟩
def enumD (xs : List D) : List D := xs.mapIdx fun i x => .tup [.int i, x]
def iE3 (t3 : TA3) (Γ : G) (Q : List D → G → Prop) : Prop := t3 Γ fun ds Γ1 => ∃ xs, ds = [.lst xs] ∧ Q (enumD xs) Γ1
/-! ### lists that change: x.append(e), x.extend(e), x[k] = e -/
theorem tyV_lst {p : Addr} {vs : List V} (h : H p = some (.lst vs)) : tyV K "list" (.ref p) H := .inl ⟨rfl, _, SqL.of h⟩
theorem En.heldL (e : En K B F σ H Γ) {i : Nat} {xs : List D} (h : heldL Γ i = some xs) : ∃ p vs, σ[i]? = some (some (V.ref p)) ∧ H p = some (.lst vs) ∧ RepL K F xs vs := by
  obtain ⟨p, a, b, vs, c, d⟩ := e.hl i _ (heldL_hld h)
  exact ⟨p, vs, a, c, d⟩
def app3 (i : Nat) (e3 : TE3) (Γ : G) (Q : RV → G → Prop) : Prop := (∃ xs, heldL Γ i = some xs) ∧ e3 Γ fun r Γ1 => ∃ xs, heldL Γ1 i = some xs ∧ xs.length < sizeLine ∧ Q (.fz .non) (putD Γ1 i (.lst (xs ++ [r.d])))
theorem ref_app {te : TE} {e3 : TE3} (i : Nat) (h : Ref K te e3) : Ref K (tBM K "list" rAppend (tVar i) (tCons te tNil)) (app3 i e3) := by
  intro B F σ H Γ Q QQ e ⟨⟨xs0, h0⟩, q⟩ k
  obtain ⟨p, vs0, a0, b0, _⟩ := e.heldL h0
  refine ⟨_, a0, tyV_lst b0, h B F σ H Γ _ _ e q fun v H' ⟨F', Γ', r, s, e', rv, xs, hx, hz, q'⟩ => ?_⟩
  obtain ⟨F2, s2, e2, r2⟩ := e'.frozen rv
  obtain ⟨p', vs, a, b, c⟩ := e2.heldL hx
  rw [a0] at a; cases a
  exact ⟨p, vs, v, rfl, rfl, b, by rw [c.length]; exact hz, k _ _ ⟨F2, _, .fz .non, s.trans s2, e2.mut hx a0 (RepL.append (ys := [r.d]) c ⟨v, [], rfl, r2, rfl⟩), rfl, q'⟩⟩
def ext3 (i : Nat) (b3 : TB3) (Γ : G) (Q : RV → G → Prop) : Prop := (∃ xs, heldL Γ i = some xs) ∧ b3 Γ fun r Γ1 => ∃ xs ys, heldL Γ1 i = some xs ∧ r.at Γ1 = some (.lst ys) ∧ xs.length + ys.length ≤ sizeLine ∧ Q (.fz .non) (putD Γ1 i (.lst (xs ++ ys)))
def zap3 (i : Nat) (f : List D → List D) (Γ : G) (Q : RV → G → Prop) : Prop := ∃ xs, heldL Γ i = some xs ∧ Q (.fz .non) (putD Γ i (.lst (f xs)))
variable {o e : Expr} {te : TE} {e3 : TE3} {eb : TB3} {apos cpos : Pos}
theorem p3_append (i : Nat) {x : Str} {px : Pos} (hK : X.K = K) (hx : P3B K X (.Name x px) (tVar i) (bor i)) (he : P3 K X e te e3) (hbase : attributeBase (.Name x px) "append" X.env (eval (.Name x px) X.env) = eval (.Name x px) X.env := by rfl)
    (hfew : ((backTo cpos (starEach [e] X.env)).all (fun x => !x.1) && (backToKw cpos (keywordEach [] X.env)).all (fun x => x.1.isSome)
      && decide ([e].length + ([] : List Keyword).length + (if ([] : List Keyword).isEmpty then 0 else 1) < 30)) = true := by rfl)
    (hline : (apos.endLine == cpos.line) = true := by rfl) (hs : starEach [e] X.env = (false, eval e X.env) :: starEach [] X.env := by rfl) (hplain : (backTo cpos (starEach [] X.env)).any (·.1) = false := by rfl) :
    P3 K X (.Call (.Attribute (.Name x px) "append" apos) [e] [] cpos) (tBM K "list" rAppend (tVar i) (tCons te tNil)) (app3 i e3) :=
  ⟨by subst hK; exact pe_bm PySem.F.plainAttrs_list PySem.F.slot_list_append PySem.F.type_list_append mt_append hx.pe (pa_cons he.pe pa_nil hs) hbase hfew hline hs hplain, ref_app i he.rf⟩
def setI3 (i : Nat) (k3 : TB3) (e3 : TE3) (D : E3) (Γ : G) : Prop := e3 Γ fun r Γ1 => (∃ xs, heldL Γ1 i = some xs) ∧ k3 Γ1 fun b Γ2 => ∃ xs k j, heldL Γ2 i = some xs ∧ b.at Γ2 = some (.int k) ∧ ixN xs.length k = some j ∧ D.nx (putD Γ2 i (.lst (xs.set j r.d)))
theorem s3_setI (i : Nat) {x : Str} {px p2 : Pos} {k : Expr} {tk : TE} {k3 : TB3} (hx : P3B K X (.Name x px) (tVar i) (bor i)) (hk : P3B K X k tk k3) (he : P3 K X e te e3) (pe : PS X (.Assign [.Subscript (.Name x px) k p2] e pos) (tAsg te (gSub (tVar i) tk rSetL))) :
    P3S K X (.Assign [.Subscript (.Name x px) k p2] e pos) (tAsg te (gSub (tVar i) tk rSetL)) (setI3 i k3 e3) := ⟨pe, fun B F σ H Γ D D3 e k q =>
  he.rf B F σ H Γ _ _ e q fun v H' ⟨F', Γ', r, s, e', rv, ⟨xs0, h0⟩, q'⟩ => by
    obtain ⟨F2, s2, e2, r2⟩ := e'.frozen rv
    obtain ⟨p, vs0, a0, b0, _⟩ := e2.heldL h0
    refine ⟨_, a0, hk.rf B F2 σ H' Γ' _ _ e2 q' fun u H2 ⟨F3, Γ3, bo, s3, e3, rb, xs, kk, j, hx, hb, hj, q3⟩ => ?_⟩
    obtain ⟨p', vs, a, b, c⟩ := e3.heldL hx
    rw [a0] at a; cases a
    have hu : u = .int kk := e3.bo rb hb
    exact ⟨p, vs, kk, j, rfl, hu, b, by rw [c.length]; exact hj, k.nx F3 σ _ _ ((s.trans s2).trans s3) (e3.mut hx a0 (RepL.set (r2.mono s3) j c)) q3⟩⟩
end
end L3


namespace L3
open PySem L2 PySem.Spec
section
variable {K : PySem.W.Frag} {X : Cx} {B : Bs} {F H : Hp} {σ : L2.St} {Γ : G} {pos : Pos}
/-! ### a frame of its own: a block, a callee -/
def argSl : Option (Option Sl) → Option Sl
  | some (some (.fz d)) => some (.fz d)
  | some (some (.ow d)) => some (.ln d)
  | some (some (.ln d)) => some (.ln d)
  | _ => none
def argS (Γ : G) : Bo → Option Sl
  | .d x => some (.fz x)
  | .v i => argSl Γ[i]?
def lendOf : Option Bo → Option Nat
  | some (.v i) => some i
  | _ => none
def ownK (Γ : G) (σ : L2.St) (k : Nat) : Option Bo → Option (Nat × Addr)
  | some (.v i) => match Γ[i]?, σ[i]? with
    | some (some (.ow _)), some (some (.ref p)) => some (k, p)
    | some (some (.ln _)), some (some (.ref p)) => some (k, p)
    | _, _ => none
  | _ => none
def ownOf (Γ : G) (σ : L2.St) (bs : List (Option Bo)) : List (Nat × Addr) := (List.range bs.length).filterMap fun k => (bs[k]?).bind (ownK Γ σ k)
theorem ownOf_mem {bs : List (Option Bo)} {k : Nat} {p : Addr} : (k, p) ∈ ownOf Γ σ bs ↔ ∃ i d, bs[k]? = some (some (Bo.v i)) ∧ Hld Γ i d ∧ σ[i]? = some (some (V.ref p)) := by
  unfold ownOf
  rw [List.mem_filterMap]
  constructor
  · rintro ⟨k', _, h⟩
    cases q : bs[k']? with
    | none => rw [q] at h; cases h
    | some o =>
      rw [q] at h
      change ownK Γ σ k' o = some (k, p) at h
      unfold ownK at h
      split at h
      · rename_i i
        split at h
        · rename_i d p' h1 h2
          cases h
          exact ⟨i, d, q, .inl h1, h2⟩
        · rename_i d p' h1 h2
          cases h
          exact ⟨i, d, q, .inr h1, h2⟩
        · cases h
      · cases h
  · rintro ⟨i, d, h1, h2, h3⟩
    refine ⟨k, List.mem_range.mpr (List.getElem?_eq_some_iff.mp h1).1, ?_⟩
    rw [h1]
    show ownK Γ σ k (some (Bo.v i)) = _
    unfold ownK
    rcases h2 with h2 | h2
    · simp only [h2, h3]
    · simp only [h2, h3]
def argG (Γ : G) (bs : List (Option Bo)) : G := bs.map fun o => o.bind (argS Γ)
theorem argG_get {bs : List (Option Bo)} {k : Nat} {s : Sl} : (argG Γ bs)[k]? = some (some s) ↔ ∃ bo, bs[k]? = some (some bo) ∧ argS Γ bo = some s := by
  unfold argG
  rw [List.getElem?_map]
  constructor
  · intro h
    cases q : bs[k]? with
    | none => rw [q] at h; cases h
    | some o =>
      rw [q] at h
      cases o with
      | none => cases h
      | some bo => exact ⟨bo, rfl, by simpa using h⟩
  · rintro ⟨bo, h1, h2⟩
    rw [h1]; simp [h2]
theorem argS_ln {bo : Bo} {d : D} (h : argS Γ bo = some (.ln d)) : ∃ i, bo = .v i ∧ Hld Γ i d := by
  cases bo with
  | d x => cases h
  | v i =>
    change argSl Γ[i]? = _ at h
    unfold argSl at h
    split at h
    · cases h
    · cases h; rename_i q; exact ⟨i, rfl, .inl q⟩
    · cases h; rename_i q; exact ⟨i, rfl, .inr q⟩
    · cases h
theorem argS_fz {bo : Bo} {d : D} (h : argS Γ bo = some (.fz d)) : bo = .d d ∨ ∃ i, bo = .v i ∧ Γ[i]? = some (some (Sl.fz d)) := by
  cases bo with
  | d x => cases h; exact .inl rfl
  | v i =>
    change argSl Γ[i]? = _ at h
    unfold argSl at h
    split at h
    · cases h; rename_i q; exact .inr ⟨i, rfl, q⟩
    · cases h
    · cases h
    · cases h
theorem argS_ow {bo : Bo} {d : D} : argS Γ bo ≠ some (.ow d) := by
  intro h
  cases bo with
  | d x => cases h
  | v i => change argSl Γ[i]? = _ at h; unfold argSl at h; split at h <;> cases h
theorem argG_ow {bs : List (Option Bo)} : ∀ (k : Nat) (d : D), (argG Γ bs)[k]? ≠ some (some (Sl.ow d)) := fun k d h => by
  obtain ⟨bo, _, h⟩ := argG_get.mp h
  exact argS_ow h
theorem En.inner (e : En K B F σ H Γ) {bs : List (Option Bo)} {σc : L2.St} (hl : σc.length = bs.length) (hσ : ∀ (k : Nat) (bo : Bo) (s : Sl), bs[k]? = some (some bo) → argS Γ bo = some s → ∃ v, σc[k]? = some (some v) ∧ RepBo K F σ bo v)
    (nd : ∀ (k k' i : Nat), bs[k]? = some (some (Bo.v i)) → bs[k']? = some (some (Bo.v i)) → k = k') : En K ⟨F, H, ownOf Γ σ bs⟩ F σc H (argG Γ bs) := by
  have held : ∀ {k d}, Hld (argG Γ bs) k d → ∃ i p, bs[k]? = some (some (Bo.v i)) ∧ Hld Γ i d ∧ σ[i]? = some (some (V.ref p)) ∧ σc[k]? = some (some (V.ref p)) := fun {k d} q => by
    rcases q with q | q
    · obtain ⟨bo, h1, h2⟩ := argG_get.mp q
      exact absurd h2 argS_ow
    · obtain ⟨bo, h1, h2⟩ := argG_get.mp q
      obtain ⟨v, h3, h4⟩ := hσ k bo _ h1 h2
      obtain ⟨i, rfl, h5⟩ := argS_ln h2
      obtain ⟨p, h6, _⟩ := e.hl i d h5
      rw [show σ[i]? = some (some v) from h4] at h6; cases h6
      exact ⟨i, p, h1, h5, h4, h3⟩
  refine ⟨e.sub, by unfold argG; rw [List.length_map]; exact hl, ?_, ?_, ?_, ?_, ?_, ?_, Same.refl F, fun b o h => .inl h, fun b o h _ => h, fun b h => h⟩
  · intro k d q
    obtain ⟨bo, h1, h2⟩ := argG_get.mp q
    obtain ⟨v, h3, h4⟩ := hσ k bo _ h1 h2
    refine ⟨v, h3, ?_⟩
    rcases argS_fz h2 with rfl | ⟨i, rfl, h5⟩
    · exact h4
    · obtain ⟨u, h6, h7⟩ := e.fz i d h5
      rw [show σ[i]? = some (some v) from h4] at h6; cases h6
      exact h7
  · intro k d q
    obtain ⟨i, p, h1, h2, h3, h4⟩ := held q
    obtain ⟨p', h5, h6, h7⟩ := e.hl i d h2
    rw [h3] at h5; cases h5
    exact ⟨p, h4, h6, h7⟩
  · intro k d p q
    obtain ⟨bo, h1, h2⟩ := argG_get.mp q
    exact absurd h2 argS_ow
  · intro k d p q a
    obtain ⟨i, p', h1, h2, h3, h4⟩ := held (.inr q)
    rw [a] at h4; cases h4
    exact ownOf_mem.mpr ⟨i, d, h1, h2, h3⟩
  · intro k k' d d' p q1 q2 a1 a2
    obtain ⟨i, p1, h1, h2, h3, h4⟩ := held q1
    obtain ⟨i', p2, h1', h2', h3', h4'⟩ := held q2
    rw [a1] at h4; cases h4
    rw [a2] at h4'; cases h4'
    have := e.dis i i' d d' p h2 h2' h3 h3'
    subst this
    exact nd k k' i h1 h1'
  · intro k p q
    obtain ⟨i, d, h1, h2, h3⟩ := ownOf_mem.mp q
    have ha : argS Γ (.v i) = some (.ln d) := by
      show argSl Γ[i]? = _
      rcases h2 with h2 | h2 <;> rw [h2] <;> rfl
    obtain ⟨v, h4, h5⟩ := hσ k _ _ h1 ha
    rw [show σ[i]? = some (some v) from h5] at h3; cases h3
    exact ⟨h4, d, argG_get.mpr ⟨_, h1, ha⟩⟩
theorem own_back {bs : List (Option Bo)} : ∀ k p, (k, p) ∈ ownOf Γ σ bs → ∃ j d, (bs.map lendOf)[k]? = some (some j) ∧ Hld Γ j d ∧ σ[j]? = some (some (V.ref p)) := fun k p h => by
  obtain ⟨i, d, h1, h2, h3⟩ := ownOf_mem.mp h
  exact ⟨i, d, by rw [List.getElem?_map, h1]; rfl, h2, h3⟩
/-! ### comprehensions -/
def blkB (fr : List (Option Nat)) : List (Option Bo) := fr.map fun o => o.map Bo.v
def comp3 (fr : List (Option Nat)) (i3 : TI3) (g3 : TG3) (e3 : TE3) (Γ : G) (Q : RV → G → Prop) : Prop := i3 Γ fun xs Γ1 => xs.length < sizeLine ∧ ∃ Iv : Nat → List D → G → Prop, Iv 0 [] (argG Γ1 (blkB fr)) ∧
  (∀ k d ys Γc, xs[k]? = some d → ys.length = k → Iv k ys Γc → g3 d Γc fun Γ2 => e3 Γ2 fun r Γ3 => Iv (k + 1) (ys ++ [r.d]) Γ3) ∧ ∀ ys Γc, ys.length = xs.length → Iv xs.length ys Γc → Q (.fr (.lst ys)) (backG fr Γ1 Γc)
theorem blk_nd {fr : List (Option Nat)} (h : (fr.filterMap id).Nodup) : ∀ (k k' i : Nat), (blkB fr)[k]? = some (some (Bo.v i)) → (blkB fr)[k']? = some (some (Bo.v i)) → k = k' := by
  unfold blkB
  have go : ∀ (l : List (Option Nat)), (l.filterMap id).Nodup → ∀ (k k' i : Nat), l[k]? = some (some i) → l[k']? = some (some i) → k = k' := by
    intro l
    induction l with
    | nil => intro _ k k' i h; simp at h
    | cons o l ih =>
      intro hn k k' i h h'
      cases o with
      | none =>
        rw [List.filterMap_cons_none rfl] at hn
        cases k with
        | zero => simp at h
        | succ k =>
          cases k' with
          | zero => simp at h'
          | succ k' => rw [ih hn k k' i (by simpa using h) (by simpa using h')]
      | some j =>
        rw [show List.filterMap id (some j :: l) = j :: List.filterMap id l from rfl, List.nodup_cons] at hn
        have mem : ∀ {k : Nat}, l[k]? = some (some i) → i ∈ l.filterMap id := fun q => List.mem_filterMap.mpr ⟨some i, List.mem_of_getElem? q, rfl⟩
        cases k with
        | zero =>
          simp at h; subst h
          cases k' with
          | zero => rfl
          | succ k' => exact absurd (mem (by simpa using h')) hn.1
        | succ k =>
          cases k' with
          | zero =>
            simp at h'; subst h'
            exact absurd (mem (by simpa using h)) hn.1
          | succ k' => rw [ih hn.2 k k' i (by simpa using h) (by simpa using h')]
  intro k k' i h1 h2
  refine go fr h k k' i ?_ ?_
  · rw [List.getElem?_map] at h1
    cases q : fr[k]? with
    | none => rw [q] at h1; cases h1
    | some o => rw [q] at h1; cases o with | none => cases h1 | some j => cases h1; rfl
  · rw [List.getElem?_map] at h2
    cases q : fr[k']? with
    | none => rw [q] at h2; cases h2
    | some o => rw [q] at h2; cases o with | none => cases h2 | some j => cases h2; rfl
theorem lend_blk {fr : List (Option Nat)} : (blkB fr).map lendOf = fr := by
  unfold blkB
  rw [List.map_map]
  conv => rhs; rw [← List.map_id fr]
  refine List.map_congr_left fun o _ => ?_
  cases o <;> rfl
theorem En.blk (e : En K B F σ H Γ) {fr : List (Option Nat)} (nd : (fr.filterMap id).Nodup) : En K ⟨F, H, ownOf Γ σ (blkB fr)⟩ F (blkSt fr σ) H (argG Γ (blkB fr)) := by
  refine e.inner (by unfold blkSt blkB; simp) (fun k bo s h1 h2 => ?_) (blk_nd nd)
  unfold blkB at h1
  rw [List.getElem?_map] at h1
  cases q : fr[k]? with
  | none => rw [q] at h1; cases h1
  | some o =>
    rw [q] at h1
    cases o with
    | none => cases h1
    | some j =>
      cases h1
      have : ∃ d, Gat Γ j = some d := by
        change argSl Γ[j]? = _ at h2
        unfold argSl at h2
        unfold Gat
        split at h2 <;> first | (cases h2; done) | (rename_i w; rw [w]; exact ⟨_, rfl⟩) | exact ⟨_, rfl⟩
      obtain ⟨d, hd⟩ := this
      obtain ⟨v, hv, _⟩ := e.get hd
      refine ⟨v, ?_, hv⟩
      unfold blkSt
      rw [List.getElem?_map, q]
      simp [hv]
theorem ref_comp {fr : List (Option Nat)} {wi : TI} {i3 : TI3} {g : TG} {g3 : TG3} {te : TE} {e3 : TE3} (nd : (fr.filterMap id).Nodup) (hi : RefI K wi i3) (hg : RefG K g g3) (he : Ref K te e3) : Ref K (tComp fr wi g te) (comp3 fr i3 g3 e3) := by
  intro B F σ H Γ Q QQ e q k
  refine hi B F σ H Γ _ _ e q fun J H1 F1 Γ1 xs s1 e1 R ⟨hz, Iv, i0, it, ie⟩ => ?_
  have eb := e1.blk nd
  refine ⟨fun i m ys σc H => m = xs.length - i ∧ i ≤ xs.length ∧ ∃ F' Γc ds, Same F1 F' ∧ En K ⟨F1, H1, ownOf Γ1 σ (blkB fr)⟩ F' σc H Γc ∧ RepL K F' ds ys ∧ ds.length = i ∧ Iv i ds Γc, ⟨_, rfl, Nat.zero_le _, F1, _, [], Same.refl _, eb, rfl, rfl, i0⟩, ?_⟩
  rintro i m ys σc H2 ⟨rfl, hi', F2, Γ2, ds, s2, e2, r2, hl, iv⟩
  refine ⟨by rw [r2.length, hl]; omega, ?_⟩
  by_cases lt : i < xs.length
  · refine .inr ⟨R.go i H2 (s2.trans e2.sub) lt, fun x H3 y => ?_⟩
    have hd : xs[i]? = some xs[i] := List.getElem?_eq_getElem lt
    obtain ⟨F3, s3, e3', r3⟩ := R.turn s2 e2 hd y
    refine hg _ F3 σc H3 Γ2 x _ _ _ e3' r3 (it i _ ds Γ2 hd hl iv) fun σ2 Γ4 e4 q4 => ?_
    refine ⟨fun y H5 => ∃ F5 Γ5 r, Same F3 F5 ∧ En K ⟨F1, H1, ownOf Γ1 σ (blkB fr)⟩ F5 σ2 H5 Γ5 ∧ RepV K ⟨F1, H1, ownOf Γ1 σ (blkB fr)⟩ F5 σ2 H5 Γ5 y r ∧ Iv (i + 1) (ds ++ [r.d]) Γ5, fun y H5 ⟨F5, Γ5, r, s5, e5, rv, iv5⟩ => ?_, he _ F3 σ2 H3 Γ4 _ _ e4 q4 fun v H' p => p⟩
    obtain ⟨F6, s6, e6, r6⟩ := e5.frozen rv
    refine ⟨xs.length - (i + 1), by omega, rfl, lt, F6, Γ5, ds ++ [r.d], ((s2.trans s3).trans s5).trans s6, e6, ?_, by simp [hl], iv5⟩
    exact RepL.append (ys := [r.d]) (r2.mono ((s3.trans s5).trans s6)) ⟨y, [], rfl, r6, rfl⟩
  · have z : i = xs.length := by omega
    subst z
    refine .inl ⟨R.stop _ H2 (s2.trans e2.sub) rfl, fun l hl' => k _ _ ?_⟩
    have eo : En K B F2 σ H2 (backG fr Γ1 Γ2) := e1.back (ls := fr) e2 (by have := own_back (Γ := Γ1) (σ := σ) (bs := blkB fr); rw [lend_blk] at this; exact this)
    exact Po.mono (s1.trans s2) (po_newL eo hl' r2 (ie ds Γ2 hl iv))
theorem p3_comp {elt iter tg : Expr} {sc : Scope} {Nc : List Str} {fr : List (Option Nat)} {wi : TI} {i3 : TI3} {g : TG} {g3 : TG3} {te : TE} {e3 : TE3} (hc : X.calm = true) (hi : P3I K X tg iter wi i3) (Bk : Blk X.N X.env.scope sc Nc fr)
    (hg : ∀ s₀ H₀ C ex pn, P3G K (blkCx X sc Nc s₀ H₀ C ex pn) tg g g3) (he : ∀ s₀ H₀ C ex pn, P3 K (blkCx X sc Nc s₀ H₀ C ex pn) elt te e3) (nd : (fr.filterMap id).Nodup := by decide) (hs : ∀ x, foldedSetIterable iter X.env x = pure x := by intro _; rfl) :
    P3 K X (.ListComp elt [⟨tg, iter, [], 0⟩] sc pos) (tComp fr wi g te) (comp3 fr i3 g3 e3) :=
  ⟨pe_comp hc hi.pe Bk (fun a b c d e => (hg a b c d e).pe) (fun a b c d e => (he a b c d e).pe) hs, ref_comp nd hi.rf (hg X.s₀ X.H₀ 0 [] []).rf (he X.s₀ X.H₀ 0 [] []).rf⟩
theorem s3_setComp {i : Nat} {x : Str} {px spos : Pos} {elt iter tg : Expr} {sc : Scope} {Nc : List Str} {fr : List (Option Nat)} {wi : TI} {i3 : TI3} {g : TG} {g3 : TG3} {te : TE} {e3 : TE3} (hN : X.N.Nodup) (hi' : X.N[i]? = some x) (hx : X.env.scope.names.lookup x = some .local)
    (hc : X.calm = true) (hi : P3I K X tg iter wi i3) (Bk : Blk X.N X.env.scope sc Nc fr)
    (hg : ∀ s₀ H₀ C ex pn, P3G K (blkCx X sc Nc s₀ H₀ C ex pn) tg g g3) (he : ∀ s₀ H₀ C ex pn, P3 K (blkCx X sc Nc s₀ H₀ C ex pn) elt te e3) (nd : (fr.filterMap id).Nodup := by decide)
    (hsw : swapsWith (.ListComp elt [⟨tg, iter, [], 0⟩] sc pos) (some (.Name x px)) spos.line X.env = pure true := by rfl) (hs : ∀ x, foldedSetIterable iter X.env x = pure x := by intro _; rfl) :
    P3S K X (.Assign [.Name x px] (.ListComp elt [⟨tg, iter, [], 0⟩] sc pos) spos) (tAsg (tComp fr wi g te) (gName i)) (set3 i (comp3 fr i3 g3 e3)) :=
  ⟨ps_setComp hN hi' hx hc hi.pe Bk (fun a b c d e => (hg a b c d e).pe) (fun a b c d e => (he a b c d e).pe) hsw hs, ref_set (ref_comp nd hi.rf (hg X.s₀ X.H₀ 0 [] []).rf (he X.s₀ X.H₀ 0 [] []).rf)⟩
/-! ### calls -/
abbrev S3 := G → (RV → G → Prop) → Prop
def sp3 (K : PySem.W.Frag) (n : Nat) (S : S3) : Sp := fun vs H Q _ => vs.length = n ∧ ∃ F own Γa Q3, En K ⟨F, H, own⟩ F (vs.map some) H Γa ∧ (∀ (k : Nat) (d : D), Γa[k]? ≠ some (some (Sl.ow d))) ∧ S Γa Q3 ∧ ∀ r Γ', Q3 r Γ' → ∀ v H' F', En K ⟨F, H, own⟩ F' (vs.map some) H' Γ' → RepV K ⟨F, H, own⟩ F' (vs.map some) H' Γ' v r → Q v H'
def lents : List Bo → List Nat
  | [] => []
  | .d _ :: bs => lents bs
  | .v i :: bs => i :: lents bs
def call3f (n : Nat) (S : S3) (t3 : TAB3) (Γ : G) (Q : RV → G → Prop) : Prop := t3 Γ fun bs Γ1 => bs.length = n ∧ (lents bs).Nodup ∧ S (argG Γ1 (bs.map some)) fun r Γa => Q r (backG ((bs.map some).map lendOf) Γ1 Γa)
theorem lents_nd : ∀ {bs : List Bo}, (lents bs).Nodup → ∀ (k k' i : Nat), (bs.map some)[k]? = some (some (Bo.v i)) → (bs.map some)[k']? = some (some (Bo.v i)) → k = k' := by
  intro bs h k k' i h1 h2
  have key : ((((bs.map some).map lendOf)).filterMap id) = lents bs := by
    clear h h1 h2
    induction bs with
    | nil => rfl
    | cons b bs ih => cases b with
      | d x => simpa [lendOf, lents] using ih
      | v j => simpa [lendOf, lents] using ih
  rw [← key] at h
  refine blk_nd h k k' i ?_ ?_
  · unfold blkB
    rw [List.getElem?_map, List.getElem?_map, h1]; rfl
  · unfold blkB
    rw [List.getElem?_map, List.getElem?_map, h2]; rfl
theorem RepBos.get {F : Hp} : ∀ {bs : List Bo} {vs : List V}, RepBos K F σ bs vs → ∀ {k : Nat} {bo : Bo}, bs[k]? = some bo → ∃ v, vs[k]? = some v ∧ RepBo K F σ bo v
  | [], _, _, k, bo, e => by simp at e
  | x :: xs, _, ⟨v, ws, h1, h2, h3⟩, 0, d, e => by subst h1; simp at e; subst e; exact ⟨v, rfl, h2⟩
  | x :: xs, _, ⟨v, ws, h1, h2, h3⟩, i + 1, d, e => by
    subst h1
    obtain ⟨u, a, b⟩ := RepBos.get h3 (k := i) (bo := d) (by simpa using e)
    exact ⟨u, by simpa using a, b⟩
theorem RepBos.length {F : Hp} : ∀ {bs : List Bo} {vs : List V}, RepBos K F σ bs vs → vs.length = bs.length
  | [], _, h => by cases h; rfl
  | _ :: _, _, ⟨v, ws, h1, h2, h3⟩ => by subst h1; simp [RepBos.length h3]
theorem En.args (e : En K B F σ H Γ) {bs : List Bo} {vs : List V} (r : RepBos K F σ bs vs) (nd : (lents bs).Nodup) : En K ⟨F, H, ownOf Γ σ (bs.map some)⟩ F (vs.map some) H (argG Γ (bs.map some)) := by
  refine e.inner (by simp [r.length]) (fun k bo s h1 h2 => ?_) (lents_nd nd)
  rw [List.getElem?_map] at h1
  cases q : bs[k]? with
  | none => rw [q] at h1; cases h1
  | some b =>
    rw [q] at h1; cases h1
    obtain ⟨v, a, b⟩ := r.get q
    exact ⟨v, by rw [List.getElem?_map, a]; rfl, b⟩
/-- behind a callee -/
theorem En.called (e : En K B F σ H Γ) {F' H' : Hp} {bs : List (Option Bo)} {σc : L2.St} {Γa : G} {v : V} {r : RV} (e2 : En K ⟨F, H, ownOf Γ σ bs⟩ F' σc H' Γa) (rv : RepV K ⟨F, H, ownOf Γ σ bs⟩ F' σc H' Γa v r) :
    Same F F' ∧ En K B F' σ H' (backG (bs.map lendOf) Γ Γa) ∧ RepV K B F' σ H' (backG (bs.map lendOf) Γ Γa) v r := by
  have eo := e.back e2 own_back
  refine ⟨e2.keep, eo, ?_⟩
  cases r with
  | fz d => exact rv
  | fr d =>
    obtain ⟨p, h1, h2, h3, h4, h5⟩ := rv
    have h4' : H p = none := h4
    refine ⟨p, h1, h2, h3, e.dom p h4', fun i x hx hp => ?_⟩
    obtain ⟨d0, w⟩ : ∃ d0, Hld Γ i d0 := by
      rcases hx with hx | hx <;> rw [backG_get] at hx
      · cases w : Γ[i]? with
        | none => rw [w] at hx; cases hx
        | some s => rw [w] at hx; cases s with
          | none => cases hx
          | some s => cases s with
            | fz d => cases hx
            | ow d => exact ⟨d, .inl w⟩
            | ln d => cases hx
      · cases w : Γ[i]? with
        | none => rw [w] at hx; cases hx
        | some s => rw [w] at hx; cases s with
          | none => cases hx
          | some s => cases s with
            | fz d => cases hx
            | ow d => cases hx
            | ln d => exact ⟨d, .inr w⟩
    obtain ⟨p', a, b, c⟩ := e.hl i d0 w
    rw [hp] at a; cases a
    obtain ⟨o, ho⟩ := c.some
    rw [h4'] at ho; cases ho
theorem ref_call {t : TA} {t3 : TAB3} {S : S3} {n : Nat} {E : XK} (h : RefAB K t t3) : Ref K (tCall (sp3 K n S) [] E t) (call3f n S t3) := by
  intro B F σ H Γ Q QQ e q k
  refine h B F σ H Γ _ _ e q fun vs H1 ⟨F1, Γ1, bs, s1, e1, r1, hn, nd, q1⟩ => ?_
  show sp3 K n S (vs ++ []) H1 QQ E
  rw [List.append_nil]
  refine ⟨by rw [r1.length]; exact hn, F1, _, _, _, e1.args r1 nd, argG_ow, q1, fun r Γa q v H' F' e2 rv => ?_⟩
  obtain ⟨a, b, c⟩ := e1.called e2 rv
  exact k v H' ⟨F', _, r, s1.trans a, b, c, q⟩
/-- the lent ones as the callee leaves them, the others as they were -/
def outG (Γa Γ' : G) : G := Γa.mapIdx fun k s => match s with
  | some (.ln d) => (match Γ'[k]? with
    | some (some (.ln d')) => some (.ln d')
    | _ => some (.ln d))
  | s => s
theorem outG_ln {Γa Γ' : G} {k : Nat} {d : D} (h : Γa[k]? = some (some (Sl.ln d))) {d' : D} (h' : Γ'[k]? = some (some (Sl.ln d'))) : (outG Γa Γ')[k]? = some (some (Sl.ln d')) := by
  unfold outG
  rw [List.getElem?_mapIdx, h]
  simp [h']
theorem outG_inv {Γa Γ' : G} {k : Nat} {s : Sl} (h : (outG Γa Γ')[k]? = some (some s)) : (∃ d d', Γa[k]? = some (some (Sl.ln d)) ∧ s = .ln d') ∨ (Γa[k]? = some (some s) ∧ ∀ d, s ≠ .ln d) := by
  unfold outG at h
  rw [List.getElem?_mapIdx] at h
  cases w : Γa[k]? with
  | none => rw [w] at h; cases h
  | some o =>
    rw [w] at h
    cases o with
    | none => cases h
    | some s' =>
      cases s' with
      | fz d => cases h; exact .inr ⟨rfl, fun d z => by cases z⟩
      | ow d => cases h; exact .inr ⟨rfl, fun d z => by cases z⟩
      | ln d =>
        left
        simp only [Option.map_some, Option.some.injEq] at h
        split at h
        · cases h; exact ⟨d, _, rfl, rfl⟩
        · cases h; exact ⟨d, _, rfl, rfl⟩
/-- at the callee's end -/
theorem En.out {F0 H0 F' H' : Hp} {own : List (Nat × Addr)} {σa σ' : L2.St} {Γa Γ' : G} (e0 : En K ⟨F0, H0, own⟩ F0 σa H0 Γa) (hno : ∀ (k : Nat) (d : D), Γa[k]? ≠ some (some (Sl.ow d))) (e1 : En K ⟨F0, H0, own⟩ F' σ' H' Γ') {v : V} {r : RV} (rv : RepV K ⟨F0, H0, own⟩ F' σ' H' Γ' v r) :
    En K ⟨F0, H0, own⟩ F' σa H' (outG Γa Γ') ∧ RepV K ⟨F0, H0, own⟩ F' σa H' (outG Γa Γ') v r := by
  have lnk : ∀ {k : Nat} {d : D}, Γa[k]? = some (some (Sl.ln d)) → ∃ p d', (k, p) ∈ own ∧ σa[k]? = some (some (V.ref p)) ∧ σ'[k]? = some (some (V.ref p)) ∧ Γ'[k]? = some (some (Sl.ln d')) ∧ (outG Γa Γ')[k]? = some (some (Sl.ln d')) := fun {k d} h => by
    obtain ⟨p, a, b, c⟩ := e0.hl k d (.inr h)
    have m := e0.ln k d p h a
    obtain ⟨a', d', b'⟩ := e1.par k p m
    exact ⟨p, d', m, a, a', b', outG_ln h b'⟩
  have hld : ∀ {k : Nat} {d : D}, Hld (outG Γa Γ') k d → ∃ p d0, Γa[k]? = some (some (Sl.ln d0)) ∧ (k, p) ∈ own ∧ σa[k]? = some (some (V.ref p)) ∧ σ'[k]? = some (some (V.ref p)) ∧ Γ'[k]? = some (some (Sl.ln d)) := fun {k d} h => by
    rcases h with h | h
    · rcases outG_inv h with ⟨d1, d2, _, z⟩ | ⟨z, _⟩
      · cases z
      · exact absurd z (hno k d)
    · rcases outG_inv h with ⟨d1, d2, z, _⟩ | ⟨_, z⟩
      · obtain ⟨p, d', m, a, a', b', c'⟩ := lnk z
        rw [h] at c'; cases c'
        exact ⟨p, d1, z, m, a, a', b'⟩
      · exact absurd rfl (z d)
  refine ⟨⟨e1.sub, ?_, ?_, ?_, ?_, ?_, ?_, ?_, e1.keep, e1.new, e1.rest, e1.dom⟩, ?_⟩
  · unfold outG; rw [List.length_mapIdx]; exact e0.len
  · intro k d q
    rcases outG_inv q with ⟨d1, d2, _, z⟩ | ⟨z, _⟩
    · cases z
    · obtain ⟨u, a, b⟩ := e0.fz k d z
      exact ⟨u, a, b.mono e1.keep⟩
  · intro k d q
    obtain ⟨p, d0, _, m, a, a', b⟩ := hld q
    obtain ⟨p', x, y, z⟩ := e1.hl k d (.inr b)
    rw [a'] at x; cases x
    exact ⟨p, a, y, z⟩
  · intro k d p q
    rcases outG_inv q with ⟨d1, d2, _, z⟩ | ⟨z, _⟩
    · cases z
    · exact absurd z (hno k d)
  · intro k d p q a
    obtain ⟨p', d0, _, m, a', _⟩ := hld (.inr q)
    rw [a] at a'; cases a'
    exact m
  · intro k k' d d' p q1 q2 a1 a2
    obtain ⟨p1, d1, z1, _⟩ := hld q1
    obtain ⟨p2, d2, z2, _⟩ := hld q2
    exact e0.dis k k' d1 d2 p (.inr z1) (.inr z2) a1 a2
  · intro k p q
    obtain ⟨a, d, b⟩ := e0.par k p q
    obtain ⟨p', d', m, a', _, _, c⟩ := lnk b
    exact ⟨a, d', c⟩
  · cases r with
    | fz d => exact rv
    | fr d =>
      obtain ⟨p, h1, h2, h3, h4, h5⟩ := rv
      refine ⟨p, h1, h2, h3, h4, fun k x hx a => ?_⟩
      obtain ⟨p', d0, _, m, a', b', c'⟩ := hld hx
      rw [a] at a'; cases a'
      exact h5 k x (.inr c') b'
end
end L3


namespace L3
open PySem L2 PySem.Spec PyProof.Rows
/-! ### a def -/
def startG (N : List Str) (Γa : G) : G := Γa ++ List.replicate (N.length - Γa.length) none
section
variable {P : Program} {w : World} {K : PySem.W.Frag} {mg : Str → Option Value} {base : Heap}
theorem En.start {B : Bs} {F H : Hp} {vs : List V} {Γa : G} {N : List Str} (e : En K B F (vs.map some) H Γa) (hl : Γa.length ≤ N.length) : En K B F (L2.start N vs) H (startG N Γa) := by
  have len := e.len
  rw [List.length_map] at len
  have hs : ∀ {i : Nat}, i < Γa.length → (L2.start N vs)[i]? = (vs.map some)[i]? := fun {i} h => by
    unfold L2.start
    rw [List.getElem?_append_left (by rw [List.length_map]; omega)]
  have hg : ∀ {i : Nat} {s : Sl}, (startG N Γa)[i]? = some (some s) → i < Γa.length ∧ Γa[i]? = some (some s) := fun {i s} h => by
    unfold startG at h
    by_cases lt : i < Γa.length
    · rw [List.getElem?_append_left lt] at h; exact ⟨lt, h⟩
    · rw [List.getElem?_append_right (by omega)] at h
      have := List.mem_of_getElem? h
      rw [List.mem_replicate] at this
      cases this.2
  have hh : ∀ {i : Nat} {d : D}, Hld (startG N Γa) i d → i < Γa.length ∧ Hld Γa i d := fun h => by
    rcases h with h | h
    · exact ⟨(hg h).1, .inl (hg h).2⟩
    · exact ⟨(hg h).1, .inr (hg h).2⟩
  refine ⟨e.sub, ?_, ?_, ?_, ?_, ?_, ?_, ?_, e.keep, e.new, e.rest, e.dom⟩
  · unfold L2.start startG
    simp only [List.length_append, List.length_map, List.length_replicate]
    omega
  · intro i d q
    obtain ⟨lt, q⟩ := hg q
    rw [hs lt]; exact e.fz i d q
  · intro i d q
    obtain ⟨lt, q⟩ := hh q
    rw [hs lt]; exact e.hl i d q
  · intro i d p q a
    obtain ⟨lt, q⟩ := hg q
    rw [hs lt] at a; exact e.ow i d p q a
  · intro i d p q a
    obtain ⟨lt, q⟩ := hg q
    rw [hs lt] at a; exact e.ln i d p q a
  · intro i j d d' p q1 q2 a1 a2
    obtain ⟨l1, q1⟩ := hh q1
    obtain ⟨l2, q2⟩ := hh q2
    rw [hs l1] at a1
    rw [hs l2] at a2
    exact e.dis i j d d' p q1 q2 a1 a2
  · intro i p q
    obtain ⟨a, d, b⟩ := e.par i p q
    have lt : i < Γa.length := (List.getElem?_eq_some_iff.mp b).1
    refine ⟨by rw [hs lt]; exact a, d, ?_⟩
    unfold startG
    rw [List.getElem?_append_left lt]; exact b
/-- THE RULE for a def -/
theorem ok3 {x qual : Str} {st : Stmt} {f : Addr} {fd : FuncData} {N ps : List Str} {k : Nat} {S : S3} (F : Fun K x qual st f fd) (Sc : FnScope N ps (defScope st)) (hN : ps.length ≤ N.length := by decide)
    (hbody : ∀ (cdv : Value) (A : Around) (outer : List Env) (s : Shared) (H : Hp) (E : XK), Room k (A.deeper (envOfC qual (defScope st) s.heap.objs.size f cdv)) →
      ∃ t t3, P3Ss K (cxOf CX0 P w K mg base N qual (defScope st) f cdv A outer s H E).nox (defBody st) t t3 ∧ ∀ Γa Q, S Γa Q → Γa.length = ps.length → t3 { nx := fun Γ' => Q (.fz .non) (outG Γa Γ'), rt := fun r Γ' => Q r (outG Γa Γ') } (startG N Γa)) :
    FnOk P w K mg base CX0 (k + 1) f fd ps (sp3 K ps.length S) := by
  refine F.ok Sc (fun vs H Q E h => h.1) fun cdv A outer s H vs Q E hr h => ?_
  obtain ⟨hl, F0, own, Γa, Q3, e, hno, hS, hQ⟩ := h
  obtain ⟨t, t3, ht, rd⟩ := hbody cdv A outer s H E hr
  have hla : Γa.length = ps.length := by rw [← e.len, List.length_map]; exact hl
  refine ⟨t, ht.pe, ht.rf ⟨F0, H, own⟩ F0 _ H _ _ { nx := fun Γ' => Q3 (.fz .non) (outG Γa Γ'), rt := fun r Γ' => Q3 r (outG Γa Γ') } (e.start (N := N) (by rw [hla]; exact hN)) ⟨?_, ?_, fun _ _ _ _ _ _ z => False.elim z, fun _ _ _ _ _ _ z => False.elim z⟩ (rd Γa Q3 hS hla)⟩
  · intro F' σ' H' Γ' s' e' q
    obtain ⟨a, b⟩ := e.out hno e' (v := .non) (r := .fz .non) rfl
    exact hQ _ _ q _ _ _ a b
  · intro F' σ' H' Γ' v r s' e' rv q
    obtain ⟨a, b⟩ := e.out hno e' rv
    exact hQ _ _ q _ _ _ a b
end
/-! ### calls -/
section
variable {K : PySem.W.Frag} {X : Cx} {k : Nat} {f C : Addr} {fd : FuncData} {ps : List Str} {x m : Str} {p pos apos : Pos} {e o : Expr} {es : List Expr} {ta : TE} {t : TA} {t3 : TAB3} {o3 : TB3} {n : Nat} {S : S3}
theorem p3_call (hK : X.K = K) (F : FnOk X.prog X.w X.K X.mg X.base CX0 k f fd ps (sp3 K n S)) (hr : Room k X.A) (hg : Gl X x) (hm : X.mg x = some (.ref f)) (hk : PySem.W.keepIn X.K (.ref f) = true) (hb : Binds X.K fd ps [])
    (ha : P3AB K X (e :: es) t t3) (hdb : (x == ("__debug__" : Str)) = false := by decide) (he : starEach (e :: es) X.env = (false, eval e X.env) :: starEach es X.env := by rfl) (hpl : (backTo pos (starEach es X.env)).any (·.1) = false := by rfl) :
    P3 K X (.Call (.Name x p) (e :: es) [] pos) (tCall (sp3 K n S) [] E0 t) (call3f n S t3) := ⟨pe_call F hr hg hm hk hb .nil pass0 ha.pe hdb he hpl, ref_call ha.rf⟩
theorem p3_call0 (hK : X.K = K) (F : FnOk X.prog X.w X.K X.mg X.base CX0 k f fd ps (sp3 K n S)) (hr : Room k X.A) (hg : Gl X x) (hm : X.mg x = some (.ref f)) (hk : PySem.W.keepIn X.K (.ref f) = true) (hb : Binds X.K fd ps [])
    (hdb : (x == ("__debug__" : Str)) = false := by decide) :
    P3 K X (.Call (.Name x p) [] [] pos) (tCall (sp3 K n S) [] E0 tNil) (call3f n S nilB) := ⟨pe_call0 F hr hg hm hk hb .nil pass0 hdb, ref_call (b3a_nil (X := X)).rf⟩
def meth3 (C : Addr) (m : Str) (n : Nat) (S : S3) (o3 : TB3) (t3 : TAB3) (Γ : G) (Q : RV → G → Prop) : Prop := o3 Γ fun x Γ1 => (∃ ns xs, x.at Γ1 = some (.ins C ns xs) ∧ m ∉ ns) ∧ t3 Γ1 fun bs Γ2 => bs.length + 1 = n ∧ (lents (x :: bs)).Nodup ∧ S (argG Γ2 ((x :: bs).map some)) fun r Γa => Q r (backG (((x :: bs).map some).map lendOf) Γ2 Γa)
theorem lookup_no {ns : List Str} : ∀ {gs : List (Str × V)} {m : Str}, gs.map (·.1) = ns → m ∉ ns → gs.lookup m = none := by
  induction ns with
  | nil => intro gs m h _; cases gs with | nil => rfl | cons => cases h
  | cons a ns ih =>
    intro gs m h hn
    cases gs with
    | nil => cases h
    | cons g gs =>
      simp only [List.map_cons, List.cons.injEq] at h
      obtain ⟨rfl, h⟩ := h
      rw [List.mem_cons, not_or] at hn
      obtain ⟨g1, g2⟩ := g
      rw [List.lookup_cons, show (m == g1) = false from beq_eq_false_iff_ne.mpr hn.1]
      exact ih h hn.2
theorem ref_meth (ho : RefB K ta o3) (ha : RefAB K t t3) : Ref K (tMeth C m (sp3 K n S) [] E0 ta t) (meth3 C m n S o3 t3) := by
  intro B F σ H Γ Q QQ e q kk
  refine ho B F σ H Γ _ _ e q fun v H0 ⟨F0, Γ0, bo, s0, e0, r0, ⟨ns, xs, hx, hm⟩, q0⟩ => ?_
  obtain ⟨p, dx, gs, rfl, h1, h2, h3⟩ := e0.bo r0 hx
  refine ⟨p, dx, gs, rfl, h1, lookup_no h2 hm, ha B F0 σ H0 Γ0 _ _ e0 q0 fun vs H1 ⟨F1, Γ1, bs, s1, e1, r1, hn, nd, q1⟩ => ?_⟩
  show sp3 K n S (V.ref p :: (vs ++ [])) H1 QQ E0
  rw [List.append_nil]
  have rr : RepBos K F1 σ (bo :: bs) (V.ref p :: vs) := ⟨_, _, rfl, r0.mono s1, r1⟩
  refine ⟨by rw [rr.length]; exact hn, F1, _, _, _, e1.args rr nd, argG_ow, q1, fun r Γa q v H' F' e2 rv => ?_⟩
  obtain ⟨a, b, c⟩ := e1.called e2 rv
  exact kk v H' ⟨F', _, r, (s0.trans s1).trans a, b, c, q⟩
theorem p3_meth {pl : Sem Bool} (hK : X.K = K) (he : P3B K X o ta o3) (c : Cls X.K C) (hm : Meth X.K C m f) (F : FnOk X.prog X.w X.K X.mg X.base CX0 k f fd ps (sp3 K n S)) (hr : Room k X.A) (hb : Binds X.K fd ps []) (ha : P3AB K X (e :: es) t t3)
    (hst : starEach (e :: es) X.env = (false, eval e X.env) :: starEach es X.env := by rfl) (hpl : (backTo pos (starEach es X.env)).any (·.1) = false := by rfl)
    (ht : eval (.Call (.Attribute o m apos) (e :: es) [] pos) X.env = (do
      let ov ← eval o X.env
      standAt apos.atName
      let (f, first) ← holding [ov] (getMethod ov m pl)
      callWith pos f first (backTo pos (starEach (e :: es) X.env)) (backToKw pos (keywordEach [] X.env))) := by rfl) :
    P3 K X (.Call (.Attribute o m apos) (e :: es) [] pos) (tMeth C m (sp3 K n S) [] E0 ta t) (meth3 C m n S o3 t3) := ⟨pe_meth he.pe c hm F hr hb .nil pass0 ha.pe hst hpl ht, ref_meth he.rf ha.rf⟩
theorem p3_meth0 {pl : Sem Bool} (hK : X.K = K) (he : P3B K X o ta o3) (c : Cls X.K C) (hm : Meth X.K C m f) (F : FnOk X.prog X.w X.K X.mg X.base CX0 k f fd ps (sp3 K n S)) (hr : Room k X.A) (hb : Binds X.K fd ps [])
    (ht : eval (.Call (.Attribute o m apos) [] [] pos) X.env = (do
      let ov ← eval o X.env
      standAt apos.atName
      let (f, first) ← holding [ov] (getMethod ov m pl)
      callWith pos f first (backTo pos (starEach [] X.env)) (backToKw pos (keywordEach [] X.env))) := by rfl) :
    P3 K X (.Call (.Attribute o m apos) [] [] pos) (tMeth C m (sp3 K n S) [] E0 ta tNil) (meth3 C m n S o3 nilB) := ⟨pe_meth0 he.pe c hm F hr hb .nil pass0 ht, ref_meth he.rf (b3a_nil (X := X)).rf⟩
/-- one of two ways -/
theorem P3.or {e : Expr} {t t' : TE} {a3 b3 : TE3} (h : P3 K X e t a3) (h' : P3 K X e t' b3) : P3 K X e (fun σ H Q => t σ H Q ∨ t' σ H Q) (fun Γ Q => a3 Γ Q ∨ b3 Γ Q) :=
  ⟨fun pins s σ H Q I q => q.elim (h.pe pins s σ H Q I) (h'.pe pins s σ H Q I), fun B F σ H Γ Q QQ e q k => q.imp (fun q => h.rf B F σ H Γ Q QQ e q k) (fun q => h'.rf B F σ H Γ Q QQ e q k)⟩
/-- C() of a class without __init__ -/
theorem p3_make00 (M : Mk0 X.K C) (hg : Gl X x) (hm : X.mg x = some (.ref C)) (hdb : (x == ("__debug__" : Str)) = false := by decide) : P3 K X (.Call (.Name x p) [] [] pos) (tMake00 C) (fun Γ Q => Q (.fr (.ins C [] [])) Γ) :=
  ⟨pe_make00 M hg hm hdb, fun B F σ H Γ Q QQ e q k => fun y dy hy hdy ne => k _ _ (by
    have e1 := e.alloc hdy (.own y)
    have hy' : (upd H dy (.own y)) y = none := by rw [upd_ne (Ne.symm ne)]; exact hy
    exact ⟨F, Γ, .fr (.ins C [] []), Same.refl F, e1.alloc hy' _, ⟨y, rfl, e1.nof hy', ⟨dy, [], upd_same, rfl, rfl⟩, e.dom _ hy, e1.nohl hy'⟩, q⟩)⟩
end
end L3


namespace L3
open PySem L2 PySem.Spec
section
variable {K : PySem.W.Frag} {X : Cx} {B : Bs} {F H : Hp} {σ : L2.St} {Γ : G} {pos p : Pos} {x : Str}
theorem p3_ty {n : String} (hg : Gl X x) (hm : X.mg x = none) (hv : bootBuiltins x = some (.type n)) (hn : x ≠ "__name__" := by decide) (hd : (x == ("__debug__" : Str)) = false := by decide) : P3 K X (.Name x pos) (tC (.ty n)) (t3C (.ty n)) :=
  ⟨pe_bltn (v := .ty n) hg hm hv rfl hn hd, ref_c fun _ => rfl⟩
theorem s3_setI' (i : Nat) {y : Str} {px p2 : Pos} {k e : Expr} {tk te : TE} {k3 : TB3} {e3 : TE3} (hx : P3B K X (.Name y px) (tVar i) (bor i)) (hk : P3B K X k tk k3) (he : P3 K X e te e3)
    (ha : ∀ v, assign (.Subscript (.Name y px) k p2) X.env v = (do
      let ov ← holding [v] (eval (.Name y px) X.env)
      let iv ← holding [v, ov] (eval k X.env)
      standAt p2
      holding [v, ov, iv] (setItem ov iv v)
      release [v, ov, iv] []) := by intro _; rfl)
    (hs : swapsWithSole [.Subscript (.Name y px) k p2] e pos.line X.env = pure false := by rfl) (hw : swappedStores [.Subscript (.Name y px) k p2] e X.env = pure none := by rfl)
    (h1 : (assignEach [.Subscript (.Name y px) k p2] X.env).map (·.2) = [assign (.Subscript (.Name y px) k p2) X.env] := by rfl) :
    P3S K X (.Assign [.Subscript (.Name y px) k p2] e pos) (tAsg te (gSub (tVar i) tk rSetL)) (setI3 i k3 e3) := s3_setI i hx hk he (ps_asg he.pe (pg_sub hx.pe hk.pe set_list ha) hs hw h1)
/-- all that is new but S is kept -/
theorem En.grow (e : En K B F σ H Γ) {H' : Hp} (s : Same H H') (S : Addr) (hS : H S = none) : ∃ F', Same F F' ∧ En K B F' σ H' Γ ∧ F' S = none ∧ ∀ b o, b ≠ S → H b = none → H' b = some o → F' b = some o := by
  refine ⟨fun b => if H b = none ∧ b ≠ S then H' b else F b, ?_, ?_, ?_, ?_⟩
  · intro b o h
    show (if _ then _ else _) = _
    have := e.sub b o h
    rw [if_neg (by rw [this]; simp)]; exact h
  · refine ⟨?_, e.len, ?_, ?_, e.ow, e.ln, e.dis, e.par, ?_, ?_, fun b o h n => s b o (e.rest b o h n), fun b h => e.dom b (s.free h)⟩
    · intro b o h
      change (if _ then _ else _) = _ at h
      split at h
      · exact h
      · exact s b o (e.sub b o h)
    · intro i d h
      obtain ⟨v, a, b⟩ := e.fz i d h
      refine ⟨v, a, b.mono fun b o h => ?_⟩
      show (if _ then _ else _) = _
      have := e.sub b o h
      rw [if_neg (by rw [this]; simp)]; exact h
    · intro i d h
      obtain ⟨q, a, b, c⟩ := e.hl i d h
      obtain ⟨o, ho⟩ := c.some
      refine ⟨q, a, ?_, c.mono (fun b o h => ?_) (by rw [ho]; exact s _ _ ho)⟩
      · show (if _ then _ else _) = _
        rw [if_neg (by rw [ho]; simp)]; exact b
      · show (if _ then _ else _) = _
        have := e.sub b o h
        rw [if_neg (by rw [this]; simp)]; exact h
    · intro b o h
      have h' := e.keep b o h
      show (if _ then _ else _) = _
      have := e.sub b o h'
      rw [if_neg (by rw [this]; simp)]; exact h'
    · intro b o h
      change (if _ then _ else _) = _ at h
      split at h
      · rename_i q; exact .inr (e.dom b q.1)
      · exact e.new b o h
  · show (if _ then _ else _) = _
    rw [if_neg (by simp)]; exact e.nof hS
  · intro b o n h h'
    show (if _ then _ else _) = _
    rw [if_pos ⟨h, n⟩]; exact h'
def lz3 (t3 : TAB3) (Γ : G) (Q : RV → G → Prop) : Prop := t3 Γ fun bs Γ1 => ∃ xs ys, ats Γ1 bs = some [.lst xs, .lst ys] ∧ min xs.length ys.length < sizeLine ∧ Q (.fr (.lst (zipD xs ys))) Γ1
theorem repl_of {F : Hp} : ∀ {ds : List D} {vs : List V}, vs.length = ds.length → (∀ (i : Nat) d v, ds[i]? = some d → vs[i]? = some v → Rep K F d v) → RepL K F ds vs
  | [], vs, h, _ => by cases vs with | nil => rfl | cons => simp at h
  | d :: ds, vs, h, k => by
    cases vs with
    | nil => simp at h
    | cons v vs => exact ⟨v, vs, rfl, k 0 d v rfl rfl, repl_of (by simpa using h) fun i d v h1 h2 => k (i + 1) d v (by simpa using h1) (by simpa using h2)⟩
theorem zipD_len {xs ys : List D} : (zipD xs ys).length = min xs.length ys.length := by unfold zipD; rw [List.length_map, List.length_zip]
theorem p3_listzip {a b : Expr} {ta : TA} {t3 : TAB3} {p p2 pos pos2 : Pos} (hc : X.calm = true) (hg : Gl X "list") (hm : X.mg "list" = none) (hg2 : Gl X "zip") (hm2 : X.mg "zip" = none) (ha : P3AB K X [a, b] ta t3)
    (hs : starEach [a, b] X.env = [(false, eval a X.env), (false, eval b X.env)] := by rfl) (hs2 : starEach [b] X.env = [(false, eval b X.env)] := by rfl) (hs3 : starEach [Expr.Call (.Name "zip" p2) [a, b] [] pos2] X.env = [(false, eval (.Call (.Name "zip" p2) [a, b] [] pos2) X.env)] := by rfl) :
    P3 K X (.Call (.Name "list" p) [.Call (.Name "zip" p2) [a, b] [] pos2] [] pos) (tListZip ta) (lz3 t3) := ⟨pe_listzip hc hg hm hg2 hm2 ha.pe hs hs2 hs3, by
  intro B F σ H Γ Q QQ e q k
  refine ha.rf B F σ H Γ _ _ e q fun vs H1 ⟨F1, Γ1, bs, s1, e1, r0, xs, ys, hd, hz, q1⟩ => ?_
  obtain ⟨v, w, rfl, ⟨p1, vs1, rfl, g1, r1⟩, ⟨p2, vs2, rfl, g2, r2⟩⟩ := (e1.bos r0 hd).two
  refine ⟨p1, p2, vs1, vs2, rfl, g1, g2, by rw [r1.length, r2.length]; exact hz, fun S ts H' hS sm h1 h2 h3 h4 => k _ _ ?_⟩
  obtain ⟨F2, s2, e2, f2, g⟩ := e1.grow sm S hS
  have hS' : ∀ t ∈ ts, t ≠ S := fun t ht z => by
    subst z
    obtain ⟨j, hj, hjt⟩ := List.getElem_of_mem ht
    have hx : j < vs1.length := by rw [h2] at hj; omega
    have hy : j < vs2.length := by rw [h2] at hj; omega
    have := h3 j t _ _ (by rw [← hjt]; exact List.getElem?_eq_getElem hj) (List.getElem?_eq_getElem hx) (List.getElem?_eq_getElem hy)
    rw [h1] at this; cases this
  refine ⟨F2, Γ1, .fr (.lst (zipD xs ys)), s1.trans s2, e2, ⟨S, rfl, f2, ⟨_, h1, ?_⟩, e1.dom _ hS, e1.nohl hS⟩, q1⟩
  refine repl_of (by rw [List.length_map, h2, zipD_len, r1.length, r2.length]) fun i d v hd hv => ?_
  obtain ⟨dx, dy, hx, hy, rfl⟩ := zipD_get hd
  rw [List.getElem?_map] at hv
  cases ht : ts[i]? with
  | none => rw [ht] at hv; cases hv
  | some t =>
    rw [ht] at hv; cases hv
    obtain ⟨v, hv, rv⟩ := r1.get hx
    obtain ⟨w, hw, rw'⟩ := r2.get hy
    have m := List.mem_of_getElem? ht
    exact ⟨t, _, rfl, g t _ (hS' t m) (h4 t m) (h3 i t v w ht hv hw), ⟨_, _, rfl, rv.mono s2, _, _, rfl, rw'.mono s2, rfl⟩⟩⟩
/-! ### for readings -/
theorem backG_none {ls : List (Option Nat)} {cs : G} (h : ls.all (·.isNone) = true) : backG ls Γ cs = Γ := by
  have hn : ∀ j, newD ls cs j = none := by
    intro j
    cases q : newD ls cs j with
    | none => rfl
    | some d =>
      obtain ⟨k, a, _⟩ := newD_some q
      have := List.all_eq_true.mp h _ (List.mem_of_getElem? a)
      cases this
  refine List.ext_getElem? fun i => ?_
  rw [backG_get, hn]
  cases q : Γ[i]? with
  | none => rfl
  | some s => cases s with
    | none => rfl
    | some s => cases s <;> rfl
end
end L3


namespace L3
open PySem L2 PySem.Spec
/-! ### readings -/
theorem atI_0 {α : Type} {a : α} {l : List α} : atI (a :: l) 0 = some a := by
  unfold L2.atI ixN; simp
theorem atI_1 {α : Type} {a b : α} {l : List α} : atI (a :: b :: l) 1 = some b := by
  have : ixN (a :: b :: l).length 1 = some 1 := by
    unfold ixN; rw [if_pos (by decide), if_pos (by simp; omega)]; rfl
  unfold L2.atI; rw [this]; rfl
theorem atI_2 {α : Type} {a b c : α} {l : List α} : atI (a :: b :: c :: l) 2 = some c := by
  have : ixN (a :: b :: c :: l).length 2 = some 2 := by
    unfold ixN; rw [if_pos (by decide), if_pos (by simp; omega)]; rfl
  unfold L2.atI; rw [this]; rfl
theorem atI_3 {α : Type} {a b c d : α} {l : List α} : atI (a :: b :: c :: d :: l) 3 = some d := by
  have : ixN (a :: b :: c :: d :: l).length 3 = some 3 := by
    unfold ixN; rw [if_pos (by decide), if_pos (by simp; omega)]; rfl
  unfold L2.atI; rw [this]; rfl
theorem ixN_30 : ixN 3 0 = some 0 := rfl
theorem ixN_31 : ixN 3 1 = some 1 := rfl
theorem ixN_32 : ixN 3 2 = some 2 := rfl
theorem atI_nat' {α : Type} {xs : List α} {k : Int} {d : α} (h : 0 ≤ k) (e : xs[k.toNat]? = some d) : atI xs k = some d := by
  obtain ⟨j, rfl⟩ : ∃ j : Nat, k = (j : Int) := ⟨k.toNat, by omega⟩
  exact atI_nat (by simpa using e)
theorem atI_int {ns : List Int} {k : Int} (h0 : 0 ≤ k) (h1 : k < (ns.length : Int)) : atI (ns.map D.int) k = some (.int (ns.getD k.toNat 0)) := by
  refine atI_nat' h0 ?_
  have : k.toNat < ns.length := by omega
  rw [List.getElem?_map, List.getElem?_eq_getElem this]
  simp [List.getD, this]
theorem atI_scr {ns : List Int} {k : Int} (h0 : 0 ≤ k) (h1 : k < (ns.length : Int)) : atI ns k = some (ns.getD k.toNat 0) := by
  refine atI_nat' h0 ?_
  have : k.toNat < ns.length := by omega
  rw [List.getElem?_eq_getElem this]
  simp [List.getD, this]
theorem atI_last {ns : List Int} (h : 1 ≤ ns.length) : atI (ns.map D.int) (-1) = some (.int (ns.getD (ns.length - 1) 0)) := by
  have e : ixN (ns.map D.int).length (-1) = some (ns.length - 1) := by
    unfold ixN
    rw [List.length_map, if_neg (by decide), if_pos (by omega)]
    congr 1
    omega
  unfold L2.atI
  rw [e]
  have : ns.length - 1 < ns.length := by omega
  show (ns.map D.int)[ns.length - 1]? = _
  rw [List.getElem?_map, List.getElem?_eq_getElem this]
  simp [List.getD, this]
section
variable {K : PySem.W.Frag} {P : Program} {w : World} {mg : Str → Option Value} {base : Heap}
/-- the law itself -/
def law_s (n : Nat) : S3 := fun Γ Q => ∃ ns : List Int, Γ = [some (.fz (.scr ns))] ∧ ns.length ≤ n ∧ ∀ Γ', Q (.fz (.bl true)) Γ'
theorem law_of {k n : Nat} {f : Addr} {fd : FuncData} {ps : List Str} (F : FnOk P w K mg base CX0 k f fd ps (sp3 K 1 (law_s n))) :
    FnOk P w K mg base CX0 k f fd ps (fun vs H Q _ => ∃ (p : Addr) (ns : List Int), vs = [.ref p] ∧ SqL K H p (ns.map V.int) ∧ ns.length ≤ n ∧ ∀ H', Q (.bl true) H') := by
  refine F.imp fun vs H Q E h => ?_
  obtain ⟨p, ns, rfl, hs, hn, q⟩ := h
  have go1 : ∀ {i : Nat} {s : Sl}, ([some (Sl.fz (.scr ns))] : G)[i]? = some (some s) → i = 0 ∧ s = .fz (.scr ns) := fun {i s} h => by
    cases i with
    | zero => cases h; exact ⟨rfl, rfl⟩
    | succ i => cases h
  refine ⟨rfl, H, [], [some (.fz (.scr ns))], fun r _ => r = .fz (.bl true), ⟨Same.refl H, rfl, ?_, ?_, ?_, ?_, ?_, ?_, Same.refl H, fun b o h => .inl h, fun b o h _ => h, fun b h => h⟩, ?_, ⟨ns, rfl, hn, fun _ => rfl⟩, ?_⟩
  · intro i d h
    obtain ⟨rfl, e⟩ := go1 h
    cases e
    exact ⟨_, rfl, p, rfl, hs⟩
  · intro i d h
    rcases h with h | h <;> cases (go1 h).2
  · intro i d p h
    cases (go1 h).2
  · intro i d p h
    cases (go1 h).2
  · intro i j d e p h
    rcases h with h | h <;> cases (go1 h).2
  · intro i p h; cases h
  · intro k d h
    cases (go1 h).2
  · intro r Γ' e v H' F' _ rv
    subst e
    have : v = .bl true := rv
    subst this
    exact q H'
end
end L3


namespace L3
open PySem L2 PySem.Spec PySem.SeqAt
/-! ### == of things within things -/
def b2 (b : Bool) : Int := if b then 1 else 0
mutual
def eqN : Nat → D → D → Option Bool
  | _, .non, .non => some true
  | _, .bl a, .bl b => some (a == b)
  | _, .int a, .int b => some (a == b)
  | _, .str a, .str b => some (a == b)
  | _, .bl a, .int b => some (b2 a == b)
  | _, .int a, .bl b => some (a == b2 b)
  | _, .non, .bl _ => some false
  | _, .non, .int _ => some false
  | _, .non, .str _ => some false
  | _, .bl _, .non => some false
  | _, .bl _, .str _ => some false
  | _, .int _, .non => some false
  | _, .int _, .str _ => some false
  | _, .str _, .non => some false
  | _, .str _, .bl _ => some false
  | _, .str _, .int _ => some false
  | n + 1, .lst xs, .lst ys => eqLs n xs ys
  | n + 1, .tup xs, .tup ys => eqLs n xs ys
  | _ + 1, .lst _, .tup _ => some false
  | _ + 1, .tup _, .lst _ => some false
  | _ + 1, .lst _, .non => some false
  | _ + 1, .lst _, .bl _ => some false
  | _ + 1, .lst _, .int _ => some false
  | _ + 1, .lst _, .str _ => some false
  | _ + 1, .non, .lst _ => some false
  | _ + 1, .bl _, .lst _ => some false
  | _ + 1, .int _, .lst _ => some false
  | _ + 1, .str _, .lst _ => some false
  | _ + 1, .tup _, .non => some false
  | _ + 1, .tup _, .bl _ => some false
  | _ + 1, .tup _, .int _ => some false
  | _ + 1, .tup _, .str _ => some false
  | _ + 1, .non, .tup _ => some false
  | _ + 1, .bl _, .tup _ => some false
  | _ + 1, .int _, .tup _ => some false
  | _ + 1, .str _, .tup _ => some false
  | _, _, _ => none
def eqLs : Nat → List D → List D → Option Bool
  | _, [], [] => some true
  | n, x :: xs, y :: ys => match eqN n x y, eqLs n xs ys with
    | some a, some b => some (a && b)
    | _, _ => none
  | _, _, _ => some false
end
section
variable {K : PySem.W.Frag} {F H : Hp}
theorem eqLs_len {n : Nat} : ∀ {xs ys : List D} {k : Bool}, eqLs n xs ys = some k → xs.length ≠ ys.length → k = false
  | [], [], _, _, h => absurd rfl h
  | x :: xs, [], _, e, _ => by unfold eqLs at e; cases e; rfl
  | [], y :: ys, _, e, _ => by unfold eqLs at e; cases e; rfl
  | x :: xs, y :: ys, k, e, h => by
    unfold eqLs at e
    split at e
    · rename_i a b ha hb
      cases e
      rw [eqLs_len hb (by simpa using h), Bool.and_false]
    · cases e
theorem eqLs_get {n : Nat} : ∀ {xs ys : List D} {k : Bool}, eqLs n xs ys = some k → ∃ e : Nat → Bool, (∀ (j : Nat) x y, xs[j]? = some x → ys[j]? = some y → eqN n x y = some (e j)) ∧ k = ((List.range (min xs.length ys.length)).all e && xs.length == ys.length)
  | [], [], k, h => by unfold eqLs at h; cases h; exact ⟨fun _ => true, fun j x y h => by simp at h, by simp⟩
  | x :: xs, [], k, h => by unfold eqLs at h; cases h; exact ⟨fun _ => true, fun j x y _ h => by simp at h, by simp⟩
  | [], y :: ys, k, h => by unfold eqLs at h; cases h; exact ⟨fun _ => true, fun j x y h => by simp at h, by simp⟩
  | x :: xs, y :: ys, k, h => by
    unfold eqLs at h
    split at h
    · rename_i a b ha hb
      cases h
      obtain ⟨e, h1, h2⟩ := eqLs_get hb
      refine ⟨fun j => match j with | 0 => a | j + 1 => e j, fun j x' y' hx hy => ?_, ?_⟩
      · cases j with
        | zero => simp at hx hy; subst hx hy; exact ha
        | succ j => exact h1 j x' y' (by simpa using hx) (by simpa using hy)
      · subst h2
        have hm : min (x :: xs).length (y :: ys).length = min xs.length ys.length + 1 := by simp [Nat.succ_min_succ]
        rw [hm, List.range_succ_eq_map, List.all_cons, List.all_map]
        simp only [List.length_cons, Function.comp_def, Bool.and_assoc]
        congr 1
        congr 1
        simp
    · cases h
mutual
theorem eq_same : ∀ {n : Nat} {d d' : D} {v : V} {k : Bool}, Rep K F d v → Rep K F d' v → eqN n d d' = some k → k = true
  | n, d, d', v, k, h, h', e => by
    unfold eqN at e
    split at e <;> first
      | (cases e; rfl)
      | (cases e; cases h; cases h'; simp; done)
      | (cases e; cases h; cases h'; done)
      | (cases e; cases h; obtain ⟨_, _, z, _⟩ := h'; cases z; done)
      | (cases e; cases h'; obtain ⟨_, _, z, _⟩ := h; cases z; done)
      | (obtain ⟨p, vs, rfl, a, b⟩ := h; obtain ⟨p', vs', q, a', b'⟩ := h'; cases q; rw [a] at a'; cases a'; exact eqLs_same b b' e)
      | (obtain ⟨p, vs, rfl, a, b⟩ := h; obtain ⟨p', vs', q, a', b'⟩ := h'; cases q; rw [a] at a'; cases a'; done)
      | (cases e; done)
theorem eqLs_same : ∀ {n : Nat} {xs ys : List D} {vs : List V} {k : Bool}, RepL K F xs vs → RepL K F ys vs → eqLs n xs ys = some k → k = true
  | n, [], [], _, k, _, _, e => by unfold eqLs at e; cases e; rfl
  | n, x :: xs, [], _, k, ⟨v, ws, h1, _⟩, h', e => by cases h'; cases h1
  | n, [], y :: ys, _, k, h, ⟨v, ws, h1, _⟩, e => by cases h; cases h1
  | n, x :: xs, y :: ys, _, k, ⟨v, ws, h1, h2, h3⟩, ⟨v', ws', h1', h2', h3'⟩, e => by
    subst h1
    cases h1'
    unfold eqLs at e
    split at e
    · rename_i a b ha hb
      cases e
      rw [eq_same h2 h2' ha, eqLs_same h3 h3' hb]; rfl
    · cases e
end
end
end L3

namespace L3
open PySem L2 PySem.Spec PySem.SeqAt
section
variable {K : PySem.W.Frag} {X : Cx} {F H : Hp} {pins : List (Addr × Obj)} {σ : L2.St} {s : Shared}
theorem Vals.at' {xs : List V} {us : List Value} (r : Vals xs us) {j : Nat} (h : j < us.toArray.size) : ∃ v, xs[j]? = some v ∧ RelV v (us.toArray[j]) := by
  have h1 : j < xs.length := by rw [r.length]; simpa using h
  obtain ⟨u, hu, ru⟩ := r.get (List.getElem?_eq_getElem h1)
  refine ⟨_, List.getElem?_eq_getElem h1, ?_⟩
  have : us.toArray[j] = u := by
    have h2 : j < us.length := by simpa using h
    have h3 : us[j]? = some us[j] := List.getElem?_eq_getElem h2
    rw [hu] at h3; cases h3
    simp
  rw [this]; exact ru
theorem isL_of (I : Inv X pins σ H s) {p : Addr} {vs : List V} (h : H p = some (.lst vs)) : ∃ its : List Value, Vals vs its ∧ s.heap.IsList p its.toArray := by
  obtain ⟨its, n, r, e, _⟩ := I.lst h
  exact ⟨its, r, _, e, rfl, n, rfl⟩
theorem isT_of (I : Inv X pins σ H s) {p : Addr} {vs : List V} (h : H p = some (.tup vs)) : ∃ its : List Value, Vals vs its ∧ s.heap.IsTuple p its.toArray := by
  obtain ⟨its, r, ⟨o, e, hc, n, d⟩, _⟩ := I.tuple (a := p) (xs := vs) (.inl (.inl h))
  exact ⟨its, r, o, e, hc, n, d⟩
/-- two lists, or tuples, item by item -/
theorem els_at {n : Nat} {A : Around} {xs ys : List D} {vs ws : List V} {us zs : List Value} {e : Nat → Bool} (ih : ∀ {d d' : D} {v v' : V} {u u' : Value} {k : Bool}, Rep K F d v → Rep K F d' v' → RelV v u → RelV v' u' → eqN n d d' = some k → EqAt A s u u' k)
    (r1 : RepL K F xs vs) (r2 : RepL K F ys ws) (q1 : Vals vs us) (q2 : Vals ws zs) (he : ∀ (j : Nat) x y, xs[j]? = some x → ys[j]? = some y → eqN n x y = some (e j)) :
    ∀ j (h1 : j < us.toArray.size) (h2 : j < zs.toArray.size), EqAt A s us.toArray[j] zs.toArray[j] (e j) := fun j h1 h2 => by
  obtain ⟨v, hv, rv⟩ := Vals.at' q1 h1
  obtain ⟨w, hw, rw'⟩ := Vals.at' q2 h2
  obtain ⟨d, hd, rd⟩ := r1.getV hv
  obtain ⟨d', hd', rd'⟩ := r2.getV hw
  exact ih rd rd' rv rw' (he j d d' hd hd')
theorem rc_lists {n : Nat} {A : Around} {p q : Addr} {xs ys : List D} {vs ws : List V} {k : Bool} (I : Inv X pins σ H s) (ih : ∀ {d d' : D} {v v' : V} {u u' : Value} {k : Bool}, Rep K F d v → Rep K F d' v' → RelV v u → RelV v' u' → eqN n d d' = some k → EqAt A.in1 s u u' k)
    (h1 : H p = some (.lst vs)) (h2 : H q = some (.lst ws)) (r1 : RepL K F xs vs) (r2 : RepL K F ys ws) (he : eqLs n xs ys = some k) (hu : A.units < cLine) : RcAt A s (.ref p) (.ref q) k := by
  obtain ⟨us, q1, l1⟩ := isL_of I h1
  obtain ⟨zs, q2, l2⟩ := isL_of I h2
  have n1 : us.toArray.size = xs.length := by rw [← r1.length, q1.length]; simp
  have n2 : zs.toArray.size = ys.length := by rw [← r2.length, q2.length]; simp
  by_cases hl : xs.length = ys.length
  · obtain ⟨e, g, rfl⟩ := eqLs_get he
    have := RcAt.lists l1 l2 (by rw [n1, n2, hl]) hu (els_at ih r1 r2 q1 q2 g)
    rw [n1] at this
    rw [hl, Nat.min_self, beq_self_eq_true, Bool.and_true]
    rw [hl] at this
    exact this
  · rw [eqLs_len he hl]
    refine RcAt.lists_lengths l1 l2 ?_ hu
    rw [n1, n2, bne_iff_ne]; exact hl
theorem rc_tuples {n : Nat} {A : Around} {p q : Addr} {xs ys : List D} {vs ws : List V} {k : Bool} (I : Inv X pins σ H s) (ih : ∀ {d d' : D} {v v' : V} {u u' : Value} {k : Bool}, Rep K F d v → Rep K F d' v' → RelV v u → RelV v' u' → eqN n d d' = some k → EqAt A.in1 s u u' k)
    (h1 : H p = some (.tup vs)) (h2 : H q = some (.tup ws)) (r1 : RepL K F xs vs) (r2 : RepL K F ys ws) (he : eqLs n xs ys = some k) (hu : A.units < cLine) : RcAt A s (.ref p) (.ref q) k := by
  obtain ⟨us, q1, l1⟩ := isT_of I h1
  obtain ⟨zs, q2, l2⟩ := isT_of I h2
  have n1 : us.toArray.size = xs.length := by rw [← r1.length, q1.length]; simp
  have n2 : zs.toArray.size = ys.length := by rw [← r2.length, q2.length]; simp
  obtain ⟨e, g, rfl⟩ := eqLs_get he
  have := RcAt.tuples l1 l2 hu (els_at ih r1 r2 q1 q2 g)
  rw [n1, n2] at this
  exact this
theorem eqN_at (I : Inv X pins σ H s) (sm : Same F H) : ∀ (n : Nat) {A : Around} {d d' : D} {v v' : V} {u u' : Value} {k : Bool}, A.units + n < cLine → Rep K F d v → Rep K F d' v' → RelV v u → RelV v' u' → eqN n d d' = some k → EqAt A s u u' k := by
  intro n
  induction n with
  | zero =>
    intro A d d' v v' u u' k hu r r' q q' e
    unfold eqN at e
    split at e <;> (try (cases e; done)) <;> (try (rename_i hn; cases hn; done)) <;> cases r <;> cases r'
    · cases e; cases q; cases q'; exact EqAt.same _
    · cases e; cases q; cases q'; exact .bool_bool _ _
    · cases e; obtain ⟨t, rfl⟩ := q; obtain ⟨t', rfl⟩ := q'; exact .int_int _ _ _ _
    · cases e; obtain ⟨t, rfl⟩ := q; obtain ⟨t', rfl⟩ := q'; exact .str_str _ _ _ _
    · cases e; cases q; obtain ⟨t', rfl⟩ := q'; exact .bool_int _ _ _
    · cases e; obtain ⟨t, rfl⟩ := q; cases q'; exact .int_bool _ _ _
    · cases e; cases q; cases q'; exact .none_bool _
    · cases e; cases q; obtain ⟨t', rfl⟩ := q'; exact .none_int _ _
    · cases e; cases q; obtain ⟨t', rfl⟩ := q'; exact .none_str _ _
    · cases e; cases q; cases q'; exact .bool_none _
    · cases e; cases q; obtain ⟨t', rfl⟩ := q'; exact .bool_str _ _ _
    · cases e; obtain ⟨t, rfl⟩ := q; cases q'; exact .int_none _ _
    · cases e; obtain ⟨t, rfl⟩ := q; obtain ⟨t', rfl⟩ := q'; exact .int_str _ _ _ _
    · cases e; obtain ⟨t, rfl⟩ := q; cases q'; exact .str_none _ _
    · cases e; obtain ⟨t, rfl⟩ := q; cases q'; exact .str_bool _ _ _
    · cases e; obtain ⟨t, rfl⟩ := q; obtain ⟨t', rfl⟩ := q'; exact .str_int _ _ _ _
  | succ n ih =>
    intro A d d' v v' u u' k hu r r' q q' e
    have hu0 : A.units < cLine := by omega
    have hu1 : A.in1.units + n < cLine := by show A.units + 1 + n < cLine; omega
    have e0 := e
    unfold eqN at e
    split at e
    · cases r; cases r'; cases e; cases q; cases q'; exact EqAt.same _
    · cases r; cases r'; cases e; cases q; cases q'; exact .bool_bool _ _
    · cases r; cases r'; cases e; obtain ⟨t, rfl⟩ := q; obtain ⟨t', rfl⟩ := q'; exact .int_int _ _ _ _
    · cases r; cases r'; cases e; obtain ⟨t, rfl⟩ := q; obtain ⟨t', rfl⟩ := q'; exact .str_str _ _ _ _
    · cases r; cases r'; cases e; cases q; obtain ⟨t', rfl⟩ := q'; exact .bool_int _ _ _
    · cases r; cases r'; cases e; obtain ⟨t, rfl⟩ := q; cases q'; exact .int_bool _ _ _
    · cases r; cases r'; cases e; cases q; cases q'; exact .none_bool _
    · cases r; cases r'; cases e; cases q; obtain ⟨t', rfl⟩ := q'; exact .none_int _ _
    · cases r; cases r'; cases e; cases q; obtain ⟨t', rfl⟩ := q'; exact .none_str _ _
    · cases r; cases r'; cases e; cases q; cases q'; exact .bool_none _
    · cases r; cases r'; cases e; cases q; obtain ⟨t', rfl⟩ := q'; exact .bool_str _ _ _
    · cases r; cases r'; cases e; obtain ⟨t, rfl⟩ := q; cases q'; exact .int_none _ _
    · cases r; cases r'; cases e; obtain ⟨t, rfl⟩ := q; obtain ⟨t', rfl⟩ := q'; exact .int_str _ _ _ _
    · cases r; cases r'; cases e; obtain ⟨t, rfl⟩ := q; cases q'; exact .str_none _ _
    · cases r; cases r'; cases e; obtain ⟨t, rfl⟩ := q; cases q'; exact .str_bool _ _ _
    · cases r; cases r'; cases e; obtain ⟨t, rfl⟩ := q; obtain ⟨t', rfl⟩ := q'; exact .str_int _ _ _ _
    · -- lists
      rename_i n' xs ys hn; cases hn
      have r0 := r; have r0' := r'
      obtain ⟨p, vs, rfl, a1, b1⟩ := r
      obtain ⟨p', vs', rfl, a2, b2⟩ := r'
      cases q; cases q'
      by_cases z : p = p'
      · subst z
        rw [eq_same r0 r0' e0]
        exact EqAt.same _
      · exact .of_refs z (rc_lists I (fun r r' q q' e => ih hu1 r r' q q' e) (sm _ _ a1) (sm _ _ a2) b1 b2 e hu0)
    · -- tuples
      rename_i n' xs ys hn; cases hn
      have r0 := r; have r0' := r'
      obtain ⟨p, vs, rfl, a1, b1⟩ := r
      obtain ⟨p', vs', rfl, a2, b2⟩ := r'
      cases q; cases q'
      by_cases z : p = p'
      · subst z
        rw [eq_same r0 r0' e0]
        exact EqAt.same _
      · exact .of_refs z (rc_tuples I (fun r r' q q' e => ih hu1 r r' q q' e) (sm _ _ a1) (sm _ _ a2) b1 b2 e hu0)
    · cases e; obtain ⟨p, vs, rfl, a1, _⟩ := r; obtain ⟨_, _, l1⟩ := isL_of I (sm _ _ a1); obtain ⟨p', vs', rfl, a2, _⟩ := r'; obtain ⟨_, _, l2⟩ := isT_of I (sm _ _ a2); cases q; cases q'; exact .list_tuple l1 l2 hu0
    · cases e; obtain ⟨p, vs, rfl, a1, _⟩ := r; obtain ⟨_, _, l1⟩ := isT_of I (sm _ _ a1); obtain ⟨p', vs', rfl, a2, _⟩ := r'; obtain ⟨_, _, l2⟩ := isL_of I (sm _ _ a2); cases q; cases q'; exact .tuple_list l1 l2 hu0
    · cases e; obtain ⟨p, vs, rfl, a1, _⟩ := r; obtain ⟨_, _, l1⟩ := isL_of I (sm _ _ a1); cases q; cases r'; cases q'; exact .list_none  l1 hu0
    · cases e; obtain ⟨p, vs, rfl, a1, _⟩ := r; obtain ⟨_, _, l1⟩ := isL_of I (sm _ _ a1); cases q; cases r'; cases q'; exact .list_bool _ l1 hu0
    · cases e; obtain ⟨p, vs, rfl, a1, _⟩ := r; obtain ⟨_, _, l1⟩ := isL_of I (sm _ _ a1); cases q; cases r'; obtain ⟨t', rfl⟩ := q'; exact .list_int _ _ l1 hu0
    · cases e; obtain ⟨p, vs, rfl, a1, _⟩ := r; obtain ⟨_, _, l1⟩ := isL_of I (sm _ _ a1); cases q; cases r'; obtain ⟨t', rfl⟩ := q'; exact .list_str _ _ l1 hu0
    · cases e; obtain ⟨p', vs', rfl, a2, _⟩ := r'; obtain ⟨_, _, l2⟩ := isL_of I (sm _ _ a2); cases q'; cases r; cases q; exact .none_list  l2 hu0
    · cases e; obtain ⟨p', vs', rfl, a2, _⟩ := r'; obtain ⟨_, _, l2⟩ := isL_of I (sm _ _ a2); cases q'; cases r; cases q; exact .bool_list _ l2 hu0
    · cases e; obtain ⟨p', vs', rfl, a2, _⟩ := r'; obtain ⟨_, _, l2⟩ := isL_of I (sm _ _ a2); cases q'; cases r; obtain ⟨t, rfl⟩ := q; exact .int_list _ _ l2 hu0
    · cases e; obtain ⟨p', vs', rfl, a2, _⟩ := r'; obtain ⟨_, _, l2⟩ := isL_of I (sm _ _ a2); cases q'; cases r; obtain ⟨t, rfl⟩ := q; exact .str_list _ _ l2 hu0
    · cases e; obtain ⟨p, vs, rfl, a1, _⟩ := r; obtain ⟨_, _, l1⟩ := isT_of I (sm _ _ a1); cases q; cases r'; cases q'; exact .tuple_none  l1 hu0
    · cases e; obtain ⟨p, vs, rfl, a1, _⟩ := r; obtain ⟨_, _, l1⟩ := isT_of I (sm _ _ a1); cases q; cases r'; cases q'; exact .tuple_bool _ l1 hu0
    · cases e; obtain ⟨p, vs, rfl, a1, _⟩ := r; obtain ⟨_, _, l1⟩ := isT_of I (sm _ _ a1); cases q; cases r'; obtain ⟨t', rfl⟩ := q'; exact .tuple_int _ _ l1 hu0
    · cases e; obtain ⟨p, vs, rfl, a1, _⟩ := r; obtain ⟨_, _, l1⟩ := isT_of I (sm _ _ a1); cases q; cases r'; obtain ⟨t', rfl⟩ := q'; exact .tuple_str _ _ l1 hu0
    · cases e; obtain ⟨p', vs', rfl, a2, _⟩ := r'; obtain ⟨_, _, l2⟩ := isT_of I (sm _ _ a2); cases q'; cases r; cases q; exact .none_tuple  l2 hu0
    · cases e; obtain ⟨p', vs', rfl, a2, _⟩ := r'; obtain ⟨_, _, l2⟩ := isT_of I (sm _ _ a2); cases q'; cases r; cases q; exact .bool_tuple _ l2 hu0
    · cases e; obtain ⟨p', vs', rfl, a2, _⟩ := r'; obtain ⟨_, _, l2⟩ := isT_of I (sm _ _ a2); cases q'; cases r; obtain ⟨t, rfl⟩ := q; exact .int_tuple _ _ l2 hu0
    · cases e; obtain ⟨p', vs', rfl, a2, _⟩ := r'; obtain ⟨_, _, l2⟩ := isT_of I (sm _ _ a2); cases q'; cases r; obtain ⟨t, rfl⟩ := q; exact .str_tuple _ _ l2 hu0
    · cases e
/-- what == is on two things -/
def rEqD (K : PySem.W.Frag) (n : Nat) (neg : Bool) : R2 := fun x y H Q => ∃ F d d' k, Same F H ∧ RepB K F H d x ∧ RepB K F H d' y ∧ eqN (n + 1) d d' = some k ∧ Q (.bl (neg ^^ k)) H
theorem rc_at (I : Inv X pins σ H s) (sm : Same F H) (n : Nat) {A : Around} {d d' : D} {v v' : V} {u u' : Value} {k : Bool} (hu : A.units + n + 1 < cLine) (r : RepB K F H d v) (r' : RepB K F H d' v') (q : RelV v u) (q' : RelV v' u') (e : eqN (n + 1) d d' = some k) : RcAt A s u u' k := by
  have hu0 : A.units < cLine := by omega
  have hu1 : A.in1.units + n < cLine := by show A.units + 1 + n < cLine; omega
  unfold eqN at e
  split at e
  · cases r; cases r'; cases e; cases q; cases q'; exact .none_none
  · cases r; cases r'; cases e; cases q; cases q'; exact .bool_bool _ _
  · cases r; cases r'; cases e; obtain ⟨t, rfl⟩ := q; obtain ⟨t', rfl⟩ := q'; exact .int_int _ _ _ _
  · cases r; cases r'; cases e; obtain ⟨t, rfl⟩ := q; obtain ⟨t', rfl⟩ := q'; exact .str_str _ _ _ _
  · cases r; cases r'; cases e; cases q; obtain ⟨t', rfl⟩ := q'; exact .bool_int _ _ _
  · cases r; cases r'; cases e; obtain ⟨t, rfl⟩ := q; cases q'; exact .int_bool _ _ _
  · cases r; cases r'; cases e; cases q; cases q'; exact .none_bool _
  · cases r; cases r'; cases e; cases q; obtain ⟨t', rfl⟩ := q'; exact .none_int _ _
  · cases r; cases r'; cases e; cases q; obtain ⟨t', rfl⟩ := q'; exact .none_str _ _
  · cases r; cases r'; cases e; cases q; cases q'; exact .bool_none _
  · cases r; cases r'; cases e; cases q; obtain ⟨t', rfl⟩ := q'; exact .bool_str _ _ _
  · cases r; cases r'; cases e; obtain ⟨t, rfl⟩ := q; cases q'; exact .int_none _ _
  · cases r; cases r'; cases e; obtain ⟨t, rfl⟩ := q; obtain ⟨t', rfl⟩ := q'; exact .int_str _ _ _ _
  · cases r; cases r'; cases e; obtain ⟨t, rfl⟩ := q; cases q'; exact .str_none _ _
  · cases r; cases r'; cases e; obtain ⟨t, rfl⟩ := q; cases q'; exact .str_bool _ _ _
  · cases r; cases r'; cases e; obtain ⟨t, rfl⟩ := q; obtain ⟨t', rfl⟩ := q'; exact .str_int _ _ _ _
  · rename_i n' xs ys hn; cases hn
    obtain ⟨p, vs, rfl, a1, b1⟩ := r
    obtain ⟨p', vs', rfl, a2, b2⟩ := r'
    cases q; cases q'
    exact rc_lists I (fun r r' q q' e => eqN_at I sm _ hu1 r r' q q' e) a1 a2 b1 b2 e hu0
  · rename_i n' xs ys hn; cases hn
    obtain ⟨p, vs, rfl, a1, b1⟩ := r
    obtain ⟨p', vs', rfl, a2, b2⟩ := r'
    cases q; cases q'
    exact rc_tuples I (fun r r' q q' e => eqN_at I sm _ hu1 r r' q q' e) (sm _ _ a1) (sm _ _ a2) b1 b2 e hu0
  · cases e; obtain ⟨p, vs, rfl, a1, _⟩ := r; obtain ⟨_, _, l1⟩ := isL_of I a1; obtain ⟨p', vs', rfl, a2, _⟩ := r'; obtain ⟨_, _, l2⟩ := isT_of I (sm _ _ a2); cases q; cases q'; exact .list_tuple l1 l2 hu0
  · cases e; obtain ⟨p, vs, rfl, a1, _⟩ := r; obtain ⟨_, _, l1⟩ := isT_of I (sm _ _ a1); obtain ⟨p', vs', rfl, a2, _⟩ := r'; obtain ⟨_, _, l2⟩ := isL_of I a2; cases q; cases q'; exact .tuple_list l1 l2 hu0
  · cases e; obtain ⟨p, vs, rfl, a1, _⟩ := r; obtain ⟨_, _, l1⟩ := isL_of I a1; cases q; cases r'; cases q'; exact .list_none  l1 hu0
  · cases e; obtain ⟨p, vs, rfl, a1, _⟩ := r; obtain ⟨_, _, l1⟩ := isL_of I a1; cases q; cases r'; cases q'; exact .list_bool _ l1 hu0
  · cases e; obtain ⟨p, vs, rfl, a1, _⟩ := r; obtain ⟨_, _, l1⟩ := isL_of I a1; cases q; cases r'; obtain ⟨t', rfl⟩ := q'; exact .list_int _ _ l1 hu0
  · cases e; obtain ⟨p, vs, rfl, a1, _⟩ := r; obtain ⟨_, _, l1⟩ := isL_of I a1; cases q; cases r'; obtain ⟨t', rfl⟩ := q'; exact .list_str _ _ l1 hu0
  · cases e; obtain ⟨p', vs', rfl, a2, _⟩ := r'; obtain ⟨_, _, l2⟩ := isL_of I a2; cases q'; cases r; cases q; exact .none_list  l2 hu0
  · cases e; obtain ⟨p', vs', rfl, a2, _⟩ := r'; obtain ⟨_, _, l2⟩ := isL_of I a2; cases q'; cases r; cases q; exact .bool_list _ l2 hu0
  · cases e; obtain ⟨p', vs', rfl, a2, _⟩ := r'; obtain ⟨_, _, l2⟩ := isL_of I a2; cases q'; cases r; obtain ⟨t, rfl⟩ := q; exact .int_list _ _ l2 hu0
  · cases e; obtain ⟨p', vs', rfl, a2, _⟩ := r'; obtain ⟨_, _, l2⟩ := isL_of I a2; cases q'; cases r; obtain ⟨t, rfl⟩ := q; exact .str_list _ _ l2 hu0
  · cases e; obtain ⟨p, vs, rfl, a1, _⟩ := r; obtain ⟨_, _, l1⟩ := isT_of I (sm _ _ a1); cases q; cases r'; cases q'; exact .tuple_none  l1 hu0
  · cases e; obtain ⟨p, vs, rfl, a1, _⟩ := r; obtain ⟨_, _, l1⟩ := isT_of I (sm _ _ a1); cases q; cases r'; cases q'; exact .tuple_bool _ l1 hu0
  · cases e; obtain ⟨p, vs, rfl, a1, _⟩ := r; obtain ⟨_, _, l1⟩ := isT_of I (sm _ _ a1); cases q; cases r'; obtain ⟨t', rfl⟩ := q'; exact .tuple_int _ _ l1 hu0
  · cases e; obtain ⟨p, vs, rfl, a1, _⟩ := r; obtain ⟨_, _, l1⟩ := isT_of I (sm _ _ a1); cases q; cases r'; obtain ⟨t', rfl⟩ := q'; exact .tuple_str _ _ l1 hu0
  · cases e; obtain ⟨p', vs', rfl, a2, _⟩ := r'; obtain ⟨_, _, l2⟩ := isT_of I (sm _ _ a2); cases q'; cases r; cases q; exact .none_tuple  l2 hu0
  · cases e; obtain ⟨p', vs', rfl, a2, _⟩ := r'; obtain ⟨_, _, l2⟩ := isT_of I (sm _ _ a2); cases q'; cases r; cases q; exact .bool_tuple _ l2 hu0
  · cases e; obtain ⟨p', vs', rfl, a2, _⟩ := r'; obtain ⟨_, _, l2⟩ := isT_of I (sm _ _ a2); cases q'; cases r; obtain ⟨t, rfl⟩ := q; exact .int_tuple _ _ l2 hu0
  · cases e; obtain ⟨p', vs', rfl, a2, _⟩ := r'; obtain ⟨_, _, l2⟩ := isT_of I (sm _ _ a2); cases q'; cases r; obtain ⟨t, rfl⟩ := q; exact .str_tuple _ _ l2 hu0
  · cases e
theorem op_eqD (hK : X.K = K) {n : Nat} (hu : X.A.units + n + 1 < cLine) : OpR X (compareOp .Eq) (rEqD K n false) := by
  intro pins s σ H x y v u Q I rx ry h
  obtain ⟨F, d, d', k, sm, r, r', e, q⟩ := h
  refine rc_at I sm n hu r r' rx ry e _ _ _ _ (fin_bl I q (by simp))
def eqD3 (n : Nat) (neg : Bool) (x y : D) (Γ : G) (Q : RV → G → Prop) : Prop := ∃ k, eqN (n + 1) x y = some k ∧ Q (.fz (.bl (neg ^^ k))) Γ
theorem eqDRef {n : Nat} {neg : Bool} : OpRef K (rEqD K n neg) (eqD3 n neg) := by
  intro B F σ H Γ x y dx dy Q QQ e rx ry q k
  obtain ⟨b, hb, q⟩ := q
  exact ⟨F, dx, dy, b, e.sub, rx, ry, hb, k _ _ (po_bl e q)⟩
theorem c3_eqD (hK : X.K = K) {k : Nat} (hr : Room k X.A) : C3 K X .Eq (rEqD K 20 false) (eqD3 20 false) := ⟨op_eqD hK (by have := hr.un; omega), eqDRef⟩
end
end L3

namespace L3
open PySem L2 PySem.Spec PySem.SeqAt
section
variable {K : PySem.W.Frag} {X : Cx} {F H : Hp} {pins : List (Addr × Obj)} {σ : L2.St} {s : Shared}
theorem rn_lists {n : Nat} {A : Around} {p q : Addr} {xs ys : List D} {vs ws : List V} {k : Bool} (I : Inv X pins σ H s) (ih : ∀ {d d' : D} {v v' : V} {u u' : Value} {k : Bool}, Rep K F d v → Rep K F d' v' → RelV v u → RelV v' u' → eqN n d d' = some k → EqAt A.in1 s u u' k)
    (h1 : H p = some (.lst vs)) (h2 : H q = some (.lst ws)) (r1 : RepL K F xs vs) (r2 : RepL K F ys ws) (he : eqLs n xs ys = some k) (hu : A.units < cLine) : RcNeAt A s (.ref p) (.ref q) (!k) := by
  obtain ⟨us, q1, l1⟩ := isL_of I h1
  obtain ⟨zs, q2, l2⟩ := isL_of I h2
  have n1 : us.toArray.size = xs.length := by rw [← r1.length, q1.length]; simp
  have n2 : zs.toArray.size = ys.length := by rw [← r2.length, q2.length]; simp
  by_cases hl : xs.length = ys.length
  · obtain ⟨e, g, rfl⟩ := eqLs_get he
    have := RcNeAt.lists l1 l2 (by rw [n1, n2, hl]) hu (els_at ih r1 r2 q1 q2 g)
    rw [n1] at this
    rw [hl, Nat.min_self, beq_self_eq_true, Bool.and_true]
    rw [hl] at this
    exact this
  · rw [eqLs_len he hl]
    refine RcNeAt.lists_lengths l1 l2 ?_ hu
    rw [n1, n2, bne_iff_ne]; exact hl
theorem rn_tuples {n : Nat} {A : Around} {p q : Addr} {xs ys : List D} {vs ws : List V} {k : Bool} (I : Inv X pins σ H s) (ih : ∀ {d d' : D} {v v' : V} {u u' : Value} {k : Bool}, Rep K F d v → Rep K F d' v' → RelV v u → RelV v' u' → eqN n d d' = some k → EqAt A.in1 s u u' k)
    (h1 : H p = some (.tup vs)) (h2 : H q = some (.tup ws)) (r1 : RepL K F xs vs) (r2 : RepL K F ys ws) (he : eqLs n xs ys = some k) (hu : A.units < cLine) : RcNeAt A s (.ref p) (.ref q) (!k) := by
  obtain ⟨us, q1, l1⟩ := isT_of I h1
  obtain ⟨zs, q2, l2⟩ := isT_of I h2
  have n1 : us.toArray.size = xs.length := by rw [← r1.length, q1.length]; simp
  have n2 : zs.toArray.size = ys.length := by rw [← r2.length, q2.length]; simp
  obtain ⟨e, g, rfl⟩ := eqLs_get he
  have := RcNeAt.tuples l1 l2 hu (els_at ih r1 r2 q1 q2 g)
  rw [n1, n2] at this
  exact this
theorem rn_at (I : Inv X pins σ H s) (sm : Same F H) (n : Nat) {A : Around} {d d' : D} {v v' : V} {u u' : Value} {k : Bool} (hu : A.units + n + 1 < cLine) (r : RepB K F H d v) (r' : RepB K F H d' v') (q : RelV v u) (q' : RelV v' u') (e : eqN (n + 1) d d' = some k) : RcNeAt A s u u' (!k) := by
  have hu0 : A.units < cLine := by omega
  have hu1 : A.in1.units + n < cLine := by show A.units + 1 + n < cLine; omega
  unfold eqN at e
  split at e
  · cases r; cases r'; cases e; cases q; cases q'; exact .none_none
  · cases r; cases r'; cases e; cases q; cases q'; exact .bool_bool _ _
  · cases r; cases r'; cases e; obtain ⟨t, rfl⟩ := q; obtain ⟨t', rfl⟩ := q'; exact .int_int _ _ _ _
  · cases r; cases r'; cases e; obtain ⟨t, rfl⟩ := q; obtain ⟨t', rfl⟩ := q'; exact .str_str _ _ _ _
  · cases r; cases r'; cases e; cases q; obtain ⟨t', rfl⟩ := q'; exact .bool_int _ _ _
  · cases r; cases r'; cases e; obtain ⟨t, rfl⟩ := q; cases q'; exact .int_bool _ _ _
  · cases r; cases r'; cases e; cases q; cases q'; exact .none_bool _
  · cases r; cases r'; cases e; cases q; obtain ⟨t', rfl⟩ := q'; exact .none_int _ _
  · cases r; cases r'; cases e; cases q; obtain ⟨t', rfl⟩ := q'; exact .none_str _ _
  · cases r; cases r'; cases e; cases q; cases q'; exact .bool_none _
  · cases r; cases r'; cases e; cases q; obtain ⟨t', rfl⟩ := q'; exact .bool_str _ _ _
  · cases r; cases r'; cases e; obtain ⟨t, rfl⟩ := q; cases q'; exact .int_none _ _
  · cases r; cases r'; cases e; obtain ⟨t, rfl⟩ := q; obtain ⟨t', rfl⟩ := q'; exact .int_str _ _ _ _
  · cases r; cases r'; cases e; obtain ⟨t, rfl⟩ := q; cases q'; exact .str_none _ _
  · cases r; cases r'; cases e; obtain ⟨t, rfl⟩ := q; cases q'; exact .str_bool _ _ _
  · cases r; cases r'; cases e; obtain ⟨t, rfl⟩ := q; obtain ⟨t', rfl⟩ := q'; exact .str_int _ _ _ _
  · rename_i n' xs ys hn; cases hn
    obtain ⟨p, vs, rfl, a1, b1⟩ := r
    obtain ⟨p', vs', rfl, a2, b2⟩ := r'
    cases q; cases q'
    exact rn_lists I (fun r r' q q' e => eqN_at I sm _ hu1 r r' q q' e) a1 a2 b1 b2 e hu0
  · rename_i n' xs ys hn; cases hn
    obtain ⟨p, vs, rfl, a1, b1⟩ := r
    obtain ⟨p', vs', rfl, a2, b2⟩ := r'
    cases q; cases q'
    exact rn_tuples I (fun r r' q q' e => eqN_at I sm _ hu1 r r' q q' e) (sm _ _ a1) (sm _ _ a2) b1 b2 e hu0
  · cases e; obtain ⟨p, vs, rfl, a1, _⟩ := r; obtain ⟨_, _, l1⟩ := isL_of I a1; obtain ⟨p', vs', rfl, a2, _⟩ := r'; obtain ⟨_, _, l2⟩ := isT_of I (sm _ _ a2); cases q; cases q'; exact .list_tuple l1 l2 hu0
  · cases e; obtain ⟨p, vs, rfl, a1, _⟩ := r; obtain ⟨_, _, l1⟩ := isT_of I (sm _ _ a1); obtain ⟨p', vs', rfl, a2, _⟩ := r'; obtain ⟨_, _, l2⟩ := isL_of I a2; cases q; cases q'; exact .tuple_list l1 l2 hu0
  · cases e; obtain ⟨p, vs, rfl, a1, _⟩ := r; obtain ⟨_, _, l1⟩ := isL_of I a1; cases q; cases r'; cases q'; exact .list_none  l1 hu0
  · cases e; obtain ⟨p, vs, rfl, a1, _⟩ := r; obtain ⟨_, _, l1⟩ := isL_of I a1; cases q; cases r'; cases q'; exact .list_bool _ l1 hu0
  · cases e; obtain ⟨p, vs, rfl, a1, _⟩ := r; obtain ⟨_, _, l1⟩ := isL_of I a1; cases q; cases r'; obtain ⟨t', rfl⟩ := q'; exact .list_int _ _ l1 hu0
  · cases e; obtain ⟨p, vs, rfl, a1, _⟩ := r; obtain ⟨_, _, l1⟩ := isL_of I a1; cases q; cases r'; obtain ⟨t', rfl⟩ := q'; exact .list_str _ _ l1 hu0
  · cases e; obtain ⟨p', vs', rfl, a2, _⟩ := r'; obtain ⟨_, _, l2⟩ := isL_of I a2; cases q'; cases r; cases q; exact .none_list  l2 hu0
  · cases e; obtain ⟨p', vs', rfl, a2, _⟩ := r'; obtain ⟨_, _, l2⟩ := isL_of I a2; cases q'; cases r; cases q; exact .bool_list _ l2 hu0
  · cases e; obtain ⟨p', vs', rfl, a2, _⟩ := r'; obtain ⟨_, _, l2⟩ := isL_of I a2; cases q'; cases r; obtain ⟨t, rfl⟩ := q; exact .int_list _ _ l2 hu0
  · cases e; obtain ⟨p', vs', rfl, a2, _⟩ := r'; obtain ⟨_, _, l2⟩ := isL_of I a2; cases q'; cases r; obtain ⟨t, rfl⟩ := q; exact .str_list _ _ l2 hu0
  · cases e; obtain ⟨p, vs, rfl, a1, _⟩ := r; obtain ⟨_, _, l1⟩ := isT_of I (sm _ _ a1); cases q; cases r'; cases q'; exact .tuple_none  l1 hu0
  · cases e; obtain ⟨p, vs, rfl, a1, _⟩ := r; obtain ⟨_, _, l1⟩ := isT_of I (sm _ _ a1); cases q; cases r'; cases q'; exact .tuple_bool _ l1 hu0
  · cases e; obtain ⟨p, vs, rfl, a1, _⟩ := r; obtain ⟨_, _, l1⟩ := isT_of I (sm _ _ a1); cases q; cases r'; obtain ⟨t', rfl⟩ := q'; exact .tuple_int _ _ l1 hu0
  · cases e; obtain ⟨p, vs, rfl, a1, _⟩ := r; obtain ⟨_, _, l1⟩ := isT_of I (sm _ _ a1); cases q; cases r'; obtain ⟨t', rfl⟩ := q'; exact .tuple_str _ _ l1 hu0
  · cases e; obtain ⟨p', vs', rfl, a2, _⟩ := r'; obtain ⟨_, _, l2⟩ := isT_of I (sm _ _ a2); cases q'; cases r; cases q; exact .none_tuple  l2 hu0
  · cases e; obtain ⟨p', vs', rfl, a2, _⟩ := r'; obtain ⟨_, _, l2⟩ := isT_of I (sm _ _ a2); cases q'; cases r; cases q; exact .bool_tuple _ l2 hu0
  · cases e; obtain ⟨p', vs', rfl, a2, _⟩ := r'; obtain ⟨_, _, l2⟩ := isT_of I (sm _ _ a2); cases q'; cases r; obtain ⟨t, rfl⟩ := q; exact .int_tuple _ _ l2 hu0
  · cases e; obtain ⟨p', vs', rfl, a2, _⟩ := r'; obtain ⟨_, _, l2⟩ := isT_of I (sm _ _ a2); cases q'; cases r; obtain ⟨t, rfl⟩ := q; exact .str_tuple _ _ l2 hu0
  · cases e
theorem op_neD (hK : X.K = K) {n : Nat} (hu : X.A.units + n + 1 < cLine) : OpR X (compareOp .NotEq) (rEqD K n true) := by
  intro pins s σ H x y v u Q I rx ry h
  obtain ⟨F, d, d', k, sm, r, r', e, q⟩ := h
  refine rn_at I sm n hu r r' rx ry e _ _ _ _ (fin_bl I q (by simp))
theorem c3_neD (hK : X.K = K) {k : Nat} (hr : Room k X.A) : C3 K X .NotEq (rEqD K 20 true) (eqD3 20 true) := ⟨op_neD hK (by have := hr.un; omega), eqDRef⟩
/-! ### readings of == -/
theorem eqLs_ints {n : Nat} : ∀ (xs ys : List Int), eqLs n (xs.map .int) (ys.map .int) = some (decide (xs = ys))
  | [], [] => by simp [eqLs]
  | x :: xs, [] => by simp [eqLs]
  | [], y :: ys => by simp [eqLs]
  | x :: xs, y :: ys => by
    simp only [List.map_cons, eqLs, eqLs_ints xs ys, eqN]
    congr 1
    rw [Bool.eq_iff_iff]
    simp
theorem eqN_ints {n : Nat} (xs ys : List Int) : eqN (n + 1) (.lst (xs.map .int)) (.lst (ys.map .int)) = some (decide (xs = ys)) := by
  unfold eqN; exact eqLs_ints xs ys
end
end L3

namespace L2
open PySem PySem.Spec PyProof.Rows
/-! ### comprehensions with a test, or two fors: the block's rows one by one -/
/-- the list that grows stands at D -/
structure Acc (Y : Cx) (D : Addr) (pl : List (Addr × Obj)) (ys : List V) (σ : St) (H : Hp) (s : Shared) : Prop where
  us : ∃ us, Inv Y ((D, lstObj us us.length) :: pl) σ H s ∧ Vals ys us
  exD : D ∈ Y.ex
  nd : ∀ p ∈ Y.pn ++ pl, p.1 ≠ D
abbrev TB := List V → St → Hp → (List V → St → Hp → Prop) → Prop
def PB (Y : Cx) (D : Addr) (m : Sem Fin → Sem Fin) (t : TB) : Prop :=
  ∀ (k : Sem Fin) (pl : List (Addr × Obj)) (s : Shared) (ys : List V) (σ : St) (H : Hp) (Q : List V → St → Hp → Prop) (R : Fin → Shared → Prop), Acc Y D pl ys σ H s → t ys σ H Q →
    (∀ ys' σ' H' s', Acc Y D pl ys' σ' H' s' → Q ys' σ' H' → wpAny (model Y.prog Y.w) Y.A k R (fun _ _ => False) s') → wpAny (model Y.prog Y.w) Y.A (m k) R (fun _ _ => False) s
section
variable {Y : Cx} {D : Addr}
def bEmit (te : TE) : TB := fun ys σ H Q => ys.length < sizeLine ∧ te σ H fun y H' => Q (ys ++ [y]) σ H'
abbrev emitK (elt : Expr) (D : Addr) (env : Env) (k : Sem Fin) : Sem Fin := (eval elt env >>= fun x => call (.builtin "list.append") [.ref D, x] >>= fun _ => pure ()) >>= fun _ => k
theorem Acc.pins {pl : List (Addr × Obj)} {ys : List V} {σ σ' : St} {H H' : Hp} {s s' : Shared} {us : List Value} (a : Acc Y D pl ys σ H s) (I : Inv Y ((D, lstObj us us.length) :: pl) σ' H' s') (r : Vals ys us) : Acc Y D pl ys σ' H' s' := ⟨⟨us, I, r⟩, a.exD, a.nd⟩
theorem pb_emit {elt : Expr} {te : TE} (hx : Y.xe = fun _ _ => False) (he : PE Y elt te) : PB Y D (emitK elt D Y.env) (bEmit te) := by
  intro k pl s ys σ H Q R a ⟨hz, q⟩ hk
  obtain ⟨us, I, rv⟩ := a.us
  have he' := he _ s σ H _ I q
  rw [hx] at he'
  refine wpAny_bind (wpAny_bind (thn he' fun y s7 ⟨yv, H7, I7, r7, q7⟩ => wpAny_bind ?_))
  obtain ⟨pD, pH, pL, pF, pc⟩ := I7.pin (D, lstObj us us.length) (List.mem_append_right _ List.mem_cons_self)
  have hlen : us.length = ys.length := rv.length.symm
  refine append_at (hsz := by rw [List.size_toArray, hlen]; exact Nat.le_of_lt hz) pD fun h8 sb8 hD8 => wpAny_pure ?_
  have I7n : Inv Y pl σ H7 s7 := I7.pins_of fun p z => I7.pin p (List.mem_append_right _ (List.mem_cons_of_mem _ z))
  have I8 : Inv Y pl σ H7 { s7 with heap := h8 } := I7n.turned (t' := s7.toks) (it := D) (fun b o hb e => (sb8.2 b hb).trans e) pH pL (.inl a.exD) (fun x c e => (I7.ok.exf D a.exD).2 x c e) a.nd
  have e8 : h8.get? D = some (lstObj (us ++ [y]) (us ++ [y]).length) := by
    rw [hD8]
    simp
  refine hk (ys ++ [yv]) σ H7 _ ⟨⟨us ++ [y], I8.pins_of fun p z => ?_, rv.append (.cons r7 .nil)⟩, a.exD, a.nd⟩ q7
  rcases List.mem_cons.mp z with e | z
  · subst e; exact ⟨e8, pH, pL, pF, fun v z => by cases z⟩
  · exact I8.pin p (List.mem_append_right _ z)
def bIf (tc : TT) (t : TB) : TB := fun ys σ H Q => tc σ H fun b H' => if b = true then t ys σ H' Q else Q ys σ H'
abbrev ifK (c : Expr) (env : Env) (m : Sem Fin → Sem Fin) (k : Sem Fin) : Sem Fin := (forIn [c] true fun c r => if r = true then do let ok ← isTrue c env (eval c env); pure (ForInStep.yield ok) else pure (ForInStep.yield r)) >>= fun ok => if ok = true then m k else k
theorem pb_if {c : Expr} {tc : TT} {m : Sem Fin → Sem Fin} {t : TB} (hx : Y.xe = fun _ _ => False) (hc : PT Y c tc) (hm : PB Y D m t) : PB Y D (ifK c Y.env m) (bIf tc t) := by
  intro k pl s ys σ H Q R a q hk
  obtain ⟨us, I, rv⟩ := a.us
  have hc' := hc _ s σ H _ I q
  rw [hx] at hc'
  refine wpAny_bind (wpAny_tests_one (thn hc' fun b s1 ⟨H1, I1, q1⟩ => ?_))
  cases b with
  | true => exact hm k pl s1 ys σ H1 Q R (a.pins I1 rv) (by simpa using q1) hk
  | false => exact hk ys σ H1 s1 (a.pins I1 rv) (by simpa using q1)
/-- a walk: its turns -/
def bLoop (J : It) (g : TG) (t : TB) : TB := fun ys σ H Q => ∃ W : Nat → Nat → List V → St → Hp → Prop, (∃ m, W 0 m ys σ H) ∧ ∀ i m ys σ H, W i m ys σ H →
  (J.stop i H ∧ Q ys σ H) ∨ (J.go i H ∧ ∀ x H', J.yld i H x H' → g x σ H' fun σ2 H2 => t ys σ2 H2 fun ys' σ' H'' => ∃ m', m' < m ∧ W (i + 1) m' ys' σ' H'')
theorem loopB {elt : Expr} {gens : List Comprehension} {sc : Scope} {pos p0 : Pos} {d : Nat} {tg : Expr} {it : Addr} {fp : List Addr} {tn : Nat → Heap → Prop} {J : It} {g : TG} {m : Sem Fin → Sem Fin} {t : TB}
    (hx : Y.xe = fun _ _ => False) (hc : Y.calm = true) (T : Turn Y.prog Y.w Y.K tg J fp it tn) (hg : PG Y tg g) (hm : PB Y D m t)
    (hturn : compTurn (.ListComp elt gens sc pos) d (.ref it) (.ref D) Y.env = (standAt p0 >>= fun _ => pyNext (.ref it) >>= fun r => match r with
      | none => pure (.done .next)
      | some v => letOwnedTupleGo tg (.ref it) v >>= fun _ => assign tg Y.env v >>= fun _ => m (again (.compLoop (.ListComp elt gens sc pos) d (.ref it) (.ref D) Y.env))))
    {pl : List (Addr × Obj)} {ys : List V} {σ : St} {H : Hp} {s : Shared} {Q : List V → St → Hp → Prop} {R : Result → Shared → Prop} (a : Acc Y D pl ys σ H s) (st : tn 0 s.heap) (f : ∀ b ∈ fp, FpOk Y pl H b ∧ D ≠ b) (q : bLoop J g t ys σ H Q)
    (hR : ∀ ys' σ' H' s', Acc Y D pl ys' σ' H' s' → Q ys' σ' H' → R (.ok .next) s') : codeAny (model Y.prog Y.w) Y.A (.compLoop (.ListComp elt gens sc pos) d (.ref it) (.ref D) Y.env) R s := by
  obtain ⟨W, ⟨m0, w0⟩, turn⟩ := q
  have stat : ∀ {H' : Hp} {o : Obj}, (∀ b ∈ fp, H' b = none) → ∀ b ∈ fp, FpOk Y ((D, o) :: pl) H' b := fun hn b hb => by
    obtain ⟨⟨_, f1, f2, f3, f4, f5⟩, f6⟩ := f b hb
    refine ⟨hn b hb, f1, f2, f3, f4, fun p hp => ?_⟩
    rcases List.mem_append.mp hp with hp | hp
    · exact f5 p (List.mem_append_left _ hp)
    · rcases List.mem_cons.mp hp with e | hp
      · subst e; exact f6
      · exact f5 p (List.mem_append_right _ hp)
  refine codeAny_loop rfl (fun n s' => ∃ i ys' σ' H', Acc Y D pl ys' σ' H' s' ∧ tn i s'.heap ∧ (∀ b ∈ fp, H' b = none) ∧ W i n ys' σ' H') (fun n s3 hI => ?_) m0 ⟨0, ys, σ, H, a, st, fun b hb => (f b hb).1.1, w0⟩
  show wpAny _ _ ((compTurn (.ListComp elt gens sc pos) d (.ref it) (.ref D) Y.env).onRaise (fun x => do noteFrame x Y.env; theTreesLotGoes x)) _ _ s3
  refine wpAny_noted ?_
  rw [hturn]
  obtain ⟨i, ys3, σ3, H3, a3, st3, fr3, w3⟩ := hI
  obtain ⟨us3, I3, rv3⟩ := a3.us
  have noE : ∀ {M : Model} {A : Around} {α : Type} {t : Sem α} {Q : α → Shared → Prop} {E : Value → Shared → Prop} {s : Shared}, wpAny M A t Q (fun _ _ => False) s → wpAny M A t Q E s := fun h => wpAny_mono h (fun _ _ x => x) fun _ _ x => x.elim
  refine wpAny_bind (wpAny_standAt (wpAny_bind ?_))
  rcases turn i n ys3 σ3 H3 w3 with ⟨stop, qn⟩ | ⟨go, step⟩
  · refine noE (thn (T.done Y rfl rfl rfl hc i _ s3 σ3 H3 _ I3 (stat fr3) st3 stop) fun r s4 ⟨hr, I4⟩ => ?_)
    subst hr
    exact wpAny_pure (hR ys3 σ3 H3 s4 (a3.pins I4 rv3) qn)
  · refine noE (thn (T.item Y rfl rfl rfl hc i _ s3 σ3 H3 _ I3 (stat fr3) st3 go) fun r s4 ⟨u, hr, h4⟩ => ?_)
    subst hr
    refine wpAny_bind (noE (thn h4 fun _ s5 ⟨x, H5, I5, r5, y5, st5, fr5⟩ => ?_))
    have I5' := I5.pinned (stat fr5) (T.obj _ _ st5)
    have hg' := hg _ s5 σ3 H5 x u _ I5' r5 (step x H5 y5)
    rw [hx] at hg'
    refine wpAny_bind (noE (thn hg' fun _ s6 ⟨σ6, H6, I6, q6⟩ => ?_))
    have a6 : Acc Y D (pl ++ pinsAt fp s5.heap) ys3 σ6 H6 s6 := ⟨⟨us3, I6, rv3⟩, a.exD, fun p hp => by
      rcases List.mem_append.mp hp with hp | hp
      · exact a.nd p (List.mem_append_left _ hp)
      · rcases List.mem_append.mp hp with hp | hp
        · exact a.nd p (List.mem_append_right _ hp)
        · exact fun z => (f p.1 (of_pinsAt hp).1).2 z.symm⟩
    refine noE (hm _ _ s6 ys3 σ6 H6 _ _ a6 q6 fun ys7 σ7 H7 s7 a7 ⟨m', hlt, w7⟩ => wpAny_pure ⟨rfl, m', hlt, i + 1, ys7, σ7, H7, ?_, ?_, ?_, w7⟩)
    · obtain ⟨us7, I7, rv7⟩ := a7.us
      exact ⟨⟨us7, I7.pins_of fun p hp => I7.pin p (List.mem_append_right _ (by
        rcases List.mem_cons.mp hp with e | hp
        · subst e; exact List.mem_cons_self
        · exact List.mem_cons_of_mem _ (List.mem_append_left _ hp))), rv7⟩, a.exD, a.nd⟩
    · obtain ⟨us7, I7, rv7⟩ := a7.us
      exact T.keep _ _ _ st5 fun b hb o e => (I7.pin (b, o) (List.mem_append_right _ (List.mem_cons_of_mem _ (List.mem_append_right _ (mem_pinsAt hb e))))).1
    · intro b hb
      obtain ⟨us7, I7, rv7⟩ := a7.us
      obtain ⟨o, e, d⟩ := T.obj _ _ st5 b hb
      exact (I7.pin (b, o) (List.mem_append_right _ (List.mem_cons_of_mem _ (List.mem_append_right _ (mem_pinsAt hb e))))).2.1
end
end L2


namespace L2
open PySem PySem.Spec PyProof.Rows
section
variable {prog : Program} {w : World} {A : Around} {R : Result → Shared → Prop} {s : Shared}
theorem compStart_at {prog : Program} {w : World} {A : Around} {R : Result → Shared → Prop} {s : Shared} {elt : Expr} {gens : List Comprehension} {sc : Scope} {pos : Pos} {d : Nat} {it acc : Value} {env : Env} {tg iter : Expr} {ifs : List Expr} (hcl : gens[d]? = some ⟨tg, iter, ifs, 0⟩)
    (same : codeAny (model prog w) A (.compLoop (.ListComp elt gens sc pos) d it acc env) R s)
    (anew : wpAny (model prog w) A (pyIter it) (fun it2 s2 => codeAny (model prog w) A (.compLoop (.ListComp elt gens sc pos) d it2 acc env) R s2) (notedBy (model prog w) A env fun x s2 => R (.error x) s2) s) :
    codeAny (model prog w) A (.compStart (.ListComp elt gens sc pos) d it acc env) R s := by
  have cl : (clausesOf (.ListComp elt gens sc pos))[d]? = some ⟨tg, iter, ifs, 0⟩ := hcl
  apply codeAny_of_tree
  apply wpAny_notedAt (pos := theWindowsPlace) (m := compStart (.ListComp elt gens sc pos) d it acc env)
  simp only [compStart, cl]
  apply wpAny_bind
  apply wpAny_askSetting
  apply wpAny_ite
  split
  · exact wpAny_pure ⟨rfl, same⟩
  · apply wpAny_bind
    apply wpAny_rule
    apply wpAny_bind
    apply wpAny_standAt
    exact wpAny_bind (wpAny_mono anew (fun _ _ q => wpAny_pure ⟨rfl, q⟩) fun _ _ q => q)
end
section
variable {Y : Cx} {D : Addr}
def bRest (wi : TI) (g : TG) (t : TB) : TB := fun ys σ H Q => wi σ H fun J H1 => bLoop J g t ys σ H1 Q
abbrev restK (elt : Expr) (gens : List Comprehension) (sc : Scope) (pos : Pos) (d : Nat) (iter : Expr) (D : Addr) (env : Env) (k : Sem Fin) : Sem Fin :=
  eval iter env >>= fun x => standAt iter.pos >>= fun _ => foldedSetIterable iter env x >>= fun x => holding [x] (pyIter x) >>= fun itv => runOwn (.compStart (.ListComp elt gens sc pos) d itv (.ref D) env) env >>= fun _ => k
end
end L2


namespace L2
open PySem PySem.Spec PyProof.Rows
section
variable {X : Cx}
theorem comp_blockG {elt iter tg : Expr} {gens : List Comprehension} {ifs : List Expr} {sc : Scope} {pos p0 : Pos} {Nc : List Str} {fr : List (Option Nat)} {g : TG} {m : Addr → Env → Sem Fin → Sem Fin} {t : TB} (hcl : gens[0]? = some ⟨tg, iter, ifs, 0⟩) (B : Blk X.N X.env.scope sc Nc fr) (hc : X.calm = true)
    (hg : ∀ s₀ H₀ C ex pn, PG (blkCx X sc Nc s₀ H₀ C ex pn) tg g) (hm : ∀ s₀ H₀ C ex pn D, PB (blkCx X sc Nc s₀ H₀ C ex pn) D (m D (blkCx X sc Nc s₀ H₀ C ex pn).env) t)
    (hturn : ∀ (it D : Addr) (env : Env), compTurn (.ListComp elt gens sc pos) 0 (.ref it) (.ref D) env = (standAt p0 >>= fun _ => pyNext (.ref it) >>= fun r => match r with
      | none => pure (.done .next)
      | some v => letOwnedTupleGo tg (.ref it) v >>= fun _ => assign tg env v >>= fun _ => m D env (again (.compLoop (.ListComp elt gens sc pos) 0 (.ref it) (.ref D) env))))
    {pins : List (Addr × Obj)} {σ : St} {s2 : Shared} {H2 : Hp} {it : Addr} {fp : List Addr} {tn : Nat → Heap → Prop} {J : It} (I2 : Inv X pins σ H2 s2) (T : Turn X.prog X.w X.K tg J fp it tn) (st2 : tn 0 s2.heap) (f2 : ∀ b ∈ fp, FpOk X pins H2 b)
    {Q : VK} (cw : bLoop J g t [] (blkSt fr σ) H2 fun ys _ H' => ys.length < sizeLine ∧ ∀ l, H' l = none → Q (.ref l) (upd H' l (.lst ys))) {RR : Value → Addr → Result → Shared → Prop} {E : Value → Shared → Prop}
    (hRR : ∀ D C s' H', Inv X pins σ H' s' → (∃ m, s'.heap.Ns C m) → FpOk X pins H' C → Q (.ref D) H' → RR (.ref D) C (.ok .next) s') :
    wpAny (model X.prog X.w) X.A (newList []) (fun acc s₃ => wpAny (model X.prog X.w) X.A (newFunctionEnv sc X.env.globals (takes X.env.cells sc.names []) [] X.env.qual none .none (some X.env)) (fun cenv s₄ =>
      codeAny (model X.prog X.w) X.A (.compStart (.ListComp elt gens sc pos) 0 (.ref it) acc { cenv with scope := relabel sc X.env }) (RR acc cenv.locals) s₄) E s₃) E s2 := by
  refine wpAny_newObj_type (wpAny_newFunctionEnv B.nocell (by intro y hy; simp at hy) (fun h₁ hns₁ hsb₁ => ?_) B.kind)
  dsimp only at hns₁ hsb₁ ⊢
  generalize hH2 : s2.heap.push { cls := .type "list", dict := none, data := .seq ([] : List Value).toArray } = hp at hns₁ hsb₁ ⊢
  have hCs : hp.objs.size = s2.heap.objs.size + 1 := by rw [← hH2, Heap.size_push]
  generalize hCe : hp.objs.size = C at hns₁ hsb₁ ⊢
  generalize hDe : s2.heap.objs.size = D at hCs ⊢
  have hDC : D ≠ C := by rw [← hCe, hCs]; exact Nat.ne_of_lt (Nat.lt_succ_self _)
  have up : ∀ b o, s2.heap.get? b = some o → hp.get? b = some o := fun b o e => by rw [← hH2]; exact Heap.get?_push_of_some _ e
  have hDp : hp.get? D = some (lstObj [] 0) := by rw [← hH2, ← hDe]; exact Heap.get?_push_size _ rfl
  -- the state ahead of the block's frame
  have I3 : Inv X pins σ H2 { s2 with heap := hp } := I2.kept (t' := s2.toks) up
  have hD0 : H2 D = none := I2.hok.fresh (by rw [hDe]; exact Nat.le_refl _)
  have fD : FpOk X pins H2 D := I2.fpOk (by rw [hDe]; exact Nat.le_refl _) hD0
  have fpo : ∀ b ∈ fp, ∃ o, s2.heap.get? b = some o ∧ ∀ v, o.data ≠ .cell v := T.obj 0 _ st2
  have fplt : ∀ b ∈ fp, b < D := fun b hb => by obtain ⟨o, e, _⟩ := fpo b hb; rw [← hDe]; exact Heap.lt_size e
  have hDfp : D ∉ fp := fun hb => Nat.lt_irrefl _ (fplt D hb)
  have hCfp : C ∉ fp := fun hb => by have := fplt C hb; rw [← hCe, hCs] at this; exact absurd (Nat.lt_of_succ_lt this) (Nat.lt_irrefl _)
  have nobase : ∀ b, (b ∈ X.ex ∨ X.s₀.heap.objs.size ≤ b) → ∀ o, X.base.get? b ≠ some o := fun b h o e => by
    rcases h with h | h
    · exact I2.ok.noex b o e h
    · exact absurd (Nat.lt_of_lt_of_le (Heap.lt_size e) (Nat.le_trans I2.ok.bsz h)) (Nat.lt_irrefl _)
  have hex : ∀ b ∈ D :: fp, b < hp.objs.size ∧ b ∉ X.fs ∧ b ≠ X.env.locals ∧ (∀ x c, X.env.cells.lookup x = some c → c ≠ b) ∧ ∀ o, X.base.get? b ≠ some o := fun b hb => by
    have fb : FpOk X pins H2 b := by
      rcases List.mem_cons.mp hb with e | hb
      · rw [e]; exact fD
      · exact f2 b hb
    refine ⟨?_, fb.2.2.1, fb.2.1, fb.2.2.2.2.1, nobase b fb.2.2.2.1⟩
    rcases List.mem_cons.mp hb with e | hb
    · rw [e, hCs]; exact Nat.lt_succ_self _
    · rw [hCs]; exact Nat.lt_succ_of_lt (fplt b hb)
  have hCle : hp.objs.size ≤ C := by rw [hCe]; exact Nat.le_refl _
  have ok : (blkCx X sc Nc { s2 with heap := hp } H2 C (D :: fp) (X.pn ++ pins)).Ok := blk_ok B I3 hCle hex
  have old : ∀ b u, hp.get? b = some u → h₁.get? b = some u := fun b u e => by
    have hb : b ≠ C := by rw [← hCe]; exact Nat.ne_of_lt (Heap.lt_size e)
    exact (hsb₁.2 b hb).trans (Heap.get?_push_of_some _ e)
  have J0 : Inv (blkCx X sc Nc { s2 with heap := hp } H2 C (D :: fp) (X.pn ++ pins)) [(D, lstObj [] 0)] (blkSt fr σ) H2 { s2 with heap := h₁, toks := s2.toks + ([] : List (Str × Value)).length } :=
    blk_inv B ok I3 hCle rfl rfl old hns₁ hDp hD0 fD.2.1 fD.2.2.1 (fun v z => by cases z)
  have a0 : Acc (blkCx X sc Nc { s2 with heap := hp } H2 C (D :: fp) (X.pn ++ pins)) D [] [] (blkSt fr σ) H2 { s2 with heap := h₁, toks := s2.toks + ([] : List (Str × Value)).length } :=
    ⟨⟨[], J0, .nil⟩, List.mem_cons_self, fun p hp' => fD.2.2.2.2.2 p (by simpa using hp')⟩
  have fpY : ∀ b ∈ fp, FpOk (blkCx X sc Nc { s2 with heap := hp } H2 C (D :: fp) (X.pn ++ pins)) [] H2 b ∧ D ≠ b := fun b hb =>
    ⟨⟨(f2 b hb).1, fun e => hCfp (by have e' : b = C := e; rw [← e']; exact hb), ok.exfs b (List.mem_cons_of_mem _ hb), .inl (List.mem_cons_of_mem _ hb), (ok.exf b (List.mem_cons_of_mem _ hb)).2, fun p hp' => (f2 b hb).2.2.2.2.2 p (by simpa using hp')⟩, fun z => hDfp (by rw [z]; exact hb)⟩
  have loop : codeAny (model X.prog X.w) X.A (.compLoop (.ListComp elt gens sc pos) 0 (.ref it) (.ref D) (compEnvC sc (takes X.env.cells sc.names []) C X.env)) (RR (.ref D) C) { s2 with heap := h₁, toks := s2.toks + ([] : List (Str × Value)).length } := by
    refine loopB (Y := blkCx X sc Nc { s2 with heap := hp } H2 C (D :: fp) (X.pn ++ pins)) (D := D) rfl hc T (hg _ _ _ _ _) (hm _ _ _ _ _ D) (hturn it D _) a0 (T.keep _ _ _ st2 (fun b _ o e => old b o (up b o e))) fpY cw fun ys σ4 H3 s4 a4 hq => ?_
    obtain ⟨us, I4, rv⟩ := a4.us
    obtain ⟨hsz, qn⟩ := hq
    -- the block is left
    obtain ⟨pD, pH, _, _, _⟩ := I4.pin (D, lstObj us us.length) (List.mem_append_right _ List.mem_cons_self)
    obtain ⟨mC', hnC, _⟩ := I4.loc
    have un : Un (frs X.stack) fp H2 (upd H3 D (.lst ys)) s2.heap s4.heap := by
      have u0 : Un (frs X.stack) (D :: fp) H2 H3 hp s4.heap := I4.base
      have neD : ∀ {b : Addr} {o : Obj}, s2.heap.get? b = some o → b ≠ D := fun e => by rw [← hDe]; exact Nat.ne_of_lt (Heap.lt_size e)
      have nx : ∀ {b : Addr} {o : Obj}, s2.heap.get? b = some o → b ∉ fp → b ∉ D :: fp := fun e h1 h2 => by
        rcases List.mem_cons.mp h2 with z | z
        · exact neD e z
        · exact h1 z
      have neT : ∀ {b : Addr} {o : HO}, H2 b = some o → b ≠ D := fun e z => by rw [z, hD0] at e; cases e
      exact ⟨fun b o e n hb hx => u0.keep b o (up b o e) n hb (nx e hx), fun b o e n hb hx => u0.slot b o (up b o e) n hb (nx e hx), fun b o e n hx => by rw [upd_ne (neD e)]; exact u0.free b o (up b o e) n (nx e hx),
        fun b o e hx => u0.there b o (up b o e) (nx e hx), fun b xs e => by rw [upd_ne (neT e)]; exact u0.tups b xs e, fun b o xs e => by rw [upd_ne (neT e)]; exact u0.frzs b o xs e, fun b ps e => by rw [upd_ne (neT e)]; exact u0.tbls b ps e⟩
    have hok : HOk X.prog X.w (upd H3 D (.lst ys)) s4.heap := fun b u e => by
      by_cases hb : b = D
      · subst hb
        rw [upd_same] at e
        cases e
        exact ⟨Nat.le_of_lt hsz, us, us.length, rv, pD⟩
      · rw [upd_ne hb] at e
        refine (I4.hok b u e).stay (fun c v _ q => q) (fun c q => ?_) fun c xs q => ?_
        · rw [upd_ne (fun z => by rw [z] at q; rw [show H3 D = none from pH] at q; cases q)]; exact q
        · rw [upd_ne (fun z => by rw [z] at q; rw [show H3 D = none from pH] at q; cases q)]; exact q
    have I5 : Inv X pins σ (upd H3 D (.lst ys)) s4 := I2.call' I4.os un hok I4.bare fun b hb => ⟨(f2 b hb).2.2.2.1, (f2 b hb).2.1, (f2 b hb).2.2.2.2.1, (f2 b hb).2.2.2.2.2⟩
    refine hRR D C s4 _ I5 ⟨mC', hnC⟩ ?_ (qn D pH)
    have hC2 : s2.heap.objs.size ≤ C := by rw [hDe, ← hCe, hCs]; exact Nat.le_succ _
    refine I2.fpOk hC2 ?_
    rw [upd_ne (Ne.symm hDC)]
    exact I4.free
  exact compStart_at hcl loop (wpAny_mono (T.self X.A 0 _ _ (fun _ _ => False) (T.keep _ _ _ st2 (fun b _ o e => old b o (up b o e))) loop) (fun _ _ h => h) fun _ _ h => h.elim)

def tCompG (fr : List (Option Nat)) (wi : TI) (g : TG) (t : TB) : TE := fun σ H Q => wi σ H fun J H1 => bLoop J g t [] (blkSt fr σ) H1 fun ys _ H' => ys.length < sizeLine ∧ ∀ l, H' l = none → Q (.ref l) (upd H' l (.lst ys))
/-- [elt for tg in iter] -/
theorem pe_compG {elt iter tg : Expr} {ifs : List Expr} {rest : List Comprehension} {sc : Scope} {pos p0 : Pos} {Nc : List Str} {fr : List (Option Nat)} {wi : TI} {g : TG} {m : Addr → Env → Sem Fin → Sem Fin} {t : TB} (hc : X.calm = true) (hi : PI X tg iter wi) (B : Blk X.N X.env.scope sc Nc fr)
    (hg : ∀ s₀ H₀ C ex pn, PG (blkCx X sc Nc s₀ H₀ C ex pn) tg g) (hm : ∀ s₀ H₀ C ex pn D, PB (blkCx X sc Nc s₀ H₀ C ex pn) D (m D (blkCx X sc Nc s₀ H₀ C ex pn).env) t)
    (hturn : ∀ (it D : Addr) (env : Env), compTurn (.ListComp elt (⟨tg, iter, ifs, 0⟩ :: rest) sc pos) 0 (.ref it) (.ref D) env = (standAt p0 >>= fun _ => pyNext (.ref it) >>= fun r => match r with
      | none => pure (.done .next)
      | some v => letOwnedTupleGo tg (.ref it) v >>= fun _ => assign tg env v >>= fun _ => m D env (again (.compLoop (.ListComp elt (⟨tg, iter, ifs, 0⟩ :: rest) sc pos) 0 (.ref it) (.ref D) env)))) (hs : ∀ x, foldedSetIterable iter X.env x = pure x := by intro _; rfl) :
    PE X (.ListComp elt (⟨tg, iter, ifs, 0⟩ :: rest) sc pos) (tCompG fr wi g t) := by
  intro pins s σ H Q I h
  rw [eval_ListComp]
  refine wpAny_comprehension_free (use := none) rfl hs (clos_of B I) B.kind B.locs (thn (hi pins s σ H _ I h) fun v s1 h1 => thn h1 fun itv s2 h2 => ?_)
  obtain ⟨it, fp, tn, J, H2, e, I2, T, st2, f2, cw⟩ := h2
  subst e
  refine comp_blockG (RR := fun acc C => compPost (model X.prog X.w) X.A X.xe none (EP X pins σ Q) acc C) rfl B hc hg hm hturn I2 T st2 f2 cw fun D C s' H' I' hn fC q => ?_
  obtain ⟨m, hn⟩ := hn
  exact ⟨m, hn, fun h' sb => ⟨.ref D, H', I'.turned (t' := s'.toks) (fun b o hb e => (sb.2 b hb).trans e) fC.1 fC.2.1 fC.2.2.2.1 fC.2.2.2.2.1 fC.2.2.2.2.2, rfl, q⟩⟩

end
end L2


namespace L3
open PySem L2 PySem.Spec
abbrev TBB3 := List D → G → (List D → G → Prop) → Prop
def PoL (K : PySem.W.Frag) (B : Bs) (F : Hp) (Q : List D → G → Prop) : List V → L2.St → Hp → Prop := fun ys' σ' H' => ∃ F' Γ' ds', Same F F' ∧ En K B F' σ' H' Γ' ∧ RepL K F' ds' ys' ∧ Q ds' Γ'
def RefBB (K : PySem.W.Frag) (t : TB) (b3 : TBB3) : Prop := ∀ (B : Bs) (F : Hp) (σ : L2.St) (H : Hp) (Γ : G) (ys : List V) (ds : List D) (Q : List D → G → Prop) (QQ : List V → L2.St → Hp → Prop), En K B F σ H Γ → RepL K F ds ys → b3 ds Γ Q → (∀ ys' σ' H', PoL K B F Q ys' σ' H' → QQ ys' σ' H') → t ys σ H QQ
structure P3BB (K : PySem.W.Frag) (Y : Cx) (D : Addr) (m : Sem Fin → Sem Fin) (t : TB) (b3 : TBB3) : Prop where
  pe : PB Y D m t
  rf : RefBB K t b3
def emit3 (e3 : TE3) (ys : List D) (Γ : G) (Q : List D → G → Prop) : Prop := ys.length < sizeLine ∧ e3 Γ fun r Γ1 => Q (ys ++ [r.d]) Γ1
def bif3 (c3 : TT3) (b3 : TBB3) (ys : List D) (Γ : G) (Q : List D → G → Prop) : Prop := c3 Γ fun b Γ1 => match b with
  | true => b3 ys Γ1 Q
  | false => Q ys Γ1
def loop3 (xs : List D) (g3 : TG3) (b3 : TBB3) (ys : List D) (Γ : G) (Q : List D → G → Prop) : Prop := ∃ Iv : Nat → List D → G → Prop, Iv 0 ys Γ ∧ (∀ k d ys Γ, xs[k]? = some d → Iv k ys Γ → g3 d Γ fun Γ' => b3 ys Γ' (Iv (k + 1))) ∧ ∀ ys Γ, Iv xs.length ys Γ → Q ys Γ
def rest3 (i3 : TI3) (g3 : TG3) (b3 : TBB3) (ys : List D) (Γ : G) (Q : List D → G → Prop) : Prop := i3 Γ fun xs Γ1 => loop3 xs g3 b3 ys Γ1 Q
def compG3 (fr : List (Option Nat)) (i3 : TI3) (g3 : TG3) (b3 : TBB3) (Γ : G) (Q : RV → G → Prop) : Prop := i3 Γ fun xs Γ1 => loop3 xs g3 b3 [] (argG Γ1 (blkB fr)) fun ys Γc => ys.length < sizeLine ∧ Q (.fr (.lst ys)) (backG fr Γ1 Γc)
section
variable {K : PySem.W.Frag} {X Y : Cx} {Da : Addr} {pos p0 : Pos}
theorem ref_emit {te : TE} {e3 : TE3} (h : Ref K te e3) : RefBB K (bEmit te) (emit3 e3) := by
  intro B F σ H Γ ys ds Q QQ e r ⟨hz, q⟩ k
  refine ⟨by rw [r.length]; exact hz, h B F σ H Γ _ _ e q fun v H' ⟨F', Γ', rv, s, e', rr, q'⟩ => k _ _ _ ?_⟩
  obtain ⟨F2, s2, e2, r2⟩ := e'.frozen rr
  exact ⟨F2, Γ', ds ++ [rv.d], s.trans s2, e2, RepL.append (ys := [rv.d]) (r.mono (s.trans s2)) ⟨v, [], rfl, r2, rfl⟩, q'⟩
theorem ref_bif {tc : TT} {c3 : TT3} {t : TB} {b3 : TBB3} (hc : RefT K tc c3) (h : RefBB K t b3) : RefBB K (bIf tc t) (bif3 c3 b3) := by
  intro B F σ H Γ ys ds Q QQ e r q k
  refine hc B F σ H Γ _ _ e q fun b H' ⟨F', Γ', s, e', q'⟩ => ?_
  cases b with
  | true => exact iteT (h B F' σ H' Γ' ys ds Q QQ e' (r.mono s) q' fun ys' σ' H2 ⟨F2, Γ2, d2, s2, rest⟩ => k _ _ _ ⟨F2, Γ2, d2, s.trans s2, rest⟩)
  | false => exact iteF (k _ _ _ ⟨F', Γ', ds, s, e', r.mono s, q'⟩)
theorem ref_loop {J : It} {xs : List D} {g : TG} {g3 : TG3} {t : TB} {b3 : TBB3} (hg : RefG K g g3) (h : RefBB K t b3) {B : Bs} {F : Hp} {σ : L2.St} {H : Hp} {Γ : G} {ys : List V} {ds : List D} {Q : List D → G → Prop} {QQ : List V → L2.St → Hp → Prop}
    (R : ItR K F J xs) (e : En K B F σ H Γ) (r : RepL K F ds ys) (q : loop3 xs g3 b3 ds Γ Q) (k : ∀ ys' σ' H', PoL K B F Q ys' σ' H' → QQ ys' σ' H') : bLoop J g t ys σ H QQ := by
  obtain ⟨Iv, i0, it, ie⟩ := q
  refine ⟨fun i m ys σ H => m = xs.length - i ∧ i ≤ xs.length ∧ ∃ F' Γ' ds, Same F F' ∧ En K B F' σ H Γ' ∧ RepL K F' ds ys ∧ Iv i ds Γ', ⟨_, rfl, Nat.zero_le _, F, Γ, ds, Same.refl F, e, r, i0⟩, ?_⟩
  rintro i m ys2 σ2 H2 ⟨rfl, hi, F2, Γ2, ds2, s2, e2, r2, iv⟩
  by_cases lt : i < xs.length
  · refine .inr ⟨R.go i H2 (s2.trans e2.sub) lt, fun x H3 y => ?_⟩
    have hd : xs[i]? = some xs[i] := List.getElem?_eq_getElem lt
    obtain ⟨F3, s3, e3, r3⟩ := R.turn s2 e2 hd y
    refine hg B F3 σ2 H3 Γ2 x _ _ _ e3 r3 (it i _ ds2 Γ2 hd iv) fun σ' Γ' e4 q4 => ?_
    exact h B F3 σ' H3 Γ' ys2 ds2 _ _ e4 (r2.mono s3) q4 fun ys' σ'' H4 ⟨F4, Γ4, d4, s4, e5, r5, iv5⟩ => ⟨xs.length - (i + 1), by omega, rfl, lt, F4, Γ4, d4, (s2.trans s3).trans s4, e5, r5, iv5⟩
  · have z : i = xs.length := by omega
    subst z
    exact .inl ⟨R.stop _ H2 (s2.trans e2.sub) rfl, k _ _ _ ⟨F2, Γ2, ds2, s2, e2, r2, ie ds2 Γ2 iv⟩⟩
theorem ref_compG {fr : List (Option Nat)} {wi : TI} {i3 : TI3} {g : TG} {g3 : TG3} {t : TB} {b3 : TBB3} (nd : (fr.filterMap id).Nodup) (hi : RefI K wi i3) (hg : RefG K g g3) (h : RefBB K t b3) : Ref K (tCompG fr wi g t) (compG3 fr i3 g3 b3) := by
  intro B F σ H Γ Q QQ e q k
  refine hi B F σ H Γ _ _ e q fun J H1 F1 Γ1 xs s1 e1 R q1 => ?_
  refine ref_loop hg h R (e1.blk nd) (ds := []) rfl q1 fun ys σ' H2 ⟨F2, Γ2, d2, s2, e2, r2, hz, q2⟩ => ⟨by rw [r2.length]; exact hz, fun l hl' => k _ _ ?_⟩
  have eo : En K B F2 σ H2 (backG fr Γ1 Γ2) := e1.back (ls := fr) e2 (by have := own_back (Γ := Γ1) (σ := σ) (bs := blkB fr); rw [lend_blk] at this; exact this)
  exact Po.mono (s1.trans s2) (po_newL eo hl' r2 q2)
theorem bb_emit {elt : Expr} {te : TE} {e3 : TE3} (hx : Y.xe = fun _ _ => False) (he : P3 K Y elt te e3) : P3BB K Y Da (emitK elt Da Y.env) (bEmit te) (emit3 e3) := ⟨pb_emit hx he.pe, ref_emit he.rf⟩
theorem bb_if {c : Expr} {tc : TT} {c3 : TT3} {m : Sem Fin → Sem Fin} {t : TB} {b3 : TBB3} (hx : Y.xe = fun _ _ => False) (hc : P3T K Y c tc c3) (hm : P3BB K Y Da m t b3) : P3BB K Y Da (ifK c Y.env m) (bIf tc t) (bif3 c3 b3) := ⟨pb_if hx hc.pe hm.pe, ref_bif hc.rf hm.rf⟩
/-- [elt for tg in iter if c] -/
theorem p3_compF {elt iter tg c : Expr} {sc : Scope} {Nc : List Str} {fr : List (Option Nat)} {wi : TI} {i3 : TI3} {g : TG} {g3 : TG3} {te : TE} {e3 : TE3} {tc : TT} {c3 : TT3} (hc : X.calm = true) (hi : P3I K X tg iter wi i3) (Bk : Blk X.N X.env.scope sc Nc fr)
    (hg : ∀ s₀ H₀ C ex pn, P3G K (blkCx X sc Nc s₀ H₀ C ex pn) tg g g3) (ht : ∀ s₀ H₀ C ex pn, P3T K (blkCx X sc Nc s₀ H₀ C ex pn) c tc c3) (he : ∀ s₀ H₀ C ex pn, P3 K (blkCx X sc Nc s₀ H₀ C ex pn) elt te e3) (nd : (fr.filterMap id).Nodup := by decide) (hs : ∀ x, foldedSetIterable iter X.env x = pure x := by intro _; rfl) :
    P3 K X (.ListComp elt [⟨tg, iter, [c], 0⟩] sc pos) (tCompG fr wi g (bIf tc (bEmit te))) (compG3 fr i3 g3 (bif3 c3 (emit3 e3))) :=
  ⟨pe_compG (m := fun D env => ifK c env (emitK elt D env)) hc hi.pe Bk (fun a b c d e => (hg a b c d e).pe) (fun a b c d e D => (bb_if rfl (ht a b c d e) (bb_emit rfl (he a b c d e))).pe) (fun _ _ _ => rfl) hs, ref_compG nd hi.rf (hg X.s₀ X.H₀ 0 [] []).rf (ref_bif (ht X.s₀ X.H₀ 0 [] []).rf (ref_emit (he X.s₀ X.H₀ 0 [] []).rf))⟩
end
end L3


namespace L3
open PySem L2 PySem.Spec
theorem eqN_i {n : Nat} {a b : Int} : eqN n (.int a) (.int b) = some (a == b) := by cases n <;> rfl
theorem eqN_s {n : Nat} {a b : Str} : eqN n (.str a) (.str b) = some (a == b) := by cases n <;> rfl
theorem eqN_b {n : Nat} {a b : Bool} : eqN n (.bl a) (.bl b) = some (a == b) := by cases n <;> rfl
def fo (s : Option D) : Option Sl := s.map Sl.fz
theorem free_s {s : Option Sl} {Γ : G} {i : Nat} : free3 (s :: Γ) (i + 1) = free3 Γ i := rfl
theorem free_n {Γ : G} : free3 (none :: Γ) 0 = True := rfl
theorem free_z {d : D} {Γ : G} : free3 (some (.fz d) :: Γ) 0 = True := rfl
theorem free_w {d : D} {Γ : G} : free3 (some (.ow d) :: Γ) 0 = True := rfl
theorem free_o {s : Option D} {Γ : G} : free3 (fo s :: Γ) 0 = True := by cases s <;> rfl
end L3


universe u
namespace L3
open PySem L2 PySem.Spec
structure Tag {α : Sort u} (q : α) : Type where
def m1 (o : Option D) (k : D → Prop) (_ : Tag k) : Prop := match o with
  | some d => k d
  | none => False
theorem m1_some {d : D} {k : D → Prop} {t : Tag k} : m1 (some d) k t = k d := rfl
theorem m1_ex {o : Option D} {k : D → Prop} {t : Tag k} : m1 o k t ↔ ∃ d, o = some d ∧ k d := by
  cases o with
  | none => exact ⟨fun h => h.elim, fun ⟨_, h, _⟩ => by cases h⟩
  | some d => exact ⟨fun h => ⟨d, rfl, h⟩, fun ⟨_, h, q⟩ => by cases h; exact q⟩
/-- a promise that waits: simp leaves what comes behind it -/
def hold (S : S3) (Γ : G) (Q : RV → G → Prop) (_ : Tag Q) : Prop := S Γ Q
def compH (fr : List (Option Nat)) (i3 : TI3) (g3 : TG3) (e3 : TE3) (Γ : G) (Q : RV → G → Prop) (_ : Tag (fr, i3, g3, e3)) (_ : Tag Q) : Prop := comp3 fr i3 g3 e3 Γ Q
def forH (i3 : TI3) (g3 : TG3) (b3 : TS3) (D : E3) (Γ : G) (_ : Tag (i3, g3, b3)) (_ : Tag D) : Prop := for3 i3 g3 b3 D Γ
def compGH (fr : List (Option Nat)) (i3 : TI3) (g3 : TG3) (b3 : TBB3) (Γ : G) (Q : RV → G → Prop) (_ : Tag (fr, i3, g3, b3)) (_ : Tag Q) : Prop := compG3 fr i3 g3 b3 Γ Q
theorem compG3_h {fr : List (Option Nat)} {i3 : TI3} {g3 : TG3} {b3 : TBB3} {Γ : G} {Q : RV → G → Prop} : compG3 fr i3 g3 b3 Γ Q = compGH fr i3 g3 b3 Γ Q ⟨⟩ ⟨⟩ := rfl
theorem comp3_h {fr : List (Option Nat)} {i3 : TI3} {g3 : TG3} {e3 : TE3} {Γ : G} {Q : RV → G → Prop} : comp3 fr i3 g3 e3 Γ Q = compH fr i3 g3 e3 Γ Q ⟨⟩ ⟨⟩ := rfl
theorem for3_h {i3 : TI3} {g3 : TG3} {b3 : TS3} {D : E3} {Γ : G} : for3 i3 g3 b3 D Γ = forH i3 g3 b3 D Γ ⟨⟩ ⟨⟩ := rfl
section
variable {op : D → D → TE3} {a3 b3 : TB3} {Γ : G} {Q : RV → G → Prop}
theorem t3Op_m : t3Op op a3 b3 Γ Q = (a3 Γ fun x Γ1 => b3 Γ1 fun y Γ2 => m1 (x.at Γ2) (fun dx => m1 (y.at Γ2) (fun dy => op dx dy Γ2 Q) ⟨⟩) ⟨⟩) := by
  unfold t3Op
  congr; funext x Γ1; congr; funext y Γ2
  refine propext ⟨fun ⟨dx, dy, h1, h2, h3⟩ => by rw [h1, h2]; exact h3, fun h => ?_⟩
  obtain ⟨dx, h1, h⟩ := m1_ex.mp h
  obtain ⟨dy, h2, h⟩ := m1_ex.mp h
  exact ⟨dx, dy, h1, h2, h⟩
theorem t3Un_m {op : D → TE3} : t3Un op a3 Γ Q = (a3 Γ fun x Γ1 => m1 (x.at Γ1) (fun dx => op dx Γ1 Q) ⟨⟩) := by
  unfold t3Un
  congr; funext x Γ1
  exact propext m1_ex.symm
theorem ixL_m {xs : List D} {i : Int} : ix3 (.lst xs) (.int i) Γ Q = m1 (atI xs i) (fun d => Q (.fz d) Γ) ⟨⟩ := propext m1_ex.symm
theorem ixT_m {xs : List D} {i : Int} : ix3 (.tup xs) (.int i) Γ Q = m1 (atI xs i) (fun d => Q (.fz d) Γ) ⟨⟩ := propext m1_ex.symm
def mL (o : Option (List D)) (k : List D → Prop) (_ : Tag k) : Prop := match o with
  | some d => k d
  | none => False
theorem mL_some {d : List D} {k : List D → Prop} {t : Tag k} : mL (some d) k t = k d := rfl
theorem call3_m {c3 : List D → TE3} {t3 : TAB3} : call3 c3 t3 Γ Q = (t3 Γ fun bs Γ1 => mL (ats Γ1 bs) (fun ds => c3 ds Γ1 Q) ⟨⟩) := by
  unfold call3
  congr; funext bs Γ1
  refine propext ⟨fun ⟨ds, h, q⟩ => by rw [h]; exact q, fun h => ?_⟩
  cases e : ats Γ1 bs with
  | none => rw [e] at h; exact h.elim
  | some ds => rw [e] at h; exact ⟨ds, rfl, h⟩
def mN (o : Option Nat) (k : Nat → Prop) (_ : Tag k) : Prop := match o with
  | some d => k d
  | none => False
theorem mN_some {d : Nat} {k : Nat → Prop} {t : Tag k} : mN (some d) k t = k d := rfl
def mI (o : Option D) (k : Int → Prop) (_ : Tag k) : Prop := match o with
  | some (.int d) => k d
  | _ => False
theorem mI_some {d : Int} {k : Int → Prop} {t : Tag k} : mI (some (.int d)) k t = k d := rfl
theorem setI3_m {i : Nat} {k3 : TB3} {e3 : TE3} {D : E3} : setI3 i k3 e3 D Γ = (e3 Γ fun r Γ1 => (∃ xs, heldL Γ1 i = some xs) ∧ k3 Γ1 fun b Γ2 => mL (heldL Γ2 i) (fun xs => mI (b.at Γ2) (fun k => mN (ixN xs.length k) (fun j => D.nx (putD Γ2 i (.lst (xs.set j r.d)))) ⟨⟩) ⟨⟩) ⟨⟩) := by
  unfold setI3
  congr; funext r Γ1; congr; funext b Γ2
  refine propext ⟨fun ⟨xs, k, j, h1, h2, h3, q⟩ => ?_, fun h => ?_⟩
  · rw [h1, h2]; show mN (ixN xs.length k) _ ⟨⟩; rw [h3]; exact q
  · cases e : heldL Γ2 i with
    | none => rw [e] at h; exact h.elim
    | some xs =>
      rw [e] at h
      replace h : mI (b.at Γ2) (fun k => mN (ixN xs.length k) (fun j => D.nx (putD Γ2 i (.lst (xs.set j r.d)))) ⟨⟩) ⟨⟩ := h
      cases e2 : b.at Γ2 with
      | none => rw [e2] at h; exact h.elim
      | some d =>
        rw [e2] at h
        cases d with
        | int k =>
          replace h : mN (ixN xs.length k) (fun j => D.nx (putD Γ2 i (.lst (xs.set j r.d)))) ⟨⟩ := h
          cases e3 : ixN xs.length k with
          | none => rw [e3] at h; exact h.elim
          | some j => rw [e3] at h; exact ⟨xs, k, j, rfl, rfl, e3, h⟩
        | _ => exact h.elim
theorem call3f_m {n : Nat} {S : S3} {t3 : TAB3} : call3f n S t3 Γ Q = (t3 Γ fun bs Γ1 => bs.length = n ∧ (lents bs).Nodup ∧ hold S (argG Γ1 (bs.map some)) (fun r Γa => Q r (backG ((bs.map some).map lendOf) Γ1 Γa)) ⟨⟩) := rfl
theorem meth3_m {C : Addr} {m : Str} {n : Nat} {S : S3} {o3 : TB3} {t3 : TAB3} : meth3 C m n S o3 t3 Γ Q = (o3 Γ fun x Γ1 => (∃ ns xs, x.at Γ1 = some (.ins C ns xs) ∧ m ∉ ns) ∧ t3 Γ1 fun bs Γ2 => bs.length + 1 = n ∧ (lents (x :: bs)).Nodup ∧ hold S (argG Γ2 ((x :: bs).map some)) (fun r Γa => Q r (backG (((x :: bs).map some).map lendOf) Γ2 Γa)) ⟨⟩) := rfl
end
end L3


set_option maxHeartbeats 4000000
namespace K17
open PySem L2 L3
local macro_rules | `(tactic| walk_at "x3") => `(tactic| try simp only [startG, List.length_cons, List.length_nil, Nat.reduceAdd, Nat.reduceSub, Nat.zero_add, List.replicate, List.cons_append, List.nil_append, List.append_nil,
  seq3, next3, set3, ret3, drop3, ifS3, par3, setT3, t3Op, t3Un, t3Chain, bor, bof, call3, consB, nilB, cons3, nil3, t3C, t3Var, t3Mv, tst, and3, or3, not3, andV3, orV3, notV3, if3, lst3, tup3,
  Gat, Bo.at, ats, RV.d, RV.sl, add3, i2, i2', cmpI, eq3, eqS, ix3, len3, lenD, mx3, abs3, int3, neg3, free_s, free_n, free_z, free_w, free_o, sl3, slS3, none3, some3, list3, itemsD, tuple3, is3, knD, dB, dI, dL, dT,
  app3, ext3, zap3, setI3, heldL, putD, tgN, tgT, gives, frees, iL3, iR1, iR2, iZ3, iE3, lz3, all3, call3f, meth3, argG, argS, argSl, lents, lendOf, List.map_cons, List.map_nil, Option.bind_some, Option.bind_none, List.nodup_nil, List.nodup_cons,
  List.getElem?_cons_zero, List.getElem?_cons_succ, List.getElem?_nil, List.set_cons_zero, List.set_cons_succ, exists_eq_left', exists_eq_left, exists_eq', exists_eq, exists_and_left, exists_and_right, Option.some.injEq, D.int.injEq, D.lst.injEq, D.str.injEq, D.tup.injEq, D.bl.injEq, D.ins.injEq, D.ty.injEq, List.cons.injEq, and_true, true_and, and_false, false_and, true_or, false_or, or_false, or_true,
  and_assoc, List.not_mem_nil, not_false_eq_true, backG_none, emit3, bif3, eqD3, eqN_i, eqN_s, eqN_b, eqN_ints, Bool.false_xor, Bool.not_true, Bool.not_false, Bool.true_xor, outG, List.mapIdx_cons, List.mapIdx_nil, backG, backS, newD, Option.getD_some, Option.getD_none, atI_0, atI_1, atI_2, atI_3, ixN_30, ixN_31, ixN_32, if_pos, if_true, if_false, List.all_cons, List.all_nil, Option.isNone_none, Bool.and_true, Bool.true_and, decide_eq_true_eq, not_true, not_false_iff, reduceCtorEq])

def top (i : Nat) : Stmt := PySem.Challenge.pw_halvedpictures_k17_flat_and_bent_rows.main.body.getD i (.Pass ⟨0, 0, 0, 0⟩)
abbrev s_is_whole : Stmt := top 8
abbrev s_is_number : Stmt := top 9
abbrev s_is_row : Stmt := top 10
abbrev s_pairs_of : Stmt := top 12
abbrev s_gaps_of : Stmt := top 13
abbrev s_Sums_word : Stmt := inClass (top 14) 0
abbrev s_Sums_halves : Stmt := inClass (top 14) 1
abbrev s_Sums_parted : Stmt := inClass (top 14) 3
abbrev s_Sums_sums_of : Stmt := inClass (top 14) 5
abbrev s_Sums_sum_of_pair : Stmt := inClass (top 14) 7
abbrev s_Sums_sum_of_lone : Stmt := inClass (top 14) 8
abbrev s_Halves_word : Stmt := inClass (top 15) 0
abbrev s_Halves_sum_of_pair : Stmt := inClass (top 15) 1
abbrev s_Halves_sum_of_lone : Stmt := inClass (top 15) 2
abbrev s_near : Stmt := top 17
abbrev s_guesses : Stmt := top 18
abbrev s_lifts : Stmt := top 19
abbrev s_leans : Stmt := top 20
abbrev s_Guessed_word : Stmt := inClass (top 21) 0
abbrev s_Guessed_parted : Stmt := inClass (top 21) 1
abbrev s_Leaning_word : Stmt := inClass (top 22) 0
abbrev s_Leaning_parted : Stmt := inClass (top 22) 1
abbrev s_all_rules : Stmt := top 23
abbrev s_rule_of : Stmt := top 24
abbrev s__law_cell : Stmt := top 26
abbrev s__law_box : Stmt := top 27
abbrev s__law_take : Stmt := top 28
abbrev s__law_bent : Stmt := top 29
abbrev s__law_noughts : Stmt := top 30
abbrev s__law_all_right : Stmt := top 31
abbrev s_law : Stmt := top 32
theorem sc_is_whole : FnScope ["thing", "low", "high"] ["thing", "low", "high"] (defScope s_is_whole) := ⟨rfl, rfl, rfl, by decide +kernel, rfl, by decide +kernel, by decide +kernel⟩
theorem sc_is_number : FnScope ["thing"] ["thing"] (defScope s_is_number) := ⟨rfl, rfl, rfl, by decide +kernel, rfl, by decide +kernel, by decide +kernel⟩
theorem sc_is_row : FnScope ["thing", "least"] ["thing", "least"] (defScope s_is_row) := ⟨rfl, rfl, rfl, by decide +kernel, rfl, by decide +kernel, by decide +kernel⟩
def blk_is_row_1_sc : Scope := { kind := .function, names := [(".0", .local), ("number", .local), ("is_number", .globalImplicit)], isGenerator := false, isCoroutine := false, more := [] }
theorem blk_is_row_1 : Blk ["thing", "least"] (defScope s_is_row) blk_is_row_1_sc ["number"] [none] := ⟨rfl, by decide +kernel, by decide +kernel, by decide +kernel, by decide +kernel, rfl, by decide +kernel⟩
theorem sc_pairs_of : FnScope ["row"] ["row"] (defScope s_pairs_of) := ⟨rfl, rfl, rfl, by decide +kernel, rfl, by decide +kernel, by decide +kernel⟩
theorem sc_gaps_of : FnScope ["row"] ["row"] (defScope s_gaps_of) := ⟨rfl, rfl, rfl, by decide +kernel, rfl, by decide +kernel, by decide +kernel⟩
def blk_gaps_of_1_sc : Scope := { kind := .function, names := [(".0", .local), ("first", .local), ("second", .local)], isGenerator := false, isCoroutine := false, more := [] }
theorem blk_gaps_of_1 : Blk ["row"] (defScope s_gaps_of) blk_gaps_of_1_sc ["first", "second"] [none, none] := ⟨rfl, by decide +kernel, by decide +kernel, by decide +kernel, by decide +kernel, rfl, by decide +kernel⟩
theorem sc_Sums_word : FnScope ["self"] ["self"] (defScope s_Sums_word) := ⟨rfl, rfl, rfl, by decide +kernel, rfl, by decide +kernel, by decide +kernel⟩
theorem sc_Sums_halves : FnScope ["self", "row"] ["self", "row"] (defScope s_Sums_halves) := ⟨rfl, rfl, rfl, by decide +kernel, rfl, by decide +kernel, by decide +kernel⟩
theorem sc_Sums_parted : FnScope ["self", "row"] ["self", "row"] (defScope s_Sums_parted) := ⟨rfl, rfl, rfl, by decide +kernel, rfl, by decide +kernel, by decide +kernel⟩
theorem sc_Sums_sums_of : FnScope ["self", "row", "sums"] ["self", "row"] (defScope s_Sums_sums_of) := ⟨rfl, rfl, rfl, by decide +kernel, rfl, by decide +kernel, by decide +kernel⟩
def blk_Sums_sums_of_1_sc : Scope := { kind := .function, names := [(".0", .local), ("first", .local), ("second", .local), ("self", .free)], isGenerator := false, isCoroutine := false, more := [] }
theorem blk_Sums_sums_of_1 : Blk ["self", "row", "sums"] (defScope s_Sums_sums_of) blk_Sums_sums_of_1_sc ["first", "second", "self"] [none, none, some 0] := ⟨rfl, by decide +kernel, by decide +kernel, by decide +kernel, by decide +kernel, rfl, by decide +kernel⟩
theorem sc_Sums_sum_of_pair : FnScope ["self", "first", "second"] ["self", "first", "second"] (defScope s_Sums_sum_of_pair) := ⟨rfl, rfl, rfl, by decide +kernel, rfl, by decide +kernel, by decide +kernel⟩
theorem sc_Sums_sum_of_lone : FnScope ["self", "number"] ["self", "number"] (defScope s_Sums_sum_of_lone) := ⟨rfl, rfl, rfl, by decide +kernel, rfl, by decide +kernel, by decide +kernel⟩
theorem sc_Halves_word : FnScope ["self"] ["self"] (defScope s_Halves_word) := ⟨rfl, rfl, rfl, by decide +kernel, rfl, by decide +kernel, by decide +kernel⟩
theorem sc_Halves_sum_of_pair : FnScope ["self", "first", "second"] ["self", "first", "second"] (defScope s_Halves_sum_of_pair) := ⟨rfl, rfl, rfl, by decide +kernel, rfl, by decide +kernel, by decide +kernel⟩
theorem sc_Halves_sum_of_lone : FnScope ["self", "number"] ["self", "number"] (defScope s_Halves_sum_of_lone) := ⟨rfl, rfl, rfl, by decide +kernel, rfl, by decide +kernel, by decide +kernel⟩
theorem sc_near : FnScope ["numbers", "at"] ["numbers", "at"] (defScope s_near) := ⟨rfl, rfl, rfl, by decide +kernel, rfl, by decide +kernel, by decide +kernel⟩
theorem sc_guesses : FnScope ["firsts", "many"] ["firsts", "many"] (defScope s_guesses) := ⟨rfl, rfl, rfl, by decide +kernel, rfl, by decide +kernel, by decide +kernel⟩
def blk_guesses_1_sc : Scope := { kind := .function, names := [(".0", .local), ("at", .local), ("near", .globalImplicit), ("firsts", .free)], isGenerator := false, isCoroutine := false, more := [] }
theorem blk_guesses_1 : Blk ["firsts", "many"] (defScope s_guesses) blk_guesses_1_sc ["at", "firsts"] [none, some 0] := ⟨rfl, by decide +kernel, by decide +kernel, by decide +kernel, by decide +kernel, rfl, by decide +kernel⟩
theorem sc_lifts : FnScope ["differences", "many"] ["differences", "many"] (defScope s_lifts) := ⟨rfl, rfl, rfl, by decide +kernel, rfl, by decide +kernel, by decide +kernel⟩
def blk_lifts_1_sc : Scope := { kind := .function, names := [(".0", .local), ("at", .local), ("near", .globalImplicit), ("differences", .free)], isGenerator := false, isCoroutine := false, more := [] }
theorem blk_lifts_1 : Blk ["differences", "many"] (defScope s_lifts) blk_lifts_1_sc ["at", "differences"] [none, some 0] := ⟨rfl, by decide +kernel, by decide +kernel, by decide +kernel, by decide +kernel, rfl, by decide +kernel⟩
theorem sc_leans : FnScope ["sums", "many"] ["sums", "many"] (defScope s_leans) := ⟨rfl, rfl, rfl, by decide +kernel, rfl, by decide +kernel, by decide +kernel⟩
def blk_leans_1_sc : Scope := { kind := .function, names := [(".0", .local), ("at", .local), ("near", .globalImplicit), ("sums", .free)], isGenerator := false, isCoroutine := false, more := [] }
theorem blk_leans_1 : Blk ["sums", "many"] (defScope s_leans) blk_leans_1_sc ["at", "sums"] [none, some 0] := ⟨rfl, by decide +kernel, by decide +kernel, by decide +kernel, by decide +kernel, rfl, by decide +kernel⟩
theorem sc_Guessed_word : FnScope ["self"] ["self"] (defScope s_Guessed_word) := ⟨rfl, rfl, rfl, by decide +kernel, rfl, by decide +kernel, by decide +kernel⟩
theorem sc_Guessed_parted : FnScope ["self", "row", "firsts", "seconds", "differences", "sums"] ["self", "row"] (defScope s_Guessed_parted) := ⟨rfl, rfl, rfl, by decide +kernel, rfl, by decide +kernel, by decide +kernel⟩
def blk_Guessed_parted_1_sc : Scope := { kind := .function, names := [(".0", .local), ("first", .local), ("lift", .local)], isGenerator := false, isCoroutine := false, more := [] }
theorem blk_Guessed_parted_1 : Blk ["self", "row", "firsts", "seconds", "differences", "sums"] (defScope s_Guessed_parted) blk_Guessed_parted_1_sc ["first", "lift"] [none, none] := ⟨rfl, by decide +kernel, by decide +kernel, by decide +kernel, by decide +kernel, rfl, by decide +kernel⟩
def blk_Guessed_parted_2_sc : Scope := { kind := .function, names := [(".0", .local), ("second", .local), ("guess", .local)], isGenerator := false, isCoroutine := false, more := [] }
theorem blk_Guessed_parted_2 : Blk ["self", "row", "firsts", "seconds", "differences", "sums"] (defScope s_Guessed_parted) blk_Guessed_parted_2_sc ["second", "guess"] [none, none] := ⟨rfl, by decide +kernel, by decide +kernel, by decide +kernel, by decide +kernel, rfl, by decide +kernel⟩
theorem sc_Leaning_word : FnScope ["self"] ["self"] (defScope s_Leaning_word) := ⟨rfl, rfl, rfl, by decide +kernel, rfl, by decide +kernel, by decide +kernel⟩
theorem sc_Leaning_parted : FnScope ["self", "row", "sums", "gaps"] ["self", "row"] (defScope s_Leaning_parted) := ⟨rfl, rfl, rfl, by decide +kernel, rfl, by decide +kernel, by decide +kernel⟩
def blk_Leaning_parted_1_sc : Scope := { kind := .function, names := [(".0", .local), ("gap", .local), ("lean", .local)], isGenerator := false, isCoroutine := false, more := [] }
theorem blk_Leaning_parted_1 : Blk ["self", "row", "sums", "gaps"] (defScope s_Leaning_parted) blk_Leaning_parted_1_sc ["gap", "lean"] [none, none] := ⟨rfl, by decide +kernel, by decide +kernel, by decide +kernel, by decide +kernel, rfl, by decide +kernel⟩
theorem sc_all_rules : FnScope [] [] (defScope s_all_rules) := ⟨rfl, rfl, rfl, by decide +kernel, rfl, by decide +kernel, by decide +kernel⟩
theorem sc_rule_of : FnScope ["word", "rule"] ["word"] (defScope s_rule_of) := ⟨rfl, rfl, rfl, by decide +kernel, rfl, by decide +kernel, by decide +kernel⟩
theorem sc__law_cell : FnScope ["_law_script", "_law_k"] ["_law_script", "_law_k"] (defScope s__law_cell) := ⟨rfl, rfl, rfl, by decide +kernel, rfl, by decide +kernel, by decide +kernel⟩
theorem sc__law_box : FnScope ["_law_cell_here"] ["_law_cell_here"] (defScope s__law_box) := ⟨rfl, rfl, rfl, by decide +kernel, rfl, by decide +kernel, by decide +kernel⟩
theorem sc__law_take : FnScope ["_law_box_here", "_law_many", "_law_digit", "_law_far", "_law_number"] ["_law_box_here", "_law_many"] (defScope s__law_take) := ⟨rfl, rfl, rfl, by decide +kernel, rfl, by decide +kernel, by decide +kernel⟩
theorem sc__law_bent : FnScope ["_law_box_here", "_law_way", "_law_many", "_law_first", "_law_step", "_law_bend"] ["_law_box_here"] (defScope s__law_bent) := ⟨rfl, rfl, rfl, by decide +kernel, rfl, by decide +kernel, by decide +kernel⟩
theorem sc__law_noughts : FnScope ["_law_numbers", "_law_number"] ["_law_numbers"] (defScope s__law_noughts) := ⟨rfl, rfl, rfl, by decide +kernel, rfl, by decide +kernel, by decide +kernel⟩
theorem sc__law_all_right : FnScope ["_law_first", "_law_step", "_law_bend", "_law_many", "_law_row", "_law_word", "_law_found"] ["_law_first", "_law_step", "_law_bend", "_law_many"] (defScope s__law_all_right) := ⟨rfl, rfl, rfl, by decide +kernel, rfl, by decide +kernel, by decide +kernel⟩
def blk__law_all_right_1_sc : Scope := { kind := .function, names := [(".0", .local), ("_law_number", .local), ("_law_bend", .free)], isGenerator := false, isCoroutine := false, more := [] }
theorem blk__law_all_right_1 : Blk ["_law_first", "_law_step", "_law_bend", "_law_many", "_law_row", "_law_word", "_law_found"] (defScope s__law_all_right) blk__law_all_right_1_sc ["_law_number", "_law_bend"] [none, some 2] := ⟨rfl, by decide +kernel, by decide +kernel, by decide +kernel, by decide +kernel, rfl, by decide +kernel⟩
def blk__law_all_right_2_sc : Scope := { kind := .function, names := [(".0", .local), ("_law_k", .local), ("_law_bend", .free), ("_law_first", .free), ("_law_step", .free)], isGenerator := false, isCoroutine := false, more := [] }
theorem blk__law_all_right_2 : Blk ["_law_first", "_law_step", "_law_bend", "_law_many", "_law_row", "_law_word", "_law_found"] (defScope s__law_all_right) blk__law_all_right_2_sc ["_law_k", "_law_bend", "_law_first", "_law_step"] [none, some 2, some 0, some 1] := ⟨rfl, by decide +kernel, by decide +kernel, by decide +kernel, by decide +kernel, rfl, by decide +kernel⟩
theorem sc_law : FnScope ["_law_script", "_law_k", "_law_box_here", "_law_first", "_law_step", "_law_bend", "_law_many", "_law_at", "_law_more", "_law_turn", "_law_other", "_law_found"] ["_law_script"] (defScope s_law) := ⟨rfl, rfl, rfl, by decide +kernel, rfl, by decide +kernel, by decide +kernel⟩
def blk_law_1_sc : Scope := { kind := .function, names := [(".0", .local), ("_law_j", .local), ("_law_bend", .free), ("_law_first", .free), ("_law_step", .free)], isGenerator := false, isCoroutine := false, more := [] }
theorem blk_law_1 : Blk ["_law_script", "_law_k", "_law_box_here", "_law_first", "_law_step", "_law_bend", "_law_many", "_law_at", "_law_more", "_law_turn", "_law_other", "_law_found"] (defScope s_law) blk_law_1_sc ["_law_j", "_law_bend", "_law_first", "_law_step"] [none, some 5, some 3, some 4] := ⟨rfl, by decide +kernel, by decide +kernel, by decide +kernel, by decide +kernel, rfl, by decide +kernel⟩
structure Ad where
  C_Guessed : Addr
  C_Halves : Addr
  C_Leaning : Addr
  C_Sums : Addr
  f_is_whole : Addr
  fd_is_whole : FuncData
  f_is_number : Addr
  fd_is_number : FuncData
  f_is_row : Addr
  fd_is_row : FuncData
  f_pairs_of : Addr
  fd_pairs_of : FuncData
  f_gaps_of : Addr
  fd_gaps_of : FuncData
  f_Sums_word : Addr
  fd_Sums_word : FuncData
  f_Sums_halves : Addr
  fd_Sums_halves : FuncData
  f_Sums_parted : Addr
  fd_Sums_parted : FuncData
  f_Sums_sums_of : Addr
  fd_Sums_sums_of : FuncData
  f_Sums_sum_of_pair : Addr
  fd_Sums_sum_of_pair : FuncData
  f_Sums_sum_of_lone : Addr
  fd_Sums_sum_of_lone : FuncData
  f_Halves_word : Addr
  fd_Halves_word : FuncData
  f_Halves_sum_of_pair : Addr
  fd_Halves_sum_of_pair : FuncData
  f_Halves_sum_of_lone : Addr
  fd_Halves_sum_of_lone : FuncData
  f_near : Addr
  fd_near : FuncData
  f_guesses : Addr
  fd_guesses : FuncData
  f_lifts : Addr
  fd_lifts : FuncData
  f_leans : Addr
  fd_leans : FuncData
  f_Guessed_word : Addr
  fd_Guessed_word : FuncData
  f_Guessed_parted : Addr
  fd_Guessed_parted : FuncData
  f_Leaning_word : Addr
  fd_Leaning_word : FuncData
  f_Leaning_parted : Addr
  fd_Leaning_parted : FuncData
  f_all_rules : Addr
  fd_all_rules : FuncData
  f_rule_of : Addr
  fd_rule_of : FuncData
  f__law_cell : Addr
  fd__law_cell : FuncData
  f__law_box : Addr
  fd__law_box : FuncData
  f__law_take : Addr
  fd__law_take : FuncData
  f__law_bent : Addr
  fd__law_bent : FuncData
  f__law_noughts : Addr
  fd__law_noughts : FuncData
  f__law_all_right : Addr
  fd__law_all_right : FuncData
  f_law : Addr
  fd_law : FuncData
structure Txt (K : PySem.W.Frag) (mg : Str → Option Value) (a : Ad) : Prop where
  cl_Guessed : Cls K a.C_Guessed
  mC_Guessed : mg "Guessed" = some (.ref a.C_Guessed)
  mk_Guessed : Mk0 K a.C_Guessed
  cl_Halves : Cls K a.C_Halves
  mC_Halves : mg "Halves" = some (.ref a.C_Halves)
  mk_Halves : Mk0 K a.C_Halves
  cl_Leaning : Cls K a.C_Leaning
  mC_Leaning : mg "Leaning" = some (.ref a.C_Leaning)
  mk_Leaning : Mk0 K a.C_Leaning
  cl_Sums : Cls K a.C_Sums
  mC_Sums : mg "Sums" = some (.ref a.C_Sums)
  mk_Sums : Mk0 K a.C_Sums
  F_is_whole : Fun K "is_whole" "is_whole" s_is_whole a.f_is_whole a.fd_is_whole
  b_is_whole : Binds K a.fd_is_whole ["thing", "low", "high"] []
  m_is_whole : mg "is_whole" = some (.ref a.f_is_whole)
  F_is_number : Fun K "is_number" "is_number" s_is_number a.f_is_number a.fd_is_number
  b_is_number : Binds K a.fd_is_number ["thing"] []
  m_is_number : mg "is_number" = some (.ref a.f_is_number)
  F_is_row : Fun K "is_row" "is_row" s_is_row a.f_is_row a.fd_is_row
  b_is_row : Binds K a.fd_is_row ["thing", "least"] []
  m_is_row : mg "is_row" = some (.ref a.f_is_row)
  F_pairs_of : Fun K "pairs_of" "pairs_of" s_pairs_of a.f_pairs_of a.fd_pairs_of
  b_pairs_of : Binds K a.fd_pairs_of ["row"] []
  m_pairs_of : mg "pairs_of" = some (.ref a.f_pairs_of)
  F_gaps_of : Fun K "gaps_of" "gaps_of" s_gaps_of a.f_gaps_of a.fd_gaps_of
  b_gaps_of : Binds K a.fd_gaps_of ["row"] []
  m_gaps_of : mg "gaps_of" = some (.ref a.f_gaps_of)
  F_Sums_word : Fun K "word" "Sums.word" s_Sums_word a.f_Sums_word a.fd_Sums_word
  b_Sums_word : Binds K a.fd_Sums_word ["self"] []
  F_Sums_halves : Fun K "halves" "Sums.halves" s_Sums_halves a.f_Sums_halves a.fd_Sums_halves
  b_Sums_halves : Binds K a.fd_Sums_halves ["self", "row"] []
  F_Sums_parted : Fun K "parted" "Sums.parted" s_Sums_parted a.f_Sums_parted a.fd_Sums_parted
  b_Sums_parted : Binds K a.fd_Sums_parted ["self", "row"] []
  F_Sums_sums_of : Fun K "sums_of" "Sums.sums_of" s_Sums_sums_of a.f_Sums_sums_of a.fd_Sums_sums_of
  b_Sums_sums_of : Binds K a.fd_Sums_sums_of ["self", "row"] []
  F_Sums_sum_of_pair : Fun K "sum_of_pair" "Sums.sum_of_pair" s_Sums_sum_of_pair a.f_Sums_sum_of_pair a.fd_Sums_sum_of_pair
  b_Sums_sum_of_pair : Binds K a.fd_Sums_sum_of_pair ["self", "first", "second"] []
  F_Sums_sum_of_lone : Fun K "sum_of_lone" "Sums.sum_of_lone" s_Sums_sum_of_lone a.f_Sums_sum_of_lone a.fd_Sums_sum_of_lone
  b_Sums_sum_of_lone : Binds K a.fd_Sums_sum_of_lone ["self", "number"] []
  F_Halves_word : Fun K "word" "Halves.word" s_Halves_word a.f_Halves_word a.fd_Halves_word
  b_Halves_word : Binds K a.fd_Halves_word ["self"] []
  F_Halves_sum_of_pair : Fun K "sum_of_pair" "Halves.sum_of_pair" s_Halves_sum_of_pair a.f_Halves_sum_of_pair a.fd_Halves_sum_of_pair
  b_Halves_sum_of_pair : Binds K a.fd_Halves_sum_of_pair ["self", "first", "second"] []
  F_Halves_sum_of_lone : Fun K "sum_of_lone" "Halves.sum_of_lone" s_Halves_sum_of_lone a.f_Halves_sum_of_lone a.fd_Halves_sum_of_lone
  b_Halves_sum_of_lone : Binds K a.fd_Halves_sum_of_lone ["self", "number"] []
  F_near : Fun K "near" "near" s_near a.f_near a.fd_near
  b_near : Binds K a.fd_near ["numbers", "at"] []
  m_near : mg "near" = some (.ref a.f_near)
  F_guesses : Fun K "guesses" "guesses" s_guesses a.f_guesses a.fd_guesses
  b_guesses : Binds K a.fd_guesses ["firsts", "many"] []
  m_guesses : mg "guesses" = some (.ref a.f_guesses)
  F_lifts : Fun K "lifts" "lifts" s_lifts a.f_lifts a.fd_lifts
  b_lifts : Binds K a.fd_lifts ["differences", "many"] []
  m_lifts : mg "lifts" = some (.ref a.f_lifts)
  F_leans : Fun K "leans" "leans" s_leans a.f_leans a.fd_leans
  b_leans : Binds K a.fd_leans ["sums", "many"] []
  m_leans : mg "leans" = some (.ref a.f_leans)
  F_Guessed_word : Fun K "word" "Guessed.word" s_Guessed_word a.f_Guessed_word a.fd_Guessed_word
  b_Guessed_word : Binds K a.fd_Guessed_word ["self"] []
  F_Guessed_parted : Fun K "parted" "Guessed.parted" s_Guessed_parted a.f_Guessed_parted a.fd_Guessed_parted
  b_Guessed_parted : Binds K a.fd_Guessed_parted ["self", "row"] []
  F_Leaning_word : Fun K "word" "Leaning.word" s_Leaning_word a.f_Leaning_word a.fd_Leaning_word
  b_Leaning_word : Binds K a.fd_Leaning_word ["self"] []
  F_Leaning_parted : Fun K "parted" "Leaning.parted" s_Leaning_parted a.f_Leaning_parted a.fd_Leaning_parted
  b_Leaning_parted : Binds K a.fd_Leaning_parted ["self", "row"] []
  F_all_rules : Fun K "all_rules" "all_rules" s_all_rules a.f_all_rules a.fd_all_rules
  b_all_rules : Binds K a.fd_all_rules [] []
  m_all_rules : mg "all_rules" = some (.ref a.f_all_rules)
  F_rule_of : Fun K "rule_of" "rule_of" s_rule_of a.f_rule_of a.fd_rule_of
  b_rule_of : Binds K a.fd_rule_of ["word"] []
  m_rule_of : mg "rule_of" = some (.ref a.f_rule_of)
  F__law_cell : Fun K "_law_cell" "_law_cell" s__law_cell a.f__law_cell a.fd__law_cell
  b__law_cell : Binds K a.fd__law_cell ["_law_script", "_law_k"] []
  m__law_cell : mg "_law_cell" = some (.ref a.f__law_cell)
  F__law_box : Fun K "_law_box" "_law_box" s__law_box a.f__law_box a.fd__law_box
  b__law_box : Binds K a.fd__law_box ["_law_cell_here"] []
  m__law_box : mg "_law_box" = some (.ref a.f__law_box)
  F__law_take : Fun K "_law_take" "_law_take" s__law_take a.f__law_take a.fd__law_take
  b__law_take : Binds K a.fd__law_take ["_law_box_here", "_law_many"] []
  m__law_take : mg "_law_take" = some (.ref a.f__law_take)
  F__law_bent : Fun K "_law_bent" "_law_bent" s__law_bent a.f__law_bent a.fd__law_bent
  b__law_bent : Binds K a.fd__law_bent ["_law_box_here"] []
  m__law_bent : mg "_law_bent" = some (.ref a.f__law_bent)
  F__law_noughts : Fun K "_law_noughts" "_law_noughts" s__law_noughts a.f__law_noughts a.fd__law_noughts
  b__law_noughts : Binds K a.fd__law_noughts ["_law_numbers"] []
  m__law_noughts : mg "_law_noughts" = some (.ref a.f__law_noughts)
  F__law_all_right : Fun K "_law_all_right" "_law_all_right" s__law_all_right a.f__law_all_right a.fd__law_all_right
  b__law_all_right : Binds K a.fd__law_all_right ["_law_first", "_law_step", "_law_bend", "_law_many"] []
  m__law_all_right : mg "_law_all_right" = some (.ref a.f__law_all_right)
  F_law : Fun K "law" "law" s_law a.f_law a.fd_law
  b_law : Binds K a.fd_law ["_law_script"] []
  m_law : mg "law" = some (.ref a.f_law)
  me_Guessed_word : Meth K a.C_Guessed "word" a.f_Guessed_word
  me_Guessed_parted : Meth K a.C_Guessed "parted" a.f_Guessed_parted
  me_Guessed_halves : Meth K a.C_Guessed "halves" a.f_Sums_halves
  me_Guessed_sums_of : Meth K a.C_Guessed "sums_of" a.f_Sums_sums_of
  me_Guessed_sum_of_pair : Meth K a.C_Guessed "sum_of_pair" a.f_Sums_sum_of_pair
  me_Guessed_sum_of_lone : Meth K a.C_Guessed "sum_of_lone" a.f_Sums_sum_of_lone
  me_Halves_word : Meth K a.C_Halves "word" a.f_Halves_word
  me_Halves_sum_of_pair : Meth K a.C_Halves "sum_of_pair" a.f_Halves_sum_of_pair
  me_Halves_sum_of_lone : Meth K a.C_Halves "sum_of_lone" a.f_Halves_sum_of_lone
  me_Halves_halves : Meth K a.C_Halves "halves" a.f_Sums_halves
  me_Halves_parted : Meth K a.C_Halves "parted" a.f_Sums_parted
  me_Halves_sums_of : Meth K a.C_Halves "sums_of" a.f_Sums_sums_of
  me_Leaning_word : Meth K a.C_Leaning "word" a.f_Leaning_word
  me_Leaning_parted : Meth K a.C_Leaning "parted" a.f_Leaning_parted
  me_Leaning_sum_of_pair : Meth K a.C_Leaning "sum_of_pair" a.f_Halves_sum_of_pair
  me_Leaning_sum_of_lone : Meth K a.C_Leaning "sum_of_lone" a.f_Halves_sum_of_lone
  me_Leaning_halves : Meth K a.C_Leaning "halves" a.f_Sums_halves
  me_Leaning_sums_of : Meth K a.C_Leaning "sums_of" a.f_Sums_sums_of
  me_Sums_word : Meth K a.C_Sums "word" a.f_Sums_word
  me_Sums_halves : Meth K a.C_Sums "halves" a.f_Sums_halves
  me_Sums_parted : Meth K a.C_Sums "parted" a.f_Sums_parted
  me_Sums_sums_of : Meth K a.C_Sums "sums_of" a.f_Sums_sums_of
  me_Sums_sum_of_pair : Meth K a.C_Sums "sum_of_pair" a.f_Sums_sum_of_pair
  me_Sums_sum_of_lone : Meth K a.C_Sums "sum_of_lone" a.f_Sums_sum_of_lone
  c_MOST_NUMBER : ∃ t, mg "MOST_NUMBER" = some (.int 999999999999999 t)
  c_MOST_SIDE : ∃ t, mg "MOST_SIDE" = some (.int 64 t)
  z_all : mg "all" = none
  z_bool : mg "bool" = none
  z_int : mg "int" = none
  z_isinstance : mg "isinstance" = none
  z_len : mg "len" = none
  z_list : mg "list" = none
  z_max : mg "max" = none
  z_min : mg "min" = none
  z_range : mg "range" = none
  z_zip : mg "zip" = none
  ty : TyFacts K
abbrev il (ns : List Int) : D := .lst (ns.map .int)
def Fig (ns : List Int) : Prop := ∀ n ∈ ns, -1000000000000000 < n ∧ n < 1000000000000000
theorem snoc {f : Nat → D} {k : Nat} {d : D} (h : d = f k) : (List.range k).map f ++ [d] = (List.range (k + 1)).map f := by
  rw [List.range_succ, List.map_append, h]; rfl
theorem ints_get {ns : List Int} {k : Nat} {d : D} (h : (ns.map D.int)[k]? = some d) : k < ns.length ∧ d = .int (ns.getD k 0) := by
  have lt : k < ns.length := by have := (List.getElem?_eq_some_iff.mp h).1; simpa using this
  rw [List.getElem?_map, List.getElem?_eq_getElem lt] at h
  cases h
  exact ⟨lt, by simp [List.getD, lt]⟩
theorem map_get {f : Nat → D} {k n : Nat} {d : D} (h : ((List.range n).map f)[k]? = some d) : k < n ∧ d = f k := by
  have lt : k < n := by have := (List.getElem?_eq_some_iff.mp h).1; simpa using this
  rw [List.getElem?_map, List.getElem?_range lt] at h
  cases h
  exact ⟨lt, rfl⟩
theorem fig_get {ns : List Int} (f : Fig ns) {k : Nat} (h : k < ns.length) : -1000000000000000 < ns.getD k 0 ∧ ns.getD k 0 < 1000000000000000 := by
  have : ns.getD k 0 = ns[k] := by simp [List.getD, h]
  rw [this]; exact f _ (List.getElem_mem h)
theorem small {n : Nat} (h : n ≤ 1000) : n < sizeLine := by rw [sizeLine_eq]; omega
theorem rg_eq (f : Nat → Int) (n : Nat) : (List.range n).map (fun j => D.int (f j)) = ((List.range n).map f).map D.int := by rw [List.map_map]; rfl
theorem pk_map {α β : Type} (f : α → β) (xs : List α) (lo hi st : Option Int) : pk (xs.map f) lo hi st = (pk xs lo hi st).map f := by
  unfold pk
  rw [List.length_map, List.map_filterMap]
  congr 1
  funext x
  rw [List.getElem?_map]
theorem pk0 (ns : List Int) : pk (ns.map D.int) (some 0) none (some 2) = (List.range ((ns.length + 1) / 2)).map fun k => D.int (ns.getD (2 * k) 0) := by
  have h := pick0 ns
  have e : pickV (ns.map V.int) (some 0) none (some 2) = (pk ns (some 0) none (some 2)).map V.int := pk_map V.int ns _ _ _
  rw [e, show (List.range ((ns.length + 1) / 2)).map (fun k => V.int (ns.getD (2 * k) 0)) = ((List.range ((ns.length + 1) / 2)).map fun k => ns.getD (2 * k) 0).map V.int by rw [List.map_map]; rfl] at h
  have inj : ∀ {a b : List Int}, a.map V.int = b.map V.int → a = b := fun {a b} h => List.map_inj_right (fun _ _ q => by cases q; rfl) |>.mp h
  rw [pk_map, inj h, List.map_map]; rfl
theorem pk1 (ns : List Int) : pk (ns.map D.int) (some 1) none (some 2) = (List.range (ns.length / 2)).map fun k => D.int (ns.getD (2 * k + 1) 0) := by
  have h := pick1 ns
  have e : pickV (ns.map V.int) (some 1) none (some 2) = (pk ns (some 1) none (some 2)).map V.int := pk_map V.int ns _ _ _
  rw [e, show (List.range (ns.length / 2)).map (fun k => V.int (ns.getD (2 * k + 1) 0)) = ((List.range (ns.length / 2)).map fun k => ns.getD (2 * k + 1) 0).map V.int by rw [List.map_map]; rfl] at h
  have inj : ∀ {a b : List Int}, a.map V.int = b.map V.int → a = b := fun {a b} h => List.map_inj_right (fun _ _ q => by cases q; rfl) |>.mp h
  rw [pk_map, inj h, List.map_map]; rfl
def pairsD (ns : List Int) : List D := (List.range (ns.length / 2)).map fun j => .tup [.int (ns.getD (2 * j) 0), .int (ns.getD (2 * j + 1) 0)]
theorem zip_pairs (ns : List Int) : zipD ((List.range ((ns.length + 1) / 2)).map fun k => D.int (ns.getD (2 * k) 0)) ((List.range (ns.length / 2)).map fun k => D.int (ns.getD (2 * k + 1) 0)) = pairsD ns := by
  refine List.ext_getElem? fun i => ?_
  unfold zipD pairsD
  by_cases h : i < ns.length / 2
  · rw [List.getElem?_map, List.getElem?_map, List.getElem?_range h]
    have : ((List.map (fun k => D.int (ns.getD (2 * k) 0)) (List.range ((ns.length + 1) / 2))).zip (List.map (fun k => D.int (ns.getD (2 * k + 1) 0)) (List.range (ns.length / 2))))[i]? = some (D.int (ns.getD (2 * i) 0), D.int (ns.getD (2 * i + 1) 0)) := by
      rw [List.getElem?_zip_eq_some]
      exact ⟨by rw [List.getElem?_map, List.getElem?_range (by omega)]; rfl, by rw [List.getElem?_map, List.getElem?_range h]; rfl⟩
    rw [this]; rfl
  · rw [List.getElem?_eq_none (by simp; omega), List.getElem?_eq_none (by simp; omega)]
section
variable {P : Program} {w : World} {K : PySem.W.Frag} {mg : Str → Option Value} {base : Heap} {a : Ad}
def whD (d : D) (lo hi : Int) : Bool := match d with
  | .int i => decide (lo ≤ i) && decide (i ≤ hi)
  | _ => false
def whole_s : S3 := fun Γ Q => ∃ (d : D) (lo hi : Int), Γ = [some (.fz d), some (.fz (.int lo)), some (.fz (.int hi))] ∧ knD d = true ∧ Q (.fz (.bl (whD d lo hi))) Γ
theorem ok_is_whole (T : Txt K mg a) : FnOk P w K mg base CX0 1 a.f_is_whole a.fd_is_whole ["thing", "low", "high"] (sp3 K 3 whole_s) := by
  refine ok3 T.F_is_whole sc_is_whole (hbody := fun cdv A outer s H E hr => ⟨_, _, (q3_cons (s3_if (P3W.pt (p3w_or (p3t_val (p3_callB (c_isB T.ty) (by rfl) T.z_isinstance (by decide +kernel) (b3a_cons (bv 0) (b3a_cons (P3.opd (p3_ty (n := "bool") (by rfl) T.z_bool (by decide +kernel))) b3a_nil)))) (p3w_or1 (p3t_not (p3t_val (p3_callB (c_isI T.ty) (by rfl) T.z_isinstance (by decide +kernel) (b3a_cons (bv 0) (b3a_cons (P3.opd (p3_ty (n := "int") (by rfl) T.z_int (by decide +kernel))) b3a_nil)))))))) (q3_one (s3_ret p3_bl)) q3_nil)
      (q3_one (s3_ret (p3_chain c3_le c3_le (bv 1) (bv 0) (bv 2))))), fun Γa Q h hl => ?_⟩)
  obtain ⟨d, lo, hi, rfl, hk, q⟩ := h
  cases d <;> (try cases hk) <;> walk_at "x3" <;> (try exact q)
  rename_i i
  by_cases h : lo ≤ i
  · simp only [f_le, h, decide_true]
    simpa only [whD, h, decide_true, Bool.true_and] using q
  · simp only [f_le, h, decide_false]
    simpa only [whD, h, decide_false, Bool.false_and] using q
def number_s : S3 := fun Γ Q => ∃ (d : D), Γ = [some (.fz d)] ∧ knD d = true ∧ Q (.fz (.bl (whD d (-999999999999999) 999999999999999))) Γ
theorem ok_is_number (T : Txt K mg a) : FnOk P w K mg base CX0 2 a.f_is_number a.fd_is_number ["thing"] (sp3 K 1 number_s) := by
  refine ok3 T.F_is_number sc_is_number (hbody := fun cdv A outer s H E hr => ⟨_, _, (q3_one (s3_ret (p3_call (by rfl) (ok_is_whole T) (hr.mono (by decide)) (by rfl) T.m_is_whole T.F_is_whole.kp T.b_is_whole (b3a_cons (P3.opd (p3v 0)) (b3a_cons (P3.opd (p3_neg (P3.opd (p3_gint (i := 999999999999999) (by rfl) T.c_MOST_NUMBER)))) (b3a_cons (P3.opd (p3_gint (i := 999999999999999) (by rfl) T.c_MOST_NUMBER)) b3a_nil)))))), fun Γa Q h hl => ?_⟩)
  obtain ⟨d, rfl, hk, q⟩ := h
  walk_at "x3"
  exact ⟨d, _, _, rfl, hk, q⟩
theorem whD_fig {n : Int} (h : -1000000000000000 < n ∧ n < 1000000000000000) : whD (.int n) (-999999999999999) 999999999999999 = true := by
  simp only [whD, Bool.and_eq_true, decide_eq_true_eq]; omega
def row_s : S3 := fun Γ Q => ∃ (ns : List Int) (least : Int), Γ = [some (.fz (il ns)), some (.fz (.int least))] ∧ Fig ns ∧ ns.length ≤ 64 ∧ least ≤ (ns.length : Int) ∧ Q (.fz (.bl true)) Γ
theorem ok_is_row (T : Txt K mg a) : FnOk P w K mg base CX0 3 a.f_is_row a.fd_is_row ["thing", "least"] (sp3 K 2 row_s) := by
  refine ok3 T.F_is_row sc_is_row (hbody := fun cdv A outer s H E hr => ⟨_, _, (q3_cons (s3_if (P3W.pt (p3w_or (p3t_not (p3t_val (p3_callB (c_isL T.ty) (by rfl) T.z_isinstance (by decide +kernel) (b3a_cons (bv 0) (b3a_cons (P3.opd (p3_ty (n := "list") (by rfl) T.z_list (by decide +kernel))) b3a_nil))))) (p3w_or1 (p3t_not (p3t_chain c3_le c3_le (bv 1) (P3.opd (p3_callB (c_len (by rfl)) (by rfl) T.z_len (by decide +kernel) (b3a_cons (bv 0) b3a_nil))) (P3.opd (p3_gint (i := 64) (by rfl) T.c_MOST_SIDE))))))) (q3_one (s3_ret p3_bl)) q3_nil)
      (q3_one (s3_ret (p3_callB (c_all (by rfl) rfl) (by rfl) T.z_all (by decide +kernel) (b3a_cons (P3.opd (p3_comp rfl (i3_list (by rfl) (p3v 0)) blk_is_row_1 (fun _ _ _ _ _ => (g3_name (i := 0) blk_is_row_1.nd rfl (Or.inl rfl))) (fun _ _ _ _ _ => (p3_call (by rfl) (ok_is_number T) (hr.mono (by decide)) (by rfl) T.m_is_number T.F_is_number.kp T.b_is_number (b3a_cons (P3.opd (p3v 0)) b3a_nil))))) b3a_nil))))), fun Γa Q h hl => ?_⟩)
  obtain ⟨ns, least, rfl, hf, h1, h2, q⟩ := h
  walk_at "x3"
  rw [List.length_map, show f_le least (ns.length : Int) = true by simp only [f_le, h2, decide_true], show f_le (ns.length : Int) 64 = true by simp only [f_le, decide_eq_true_eq]; omega]
  walk_at "x3"
  unfold comp3
  walk_at "x3"
  refine ⟨small (by rw [List.length_map]; omega), fun k ys Γc => ys = (List.range k).map (fun _ => D.bl true) ∧ ∃ s, Γc = [fo s], ⟨rfl, none, rfl⟩, ?_, ?_⟩
  · rintro k d ys Γc hd hk ⟨rfl, s, rfl⟩
    obtain ⟨lt, rfl⟩ := ints_get hd
    walk_at "x3"
    refine ⟨_, rfl, rfl, ?_⟩
    rw [whD_fig (fig_get hf lt)]
    walk_at "x3"
    exact ⟨snoc rfl, some _, rfl⟩
  · rintro ys Γc hk ⟨rfl, s, rfl⟩
    walk_at "x3"
    refine ⟨(List.range ns.length).map fun _ => true, by rw [List.length_map, List.map_map]; rfl, ?_⟩
    have : ((List.range ns.length).map fun _ => true).all id = true := by simp
    rw [this]; exact q
def i2_s (f : Int → Int → Int) : S3 := fun Γ Q => ∃ (d : D) (x y : Int), Γ = [some (.fz d), some (.fz (.int x)), some (.fz (.int y))] ∧ Q (.fz (.int (f x y))) Γ
def i1_s (f : Int → Int) : S3 := fun Γ Q => ∃ (d : D) (x : Int), Γ = [some (.fz d), some (.fz (.int x))] ∧ Q (.fz (.int (f x))) Γ
theorem ok_Sums_sum_of_pair (T : Txt K mg a) : FnOk P w K mg base CX0 1 a.f_Sums_sum_of_pair a.fd_Sums_sum_of_pair ["self", "first", "second"] (sp3 K 3 (i2_s fun x y => x + y)) := by
  refine ok3 T.F_Sums_sum_of_pair sc_Sums_sum_of_pair (hbody := fun cdv A outer s H E hr => ⟨_, _, (q3_one (s3_ret (p3_add (bv 1) (bv 2)))), fun Γa Q h hl => ?_⟩)
  obtain ⟨d, x, y, rfl, q⟩ := h
  walk_at "x3"
  exact q
theorem ok_Sums_sum_of_lone (T : Txt K mg a) : FnOk P w K mg base CX0 1 a.f_Sums_sum_of_lone a.fd_Sums_sum_of_lone ["self", "number"] (sp3 K 2 (i1_s fun x => 2 * x)) := by
  refine ok3 T.F_Sums_sum_of_lone sc_Sums_sum_of_lone (hbody := fun cdv A outer s H E hr => ⟨_, _, (q3_one (s3_ret (p3_mul (P3.opd p3_int) (bv 1)))), fun Γa Q h hl => ?_⟩)
  obtain ⟨d, x, rfl, q⟩ := h
  walk_at "x3"
  exact ⟨.inl ⟨by decide, by decide⟩, q⟩
theorem ok_Halves_sum_of_pair (T : Txt K mg a) : FnOk P w K mg base CX0 1 a.f_Halves_sum_of_pair a.fd_Halves_sum_of_pair ["self", "first", "second"] (sp3 K 3 (i2_s fun x y => (x + y) / 2)) := by
  refine ok3 T.F_Halves_sum_of_pair sc_Halves_sum_of_pair (hbody := fun cdv A outer s H E hr => ⟨_, _, (q3_one (s3_ret (p3_fdiv (P3.opd (p3_add (bv 1) (bv 2))) (P3.opd p3_int)))), fun Γa Q h hl => ?_⟩)
  obtain ⟨d, x, y, rfl, q⟩ := h
  walk_at "x3"
  exact ⟨⟨by decide, by decide⟩, q⟩
theorem ok_Halves_sum_of_lone (T : Txt K mg a) : FnOk P w K mg base CX0 1 a.f_Halves_sum_of_lone a.fd_Halves_sum_of_lone ["self", "number"] (sp3 K 2 (i1_s fun x => x)) := by
  refine ok3 T.F_Halves_sum_of_lone sc_Halves_sum_of_lone (hbody := fun cdv A outer s H E hr => ⟨_, _, (q3_one (s3_ret (p3mv 1))), fun Γa Q h hl => ?_⟩)
  obtain ⟨d, x, rfl, q⟩ := h
  walk_at "x3"
  exact q
def nrF (ns : List Int) (k : Int) : Int := ns.getD (fmin (fmax k 0) ((ns.length : Int) - 1)).toNat 0
def near_s : S3 := fun Γ Q => ∃ (ns : List Int) (k : Int), Γ = [some (.fz (il ns)), some (.fz (.int k))] ∧ 1 ≤ ns.length ∧ Q (.fz (.int (nrF ns k))) Γ
theorem ok_near (T : Txt K mg a) : FnOk P w K mg base CX0 1 a.f_near a.fd_near ["numbers", "at"] (sp3 K 2 near_s) := by
  refine ok3 T.F_near sc_near (hbody := fun cdv A outer s H E hr => ⟨_, _, (q3_one (s3_ret (p3_ix (by rfl) (bv 0) (P3.opd (p3_callB (c_min rfl) (by rfl) T.z_min (by decide +kernel) (b3a_cons (P3.opd (p3_callB (c_max rfl) (by rfl) T.z_max (by decide +kernel) (b3a_cons (bv 1) (b3a_cons (P3.opd p3_int) b3a_nil)))) (b3a_cons (P3.opd (p3_sub (P3.opd (p3_callB (c_len (by rfl)) (by rfl) T.z_len (by decide +kernel) (b3a_cons (bv 0) b3a_nil))) (P3.opd p3_int))) b3a_nil)))) (fun _ _ => rfl)))), fun Γa Q h hl => ?_⟩)
  obtain ⟨ns, k, rfl, h1, q⟩ := h
  walk_at "x3"
  rw [List.length_map]
  exact ⟨_, atI_int (by simp only [fmin, fmax]; split <;> split <;> omega) (by simp only [fmin, fmax]; split <;> split <;> omega), q⟩
def pairs_s : S3 := fun Γ Q => ∃ (ns : List Int), Γ = [some (.fz (il ns))] ∧ ns.length ≤ 64 ∧ Q (.fr (.lst (pairsD ns))) Γ
theorem ok_pairs_of (T : Txt K mg a) : FnOk P w K mg base CX0 1 a.f_pairs_of a.fd_pairs_of ["row"] (sp3 K 1 pairs_s) := by
  refine ok3 T.F_pairs_of sc_pairs_of (hbody := fun cdv A outer s H E hr => ⟨_, _, (q3_one (s3_ret (p3_listzip rfl (by rfl) T.z_list (by rfl) T.z_zip (b3a_cons (P3.opd (p3_slice3 (by rfl) (bv 0) (p3o_some (P3.opd p3_int)) p3o_none (p3o_some (P3.opd p3_int)))) (b3a_cons (P3.opd (p3_slice3 (by rfl) (bv 0) (p3o_some (P3.opd p3_int)) p3o_none (p3o_some (P3.opd p3_int)))) b3a_nil))))), fun Γa Q h hl => ?_⟩)
  obtain ⟨ns, rfl, h1, q⟩ := h
  walk_at "x3"
  refine ⟨by decide, by decide, ?_, ?_⟩
  · rw [pk0, pk1]; simp only [List.length_map, List.length_range, sizeLine_eq]; omega
  · rw [pk0, pk1, zip_pairs]; exact q
def rg (f : Nat → Int) (k : Nat) : List Int := (List.range k).map f
def gapsF (ns : List Int) : List Int := rg (fun j => ns.getD (2 * j) 0 - ns.getD (2 * j + 1) 0) (ns.length / 2)
def list1_s (f : List Int → List Int) : S3 := fun Γ Q => ∃ (ns : List Int), Γ = [some (.fz (il ns))] ∧ ns.length ≤ 64 ∧ Q (.fr (il (f ns))) Γ
theorem ok_gaps_of (T : Txt K mg a) : FnOk P w K mg base CX0 2 a.f_gaps_of a.fd_gaps_of ["row"] (sp3 K 1 (list1_s gapsF)) := by
  refine ok3 T.F_gaps_of sc_gaps_of (hbody := fun cdv A outer s H E hr => ⟨_, _, (q3_one (s3_ret (p3_comp rfl (i3_list (by rfl) (p3_call (by rfl) (ok_pairs_of T) (hr.mono (by decide)) (by rfl) T.m_pairs_of T.F_pairs_of.kp T.b_pairs_of (b3a_cons (P3.opd (p3v 0)) b3a_nil))) blk_gaps_of_1 (fun _ _ _ _ _ => (g3_tup (is := [0, 1]) (by rfl) (pgs_cons (pg_name (i := 0) blk_gaps_of_1.nd rfl (Or.inl rfl)) (pgs_cons (pg_name (i := 1) blk_gaps_of_1.nd rfl (Or.inl rfl)) pgs_nil)) rfl)) (fun _ _ _ _ _ => (p3_sub (bv 0) (bv 1)))))), fun Γa Q h hl => ?_⟩)
  obtain ⟨ns, rfl, h1, q⟩ := h
  walk_at "x3"
  unfold comp3
  walk_at "x3"
  refine ⟨ns, rfl, h1, ?_⟩
  walk_at "x3"
  refine ⟨small (by simp only [pairsD, List.length_map, List.length_range]; omega), fun k ys Γc => ys = (List.range k).map (fun j => D.int (ns.getD (2 * j) 0 - ns.getD (2 * j + 1) 0)) ∧ ∃ s s', Γc = [fo s, fo s'], ⟨rfl, none, none, rfl⟩, ?_, ?_⟩
  · rintro k d ys Γc hd hk ⟨rfl, s, s', rfl⟩
    obtain ⟨lt, rfl⟩ := map_get hd
    walk_at "x3"
    exact ⟨snoc rfl, ⟨some _, rfl⟩, ⟨some _, rfl⟩⟩
  · rintro ys Γc hk ⟨rfl, s, s', rfl⟩
    walk_at "x3"
    simp only [pairsD, List.length_map, List.length_range]
    rw [rg_eq]
    exact q
/-! ### the rules -/
inductive Rl where
  | sum | half | guess | lean
def Rl.cls (a : Ad) : Rl → Addr
  | .sum => a.C_Sums | .half => a.C_Halves | .guess => a.C_Guessed | .lean => a.C_Leaning
abbrev Rl.ob (a : Ad) (R : Rl) : D := .ins (R.cls a) [] []
def sumsF (p : Int → Int → Int) (l : Int → Int) (ns : List Int) : List Int := rg (fun j => p (ns.getD (2 * j) 0) (ns.getD (2 * j + 1) 0)) (ns.length / 2) ++ (if ns.length % 2 = 1 then [l (ns.getD (ns.length - 1) 0)] else [])
def Rl.pair : Rl → Int → Int → Int
  | .sum => fun x y => x + y | _ => fun x y => (x + y) / 2
def Rl.lone : Rl → Int → Int
  | .sum => fun x => 2 * x | _ => fun x => x
def sums_s (a : Ad) : S3 := fun Γ Q => ∃ (R : Rl) (ns : List Int), Γ = [some (.fz (R.ob a)), some (.fz (il ns))] ∧ R ≠ .guess ∧ 2 ≤ ns.length ∧ ns.length ≤ 64 ∧ Q (.fr (il (sumsF R.pair R.lone ns))) Γ
theorem rg_len (f : Nat → Int) (k : Nat) : (rg f k).length = k := by unfold rg; simp
theorem ok_Sums_sums_of (T : Txt K mg a) : FnOk P w K mg base CX0 2 a.f_Sums_sums_of a.fd_Sums_sums_of ["self", "row"] (sp3 K 2 (sums_s a)) := by
  refine ok3 T.F_Sums_sums_of sc_Sums_sums_of (hbody := fun cdv A outer s H E hr => ⟨_, _, (q3_cons (s3_setComp (i := 2) sc_Sums_sums_of.nd rfl rfl rfl (i3_list (by rfl) (p3_call (by rfl) (ok_pairs_of T) (hr.mono (by decide)) (by rfl) T.m_pairs_of T.F_pairs_of.kp T.b_pairs_of (b3a_cons (P3.opd (p3v 1)) b3a_nil))) blk_Sums_sums_of_1 (fun _ _ _ _ _ => (g3_tup (is := [0, 1]) (by rfl) (pgs_cons (pg_name (i := 0) blk_Sums_sums_of_1.nd rfl (Or.inl rfl)) (pgs_cons (pg_name (i := 1) blk_Sums_sums_of_1.nd rfl (Or.inl rfl)) pgs_nil)) rfl)) (fun _ _ _ _ _ => (P3.or (p3_meth (by rfl) (bv 2) T.cl_Sums T.me_Sums_sum_of_pair (ok_Sums_sum_of_pair T) (hr.mono (by decide)) T.b_Sums_sum_of_pair (b3a_cons (P3.opd (p3v 0)) (b3a_cons (P3.opd (p3v 1)) b3a_nil))) (P3.or (p3_meth (by rfl) (bv 2) T.cl_Halves T.me_Halves_sum_of_pair (ok_Halves_sum_of_pair T) (hr.mono (by decide)) T.b_Halves_sum_of_pair (b3a_cons (P3.opd (p3v 0)) (b3a_cons (P3.opd (p3v 1)) b3a_nil))) (p3_meth (by rfl) (bv 2) T.cl_Leaning T.me_Leaning_sum_of_pair (ok_Halves_sum_of_pair T) (hr.mono (by decide)) T.b_Halves_sum_of_pair (b3a_cons (P3.opd (p3v 0)) (b3a_cons (P3.opd (p3v 1)) b3a_nil)))))))
      (q3_cons (s3_if (p3t_cmp c3_gt (P3.opd (p3_callB (c_len (by rfl)) (by rfl) T.z_len (by decide +kernel) (b3a_cons (bv 1) b3a_nil))) (P3.opd (p3_mul (P3.opd p3_int) (P3.opd (p3_callB (c_len (by rfl)) (by rfl) T.z_len (by decide +kernel) (b3a_cons (bv 2) b3a_nil))))) (nomark _)) (q3_one (s3_expr (p3_append 2 (by rfl) (bv 2) (P3.or (p3_meth (by rfl) (bv 0) T.cl_Sums T.me_Sums_sum_of_lone (ok_Sums_sum_of_lone T) (hr.mono (by decide)) T.b_Sums_sum_of_lone (b3a_cons (P3.opd (p3_ix (by rfl) (bv 1) (P3.opd (p3_neg (P3.opd p3_int))) (fun _ _ => rfl))) b3a_nil)) (P3.or (p3_meth (by rfl) (bv 0) T.cl_Halves T.me_Halves_sum_of_lone (ok_Halves_sum_of_lone T) (hr.mono (by decide)) T.b_Halves_sum_of_lone (b3a_cons (P3.opd (p3_ix (by rfl) (bv 1) (P3.opd (p3_neg (P3.opd p3_int))) (fun _ _ => rfl))) b3a_nil)) (p3_meth (by rfl) (bv 0) T.cl_Leaning T.me_Leaning_sum_of_lone (ok_Halves_sum_of_lone T) (hr.mono (by decide)) T.b_Halves_sum_of_lone (b3a_cons (P3.opd (p3_ix (by rfl) (bv 1) (P3.opd (p3_neg (P3.opd p3_int))) (fun _ _ => rfl))) b3a_nil))))))) q3_nil)
      (q3_one (s3_ret (p3mv 2))))), fun Γa Q h hl => ?_⟩)
  obtain ⟨R, ns, rfl, hR, h2, h1, q⟩ := h
  walk_at "x3"
  unfold comp3
  walk_at "x3"
  refine ⟨ns, rfl, h1, ?_⟩
  walk_at "x3"
  refine ⟨small (by simp only [pairsD, List.length_map, List.length_range]; omega), fun k ys Γc => ys = (List.range k).map (fun j => D.int (R.pair (ns.getD (2 * j) 0) (ns.getD (2 * j + 1) 0))) ∧ ∃ s s', Γc = [fo s, fo s', some (.fz (R.ob a))], ⟨rfl, none, none, rfl⟩, ?_, ?_⟩
  · rintro k d ys Γc hd hk ⟨rfl, s, s', rfl⟩
    obtain ⟨lt, rfl⟩ := map_get hd
    walk_at "x3"
    cases R with
    | guess => exact absurd rfl hR
    | sum =>
      refine .inl ?_
      walk_at "x3"
      refine ⟨rfl, _, _, _, rfl, ?_⟩
      walk_at "x3"
      exact ⟨snoc rfl, ⟨some _, rfl⟩, ⟨some _, rfl⟩⟩
    | half =>
      refine .inr (.inl ?_)
      walk_at "x3"
      refine ⟨rfl, _, _, _, rfl, ?_⟩
      walk_at "x3"
      exact ⟨snoc rfl, ⟨some _, rfl⟩, ⟨some _, rfl⟩⟩
    | lean =>
      refine .inr (.inr ?_)
      walk_at "x3"
      refine ⟨rfl, _, _, _, rfl, ?_⟩
      walk_at "x3"
      exact ⟨snoc rfl, ⟨some _, rfl⟩, ⟨some _, rfl⟩⟩
  · rintro ys Γc hk ⟨rfl, s, s', rfl⟩
    have hp : (pairsD ns).length = ns.length / 2 := by simp [pairsD]
    rw [hp, rg_eq]
    walk_at "x3"
    refine ⟨.inl ⟨by decide, by decide⟩, ?_⟩
    simp only [List.length_map, List.length_range]
    by_cases odd : ns.length % 2 = 1
    · have e1 : f_gt (ns.length : Int) (2 * ((ns.length / 2 : Nat) : Int)) = true := by simp only [f_gt, decide_eq_true_eq]; omega
      have e2 : sumsF R.pair R.lone ns = ((List.range (ns.length / 2)).map fun j => R.pair (ns.getD (2 * j) 0) (ns.getD (2 * j + 1) 0)) ++ [R.lone (ns.getD (ns.length - 1) 0)] := by
        unfold sumsF; rw [if_pos odd]; rfl
      rw [e2, il, List.map_append] at q
      rw [e1]
      dsimp only
      cases R with
      | guess => exact absurd rfl hR
      | sum =>
        refine .inl ⟨rfl, _, atI_last (by omega), _, _, rfl, ?_⟩
        walk_at "x3"
        exact ⟨small (by simp only [List.length_map, List.length_range]; omega), q⟩
      | half =>
        refine .inr (.inl ⟨rfl, _, atI_last (by omega), _, _, rfl, ?_⟩)
        walk_at "x3"
        exact ⟨small (by simp only [List.length_map, List.length_range]; omega), q⟩
      | lean =>
        refine .inr (.inr ⟨rfl, _, atI_last (by omega), _, _, rfl, ?_⟩)
        walk_at "x3"
        exact ⟨small (by simp only [List.length_map, List.length_range]; omega), q⟩
    · have e1 : f_gt (ns.length : Int) (2 * ((ns.length / 2 : Nat) : Int)) = false := by simp only [f_gt, decide_eq_false_iff_not]; omega
      have e2 : sumsF R.pair R.lone ns = ((List.range (ns.length / 2)).map fun j => R.pair (ns.getD (2 * j) 0) (ns.getD (2 * j + 1) 0)) := by
        unfold sumsF; rw [if_neg odd, List.append_nil]; rfl
      rw [e2] at q
      rw [e1]
      exact q
/-- sums and differences of a row -/
def difG (F : List Int) (ns : List Int) : List Int := rg (fun j => ns.getD (2 * j + 1) 0 - (F.getD j 0 + nrF F ((j : Int) + 1)) / 2) (ns.length / 2)
def fsF (ns : List Int) : List Int := rg (fun j => ns.getD (2 * j) 0) ((ns.length + 1) / 2)
def liftAt (d : List Int) (j : Nat) : Int := (nrF d ((j : Int) - 1) + nrF d (j : Int) + 2) / 4
def leanAt (s : List Int) (j : Nat) : Int := (nrF s ((j : Int) - 1) - nrF s ((j : Int) + 1) + 2) / 4
def Rl.dif (R : Rl) (ns : List Int) : List Int := match R with
  | .sum => gapsF ns | .half => gapsF ns
  | .guess => difG (fsF ns) ns
  | .lean => rg (fun j => (gapsF ns).getD j 0 - leanAt (sumsF Rl.lean.pair Rl.lean.lone ns) j) (ns.length / 2)
def Rl.sums (R : Rl) (ns : List Int) : List Int := match R with
  | .guess => rg (fun j => (fsF ns).getD j 0 + liftAt (difG (fsF ns) ns) j) ((ns.length + 1) / 2)
  | R => sumsF R.pair R.lone ns
theorem rng_len (i : Int) (n : Nat) : (rng i n).length = n := by unfold rng; simp
theorem rng_get {n k : Nat} {d : D} (h : (rng 0 n)[k]? = some d) : k < n ∧ d = .int (k : Int) := by
  unfold rng at h
  obtain ⟨h1, h2⟩ := map_get h
  exact ⟨h1, by rw [h2]; simp⟩
def guessAt (F : List Int) (j : Nat) : Int := (F.getD j 0 + nrF F ((j : Int) + 1)) / 2
def many_s (f : List Int → Nat → Int) (ok : Nat → Nat → Prop) : S3 := fun Γ Q => ∃ (F : List Int) (m : Nat), Γ = [some (.fz (il F)), some (.fz (.int m))] ∧ 1 ≤ F.length ∧ ok m F.length ∧ m ≤ 64 ∧ Q (.fr (il (rg (f F) m))) Γ
theorem ok_guesses (T : Txt K mg a) : FnOk P w K mg base CX0 2 a.f_guesses a.fd_guesses ["firsts", "many"] (sp3 K 2 (many_s guessAt (· ≤ ·))) := by
  refine ok3 T.F_guesses sc_guesses (hbody := fun cdv A outer s H E hr => ⟨_, _, (q3_one (s3_ret (p3_comp rfl (i3_range1 (by rfl) T.z_range (p3a_cons (p3v 1) p3a_nil)) blk_guesses_1 (fun _ _ _ _ _ => (g3_name (i := 0) blk_guesses_1.nd rfl (Or.inl rfl))) (fun _ _ _ _ _ => (p3_fdiv (P3.opd (p3_add (P3.opd (p3_ix (by rfl) (bv 1) (bv 0) (fun _ _ => rfl))) (P3.opd (p3_call (by rfl) (ok_near T) (hr.mono (by decide)) (by rfl) T.m_near T.F_near.kp T.b_near (b3a_cons (P3.opd (p3v 1)) (b3a_cons (P3.opd (p3_add (bv 0) (P3.opd p3_int))) b3a_nil)))))) (P3.opd p3_int)))))), fun Γa Q h hl => ?_⟩)
  obtain ⟨F, m, rfl, h1, h2, h3, q⟩ := h
  walk_at "x3"
  unfold comp3
  walk_at "x3"
  refine ⟨by omega, by omega, small (by rw [rng_len]; omega), fun k ys Γc => ys = (List.range k).map (fun j => D.int (guessAt F j)) ∧ ∃ s, Γc = [fo s, some (.fz (il F))], ⟨rfl, none, rfl⟩, ?_, ?_⟩
  · rintro k d ys Γc hd hk ⟨rfl, s, rfl⟩
    obtain ⟨lt, rfl⟩ := rng_get hd
    walk_at "x3"
    refine ⟨_, atI_int (by omega) (by omega), _, _, rfl, h1, ?_⟩
    walk_at "x3"
    exact ⟨⟨by decide, by decide⟩, snoc (by rw [Int.toNat_natCast]; rfl), some _, rfl⟩
  · rintro ys Γc hk ⟨rfl, s, rfl⟩
    walk_at "x3"
    rw [rng_len, Int.toNat_natCast, rg_eq]
    exact q
theorem ok_lifts (T : Txt K mg a) : FnOk P w K mg base CX0 2 a.f_lifts a.fd_lifts ["differences", "many"] (sp3 K 2 (many_s liftAt fun _ _ => True)) := by
  refine ok3 T.F_lifts sc_lifts (hbody := fun cdv A outer s H E hr => ⟨_, _, (q3_one (s3_ret (p3_comp rfl (i3_range1 (by rfl) T.z_range (p3a_cons (p3v 1) p3a_nil)) blk_lifts_1 (fun _ _ _ _ _ => (g3_name (i := 0) blk_lifts_1.nd rfl (Or.inl rfl))) (fun _ _ _ _ _ => (p3_fdiv (P3.opd (p3_add (P3.opd (p3_add (P3.opd (p3_call (by rfl) (ok_near T) (hr.mono (by decide)) (by rfl) T.m_near T.F_near.kp T.b_near (b3a_cons (P3.opd (p3v 1)) (b3a_cons (P3.opd (p3_sub (bv 0) (P3.opd p3_int))) b3a_nil)))) (P3.opd (p3_call (by rfl) (ok_near T) (hr.mono (by decide)) (by rfl) T.m_near T.F_near.kp T.b_near (b3a_cons (P3.opd (p3v 1)) (b3a_cons (P3.opd (p3v 0)) b3a_nil)))))) (P3.opd p3_int))) (P3.opd p3_int)))))), fun Γa Q h hl => ?_⟩)
  obtain ⟨F, m, rfl, h1, h2, h3, q⟩ := h
  walk_at "x3"
  unfold comp3
  walk_at "x3"
  refine ⟨by omega, by omega, small (by rw [rng_len]; omega), fun k ys Γc => ys = (List.range k).map (fun j => D.int (liftAt F j)) ∧ ∃ s, Γc = [fo s, some (.fz (il F))], ⟨rfl, none, rfl⟩, ?_, ?_⟩
  · rintro k d ys Γc hd hk ⟨rfl, s, rfl⟩
    obtain ⟨lt, rfl⟩ := rng_get hd
    walk_at "x3"
    refine ⟨_, _, rfl, h1, _, _, rfl, h1, ?_⟩
    walk_at "x3"
    exact ⟨⟨by decide, by decide⟩, snoc rfl, some _, rfl⟩
  · rintro ys Γc hk ⟨rfl, s, rfl⟩
    walk_at "x3"
    rw [rng_len, Int.toNat_natCast, rg_eq]
    exact q
theorem ok_leans (T : Txt K mg a) : FnOk P w K mg base CX0 2 a.f_leans a.fd_leans ["sums", "many"] (sp3 K 2 (many_s leanAt fun _ _ => True)) := by
  refine ok3 T.F_leans sc_leans (hbody := fun cdv A outer s H E hr => ⟨_, _, (q3_one (s3_ret (p3_comp rfl (i3_range1 (by rfl) T.z_range (p3a_cons (p3v 1) p3a_nil)) blk_leans_1 (fun _ _ _ _ _ => (g3_name (i := 0) blk_leans_1.nd rfl (Or.inl rfl))) (fun _ _ _ _ _ => (p3_fdiv (P3.opd (p3_add (P3.opd (p3_sub (P3.opd (p3_call (by rfl) (ok_near T) (hr.mono (by decide)) (by rfl) T.m_near T.F_near.kp T.b_near (b3a_cons (P3.opd (p3v 1)) (b3a_cons (P3.opd (p3_sub (bv 0) (P3.opd p3_int))) b3a_nil)))) (P3.opd (p3_call (by rfl) (ok_near T) (hr.mono (by decide)) (by rfl) T.m_near T.F_near.kp T.b_near (b3a_cons (P3.opd (p3v 1)) (b3a_cons (P3.opd (p3_add (bv 0) (P3.opd p3_int))) b3a_nil)))))) (P3.opd p3_int))) (P3.opd p3_int)))))), fun Γa Q h hl => ?_⟩)
  obtain ⟨F, m, rfl, h1, h2, h3, q⟩ := h
  walk_at "x3"
  unfold comp3
  walk_at "x3"
  refine ⟨by omega, by omega, small (by rw [rng_len]; omega), fun k ys Γc => ys = (List.range k).map (fun j => D.int (leanAt F j)) ∧ ∃ s, Γc = [fo s, some (.fz (il F))], ⟨rfl, none, rfl⟩, ?_, ?_⟩
  · rintro k d ys Γc hd hk ⟨rfl, s, rfl⟩
    obtain ⟨lt, rfl⟩ := rng_get hd
    walk_at "x3"
    refine ⟨_, _, rfl, h1, _, _, rfl, h1, ?_⟩
    walk_at "x3"
    exact ⟨⟨by decide, by decide⟩, snoc rfl, some _, rfl⟩
  · rintro ys Γc hk ⟨rfl, s, rfl⟩
    walk_at "x3"
    rw [rng_len, Int.toNat_natCast, rg_eq]
    exact q
def seF (ns : List Int) : List Int := rg (fun j => ns.getD (2 * j + 1) 0) (ns.length / 2)
theorem pk0' (ns : List Int) : pk (ns.map D.int) (some 0) none (some 2) = (fsF ns).map D.int := by rw [pk0]; unfold fsF rg; rw [List.map_map]; rfl
theorem pk1' (ns : List Int) : pk (ns.map D.int) (some 1) none (some 2) = (seF ns).map D.int := by rw [pk1]; unfold seF rg; rw [List.map_map]; rfl
theorem fs_len (ns : List Int) : (fsF ns).length = (ns.length + 1) / 2 := rg_len _ _
theorem se_len (ns : List Int) : (seF ns).length = ns.length / 2 := rg_len _ _
theorem rg_get (f : Nat → Int) {j k : Nat} (h : j < k) : (rg f k).getD j 0 = f j := by unfold rg; simp [List.getD, h]
theorem sums_len {p : Int → Int → Int} {l : Int → Int} (ns : List Int) (h : 2 ≤ ns.length) : 1 ≤ (sumsF p l ns).length := by
  unfold sumsF; rw [List.length_append, rg_len]; omega
theorem zip_len (xs ys : List Int) : (zipD (xs.map D.int) (ys.map D.int)).length = min xs.length ys.length := by unfold zipD; simp
theorem zip_get {xs ys : List Int} {k : Nat} {d : D} (h : (zipD (xs.map D.int) (ys.map D.int))[k]? = some d) : k < xs.length ∧ k < ys.length ∧ d = .tup [.int (xs.getD k 0), .int (ys.getD k 0)] := by
  have lt := (List.getElem?_eq_some_iff.mp h).1
  rw [zip_len] at lt
  have l1 : k < xs.length := by omega
  have l2 : k < ys.length := by omega
  unfold zipD at h
  have : ((xs.map D.int).zip (ys.map D.int))[k]? = some (D.int (xs.getD k 0), D.int (ys.getD k 0)) := by
    rw [List.getElem?_zip_eq_some]
    exact ⟨by rw [List.getElem?_map, List.getElem?_eq_getElem l1]; simp [List.getD, l1], by rw [List.getElem?_map, List.getElem?_eq_getElem l2]; simp [List.getD, l2]⟩
  rw [List.getElem?_map, this] at h
  cases h
  exact ⟨l1, l2, rfl⟩
def part_s (a : Ad) (ok : Rl → Prop) : S3 := fun Γ Q => ∃ (R : Rl) (ns : List Int), Γ = [some (.fz (R.ob a)), some (.fz (il ns))] ∧ ok R ∧ 2 ≤ ns.length ∧ ns.length ≤ 64 ∧ Q (.fz (.tup [il (R.sums ns), il (R.dif ns)])) Γ
theorem ok_Sums_parted (T : Txt K mg a) : FnOk P w K mg base CX0 3 a.f_Sums_parted a.fd_Sums_parted ["self", "row"] (sp3 K 2 (part_s a fun R => R = .sum ∨ R = .half)) := by
  refine ok3 T.F_Sums_parted sc_Sums_parted (hbody := fun cdv A outer s H E hr => ⟨_, _, (q3_one (s3_ret (p3_tup (p3a_cons (P3.or (p3_meth (by rfl) (bv 0) T.cl_Sums T.me_Sums_sums_of (ok_Sums_sums_of T) (hr.mono (by decide)) T.b_Sums_sums_of (b3a_cons (P3.opd (p3v 1)) b3a_nil)) (p3_meth (by rfl) (bv 0) T.cl_Halves T.me_Halves_sums_of (ok_Sums_sums_of T) (hr.mono (by decide)) T.b_Sums_sums_of (b3a_cons (P3.opd (p3v 1)) b3a_nil))) (p3a_cons (p3_call (by rfl) (ok_gaps_of T) (hr.mono (by decide)) (by rfl) T.m_gaps_of T.F_gaps_of.kp T.b_gaps_of (b3a_cons (P3.opd (p3v 1)) b3a_nil)) p3a_nil))))), fun Γa Q h hl => ?_⟩)
  obtain ⟨R, ns, rfl, hR, h2, h1, q⟩ := h
  walk_at "x3"
  rcases hR with rfl | rfl
  · refine .inl ⟨rfl, .sum, ns, rfl, by simp, h2, h1, ns, rfl, h1, ?_⟩
    walk_at "x3"
    exact ⟨by rw [sizeLine_eq]; omega, q⟩
  · refine .inr ⟨rfl, .half, ns, rfl, by simp, h2, h1, ns, rfl, h1, ?_⟩
    walk_at "x3"
    exact ⟨by rw [sizeLine_eq]; omega, q⟩
theorem ok_Guessed_parted (T : Txt K mg a) : FnOk P w K mg base CX0 3 a.f_Guessed_parted a.fd_Guessed_parted ["self", "row"] (sp3 K 2 (part_s a (· = .guess))) := by
  refine ok3 T.F_Guessed_parted sc_Guessed_parted (hbody := fun cdv A outer s H E hr => ⟨_, _, (q3_cons (s3_par (i := 2) (j := 3) rfl sc_Guessed_parted.nd rfl rfl (by decide) (by rfl) (by rfl) (p3a_cons (p3_slice3 (by rfl) (bv 1) (p3o_some (P3.opd p3_int)) p3o_none (p3o_some (P3.opd p3_int))) (p3a_cons (p3_slice3 (by rfl) (bv 1) (p3o_some (P3.opd p3_int)) p3o_none (p3o_some (P3.opd p3_int))) p3a_nil)) (by rfl))
      (q3_cons (s3_setComp (i := 4) sc_Guessed_parted.nd rfl rfl rfl (i3_zip (by rfl) T.z_zip (p3a_cons (p3v 3) (p3a_cons (p3_call (by rfl) (ok_guesses T) (hr.mono (by decide)) (by rfl) T.m_guesses T.F_guesses.kp T.b_guesses (b3a_cons (P3.opd (p3v 2)) (b3a_cons (P3.opd (p3_callB (c_len (by rfl)) (by rfl) T.z_len (by decide +kernel) (b3a_cons (bv 3) b3a_nil))) b3a_nil))) p3a_nil))) blk_Guessed_parted_2 (fun _ _ _ _ _ => (g3_tup (is := [0, 1]) (by rfl) (pgs_cons (pg_name (i := 0) blk_Guessed_parted_2.nd rfl (Or.inl rfl)) (pgs_cons (pg_name (i := 1) blk_Guessed_parted_2.nd rfl (Or.inl rfl)) pgs_nil)) rfl)) (fun _ _ _ _ _ => (p3_sub (bv 0) (bv 1))))
      (q3_cons (s3_setComp (i := 5) sc_Guessed_parted.nd rfl rfl rfl (i3_zip (by rfl) T.z_zip (p3a_cons (p3v 2) (p3a_cons (p3_call (by rfl) (ok_lifts T) (hr.mono (by decide)) (by rfl) T.m_lifts T.F_lifts.kp T.b_lifts (b3a_cons (P3.opd (p3v 4)) (b3a_cons (P3.opd (p3_callB (c_len (by rfl)) (by rfl) T.z_len (by decide +kernel) (b3a_cons (bv 2) b3a_nil))) b3a_nil))) p3a_nil))) blk_Guessed_parted_1 (fun _ _ _ _ _ => (g3_tup (is := [0, 1]) (by rfl) (pgs_cons (pg_name (i := 0) blk_Guessed_parted_1.nd rfl (Or.inl rfl)) (pgs_cons (pg_name (i := 1) blk_Guessed_parted_1.nd rfl (Or.inl rfl)) pgs_nil)) rfl)) (fun _ _ _ _ _ => (p3_add (bv 0) (bv 1))))
      (q3_one (s3_ret (p3_tup (p3a_cons (p3v 5) (p3a_cons (p3v 4) p3a_nil)))))))), fun Γa Q h hl => ?_⟩)
  obtain ⟨R, ns, rfl, hR, h2, h1, q⟩ := h
  walk_at "x3"
  subst hR
  refine ⟨by decide, by decide, ?_⟩
  rw [pk0', pk1']
  unfold comp3
  walk_at "x3"
  refine ⟨fsF ns, ns.length / 2, by rw [List.length_map, se_len], by rw [fs_len]; omega, by rw [fs_len]; omega, by omega, ?_⟩
  walk_at "x3"
  have z1 : (zipD ((seF ns).map D.int) ((rg (guessAt (fsF ns)) (ns.length / 2)).map D.int)).length = ns.length / 2 := by rw [zip_len, se_len, rg_len]; omega
  refine ⟨small (by rw [z1]; omega), fun k ys Γc => ys = (List.range k).map (fun j => D.int (ns.getD (2 * j + 1) 0 - guessAt (fsF ns) j)) ∧ ∃ s s', Γc = [fo s, fo s'], ⟨rfl, none, none, rfl⟩, ?_, ?_⟩
  · rintro k d ys Γc hd hk ⟨rfl, s, s', rfl⟩
    obtain ⟨l1, l2, rfl⟩ := zip_get hd
    rw [se_len] at l1
    walk_at "x3"
    exact ⟨snoc (by unfold seF; rw [rg_get _ l1, rg_get _ l1]), ⟨some _, rfl⟩, ⟨some _, rfl⟩⟩
  · rintro ys Γc hk ⟨rfl, s, s', rfl⟩
    rw [z1, rg_eq]
    have z2 : (difG (fsF ns) ns).length = ns.length / 2 := rg_len _ _
    refine ⟨difG (fsF ns) ns, (ns.length + 1) / 2, by rw [List.length_map, fs_len]; rfl, by omega, trivial, by omega, ?_⟩
    walk_at "x3"
    have z3 : (zipD ((fsF ns).map D.int) ((rg (liftAt (difG (fsF ns) ns)) ((ns.length + 1) / 2)).map D.int)).length = (ns.length + 1) / 2 := by rw [zip_len, fs_len, rg_len]; omega
    refine ⟨small (by rw [z3]; omega), fun k ys Γc => ys = (List.range k).map (fun j => D.int ((fsF ns).getD j 0 + liftAt (difG (fsF ns) ns) j)) ∧ ∃ s s', Γc = [fo s, fo s'], ⟨rfl, none, none, rfl⟩, ?_, ?_⟩
    · rintro k d ys Γc hd hk ⟨rfl, s, s', rfl⟩
      obtain ⟨l1, l2, rfl⟩ := zip_get hd
      rw [rg_len] at l2
      walk_at "x3"
      exact ⟨snoc (by rw [rg_get _ l2]), ⟨some _, rfl⟩, ⟨some _, rfl⟩⟩
    · rintro ys Γc hk ⟨rfl, s, s', rfl⟩
      rw [z3, rg_eq]
      exact ⟨by rw [sizeLine_eq]; omega, q⟩
theorem ok_Leaning_parted (T : Txt K mg a) : FnOk P w K mg base CX0 3 a.f_Leaning_parted a.fd_Leaning_parted ["self", "row"] (sp3 K 2 (part_s a (· = .lean))) := by
  refine ok3 T.F_Leaning_parted sc_Leaning_parted (hbody := fun cdv A outer s H E hr => ⟨_, _, (q3_cons (s3_par (i := 2) (j := 3) rfl sc_Leaning_parted.nd rfl rfl (by decide) (by rfl) (by rfl) (p3a_cons (p3_meth (by rfl) (bv 0) T.cl_Leaning T.me_Leaning_sums_of (ok_Sums_sums_of T) (hr.mono (by decide)) T.b_Sums_sums_of (b3a_cons (P3.opd (p3v 1)) b3a_nil)) (p3a_cons (p3_call (by rfl) (ok_gaps_of T) (hr.mono (by decide)) (by rfl) T.m_gaps_of T.F_gaps_of.kp T.b_gaps_of (b3a_cons (P3.opd (p3v 1)) b3a_nil)) p3a_nil)) (by rfl))
      (q3_one (s3_ret (p3_tup (p3a_cons (p3v 2) (p3a_cons (p3_comp rfl (i3_zip (by rfl) T.z_zip (p3a_cons (p3v 3) (p3a_cons (p3_call (by rfl) (ok_leans T) (hr.mono (by decide)) (by rfl) T.m_leans T.F_leans.kp T.b_leans (b3a_cons (P3.opd (p3v 2)) (b3a_cons (P3.opd (p3_callB (c_len (by rfl)) (by rfl) T.z_len (by decide +kernel) (b3a_cons (bv 3) b3a_nil))) b3a_nil))) p3a_nil))) blk_Leaning_parted_1 (fun _ _ _ _ _ => (g3_tup (is := [0, 1]) (by rfl) (pgs_cons (pg_name (i := 0) blk_Leaning_parted_1.nd rfl (Or.inl rfl)) (pgs_cons (pg_name (i := 1) blk_Leaning_parted_1.nd rfl (Or.inl rfl)) pgs_nil)) rfl)) (fun _ _ _ _ _ => (p3_sub (bv 0) (bv 1)))) p3a_nil)))))), fun Γa Q h hl => ?_⟩)
  obtain ⟨R, ns, rfl, hR, h2, h1, q⟩ := h
  walk_at "x3"
  subst hR
  refine ⟨rfl, .lean, ns, rfl, by simp, h2, h1, ns, rfl, h1, ?_⟩
  unfold comp3
  walk_at "x3"
  have hg : (gapsF ns).length = ns.length / 2 := rg_len _ _
  refine ⟨_, ns.length / 2, by rw [List.length_map, hg], sums_len ns h2, trivial, by omega, ?_⟩
  walk_at "x3"
  have z1 : (zipD ((gapsF ns).map D.int) ((rg (leanAt (sumsF Rl.lean.pair Rl.lean.lone ns)) (ns.length / 2)).map D.int)).length = ns.length / 2 := by rw [zip_len, hg, rg_len]; omega
  refine ⟨small (by rw [z1]; omega), fun k ys Γc => ys = (List.range k).map (fun j => D.int ((gapsF ns).getD j 0 - leanAt (sumsF Rl.lean.pair Rl.lean.lone ns) j)) ∧ ∃ s s', Γc = [fo s, fo s'], ⟨rfl, none, none, rfl⟩, ?_, ?_⟩
  · rintro k d ys Γc hd hk ⟨rfl, s, s', rfl⟩
    obtain ⟨l1, l2, rfl⟩ := zip_get hd
    rw [rg_len] at l2
    walk_at "x3"
    exact ⟨snoc (by rw [rg_get _ l2]), ⟨some _, rfl⟩, ⟨some _, rfl⟩⟩
  · rintro ys Γc hk ⟨rfl, s, s', rfl⟩
    rw [z1, rg_eq]
    exact ⟨by rw [sizeLine_eq]; omega, q⟩
def halves_s (a : Ad) : S3 := fun Γ Q => ∃ (R : Rl) (ns : List Int), Γ = [some (.fz (R.ob a)), some (.fz (il ns))] ∧ Fig ns ∧ 2 ≤ ns.length ∧ ns.length ≤ 64 ∧ Q (.fz (.tup [il (R.sums ns), il (R.dif ns)])) Γ
theorem ok_Sums_halves (T : Txt K mg a) : FnOk P w K mg base CX0 4 a.f_Sums_halves a.fd_Sums_halves ["self", "row"] (sp3 K 2 (halves_s a)) := by
  refine ok3 T.F_Sums_halves sc_Sums_halves (hbody := fun cdv A outer s H E hr => ⟨_, _, (q3_cons (s3_if (p3t_not (p3t_val (p3_call (by rfl) (ok_is_row T) (hr.mono (by decide)) (by rfl) T.m_is_row T.F_is_row.kp T.b_is_row (b3a_cons (P3.opd (p3v 1)) (b3a_cons (P3.opd p3_int) b3a_nil))))) (q3_one s3_never) q3_nil)
      (q3_one (s3_ret (P3.or (p3_meth (by rfl) (bv 0) T.cl_Sums T.me_Sums_parted (ok_Sums_parted T) (hr.mono (by decide)) T.b_Sums_parted (b3a_cons (P3.opd (p3v 1)) b3a_nil)) (P3.or (p3_meth (by rfl) (bv 0) T.cl_Halves T.me_Halves_parted (ok_Sums_parted T) (hr.mono (by decide)) T.b_Sums_parted (b3a_cons (P3.opd (p3v 1)) b3a_nil)) (P3.or (p3_meth (by rfl) (bv 0) T.cl_Guessed T.me_Guessed_parted (ok_Guessed_parted T) (hr.mono (by decide)) T.b_Guessed_parted (b3a_cons (P3.opd (p3v 1)) b3a_nil)) (p3_meth (by rfl) (bv 0) T.cl_Leaning T.me_Leaning_parted (ok_Leaning_parted T) (hr.mono (by decide)) T.b_Leaning_parted (b3a_cons (P3.opd (p3v 1)) b3a_nil)))))))), fun Γa Q h hl => ?_⟩)
  obtain ⟨R, ns, rfl, hR, h2, h1, q⟩ := h
  walk_at "x3"
  refine ⟨ns, 2, rfl, hR, h1, by omega, ?_⟩
  walk_at "x3"
  cases R with
  | sum => exact .inl ⟨rfl, .sum, ns, rfl, .inl rfl, h2, h1, q⟩
  | half => exact .inr (.inl ⟨rfl, .half, ns, rfl, .inr rfl, h2, h1, q⟩)
  | guess => exact .inr (.inr (.inl ⟨rfl, .guess, ns, rfl, rfl, h2, h1, q⟩))
  | lean => exact .inr (.inr (.inr ⟨rfl, .lean, ns, rfl, rfl, h2, h1, q⟩))
def Rl.num : Rl → Nat
  | .sum => 0 | .half => 1 | .guess => 2 | .lean => 3
def Rl.word : Rl → Str
  | .sum => "sum" | .half => "half" | .guess => "guess" | .lean => "lean"
def word_s (x : Str) : S3 := fun Γ Q => ∃ d, Γ = [some (.fz d)] ∧ Q (.fz (.str x)) Γ
theorem ok_Sums_word (T : Txt K mg a) : FnOk P w K mg base CX0 1 a.f_Sums_word a.fd_Sums_word ["self"] (sp3 K 1 (word_s "sum")) := by
  refine ok3 T.F_Sums_word sc_Sums_word (hbody := fun cdv A outer s H E hr => ⟨_, _, (q3_one (s3_ret p3_str)), fun Γa Q h hl => ?_⟩)
  obtain ⟨d, rfl, q⟩ := h
  walk_at "x3"
  exact q
theorem ok_Halves_word (T : Txt K mg a) : FnOk P w K mg base CX0 1 a.f_Halves_word a.fd_Halves_word ["self"] (sp3 K 1 (word_s "half")) := by
  refine ok3 T.F_Halves_word sc_Halves_word (hbody := fun cdv A outer s H E hr => ⟨_, _, (q3_one (s3_ret p3_str)), fun Γa Q h hl => ?_⟩)
  obtain ⟨d, rfl, q⟩ := h
  walk_at "x3"
  exact q
theorem ok_Guessed_word (T : Txt K mg a) : FnOk P w K mg base CX0 1 a.f_Guessed_word a.fd_Guessed_word ["self"] (sp3 K 1 (word_s "guess")) := by
  refine ok3 T.F_Guessed_word sc_Guessed_word (hbody := fun cdv A outer s H E hr => ⟨_, _, (q3_one (s3_ret p3_str)), fun Γa Q h hl => ?_⟩)
  obtain ⟨d, rfl, q⟩ := h
  walk_at "x3"
  exact q
theorem ok_Leaning_word (T : Txt K mg a) : FnOk P w K mg base CX0 1 a.f_Leaning_word a.fd_Leaning_word ["self"] (sp3 K 1 (word_s "lean")) := by
  refine ok3 T.F_Leaning_word sc_Leaning_word (hbody := fun cdv A outer s H E hr => ⟨_, _, (q3_one (s3_ret p3_str)), fun Γa Q h hl => ?_⟩)
  obtain ⟨d, rfl, q⟩ := h
  walk_at "x3"
  exact q
def rules_s (a : Ad) : S3 := fun Γ Q => Γ = [] ∧ Q (.fr (.lst [Rl.sum.ob a, Rl.half.ob a, Rl.guess.ob a, Rl.lean.ob a])) Γ
theorem ok_all_rules (T : Txt K mg a) : FnOk P w K mg base CX0 1 a.f_all_rules a.fd_all_rules [] (sp3 K 0 (rules_s a)) := by
  refine ok3 T.F_all_rules sc_all_rules (hbody := fun cdv A outer s H E hr => ⟨_, _, (q3_one (s3_ret (p3_lst (p3a_cons (p3_make00 T.mk_Sums (by rfl) T.mC_Sums) (p3a_cons (p3_make00 T.mk_Halves (by rfl) T.mC_Halves) (p3a_cons (p3_make00 T.mk_Guessed (by rfl) T.mC_Guessed) (p3a_cons (p3_make00 T.mk_Leaning (by rfl) T.mC_Leaning) p3a_nil))))))), fun Γa Q h hl => ?_⟩)
  obtain ⟨rfl, q⟩ := h
  walk_at "x3"
  exact ⟨by rw [sizeLine_eq]; omega, q⟩
def rule_s (a : Ad) : S3 := fun Γ Q => ∃ (R : Rl), Γ = [some (.fz (.str R.word))] ∧ Q (.fz (R.ob a)) Γ
theorem ok_rule_of (T : Txt K mg a) : FnOk P w K mg base CX0 2 a.f_rule_of a.fd_rule_of ["word"] (sp3 K 1 (rule_s a)) := by
  refine ok3 T.F_rule_of sc_rule_of (hbody := fun cdv A outer s H E hr => ⟨_, _, (q3_cons (s3_for PassesOwn.never rfl (i3_list (by rfl) (p3_call0 (by rfl) (ok_all_rules T) (hr.mono (by decide)) (by rfl) T.m_all_rules T.F_all_rules.kp T.b_all_rules)) (g3_name (i := 1) sc_rule_of.nd rfl (Or.inl rfl))
      (q3_one (s3_if (p3t_cmp (c3_eqD (by rfl) hr) (P3.opd (P3.or (p3_meth0 (by rfl) (bv 1) T.cl_Sums T.me_Sums_word (ok_Sums_word T) (hr.mono (by decide)) T.b_Sums_word) (P3.or (p3_meth0 (by rfl) (bv 1) T.cl_Halves T.me_Halves_word (ok_Halves_word T) (hr.mono (by decide)) T.b_Halves_word) (P3.or (p3_meth0 (by rfl) (bv 1) T.cl_Guessed T.me_Guessed_word (ok_Guessed_word T) (hr.mono (by decide)) T.b_Guessed_word) (p3_meth0 (by rfl) (bv 1) T.cl_Leaning T.me_Leaning_word (ok_Leaning_word T) (hr.mono (by decide)) T.b_Leaning_word))))) (bv 0) (nomark _)) (q3_one (s3_ret (p3mv 1))) q3_nil)))
      (q3_one s3_never)), fun Γa Q h hl => ?_⟩)
  obtain ⟨R, rfl, q⟩ := h
  walk_at "x3"
  unfold for3
  walk_at "x3"
  refine ⟨rfl, ?_⟩
  walk_at "x3"
  refine ⟨fun k Γ => k ≤ R.num ∧ ∃ s, Γ = [some (.fz (.str R.word)), fo s], ⟨Nat.zero_le _, none, rfl⟩, ?_, ?_⟩
  · rintro k d Γ hd ⟨hk, s, rfl⟩
    walk_at "x3"
    match k, hd with
    | 0, hd => cases hd; refine .inl ⟨⟨[], ⟨[], rfl⟩, by simp⟩, _, rfl, _, eqN_s, ?_⟩; cases R <;> first | (rw [show (_ == Rl.word _) = true from by decide +kernel]; exact q) | (rw [show (_ == Rl.word _) = false from by decide +kernel]; exact ⟨by decide, some _, rfl⟩) | exact absurd hk (by decide)
    | 1, hd => cases hd; refine .inr (.inl ⟨⟨[], ⟨[], rfl⟩, by simp⟩, _, rfl, _, eqN_s, ?_⟩); cases R <;> first | (rw [show (_ == Rl.word _) = true from by decide +kernel]; exact q) | (rw [show (_ == Rl.word _) = false from by decide +kernel]; exact ⟨by decide, some _, rfl⟩) | exact absurd hk (by decide)
    | 2, hd => cases hd; refine .inr (.inr (.inl ⟨⟨[], ⟨[], rfl⟩, by simp⟩, _, rfl, _, eqN_s, ?_⟩)); cases R <;> first | (rw [show (_ == Rl.word _) = true from by decide +kernel]; exact q) | (rw [show (_ == Rl.word _) = false from by decide +kernel]; exact ⟨by decide, some _, rfl⟩) | exact absurd hk (by decide)
    | 3, hd => cases hd; refine .inr (.inr (.inr ⟨⟨[], ⟨[], rfl⟩, by simp⟩, _, rfl, _, eqN_s, ?_⟩)); cases R <;> first | (rw [show (_ == Rl.word _) = true from by decide +kernel]; exact q) | (rw [show (_ == Rl.word _) = false from by decide +kernel]; exact ⟨by decide, some _, rfl⟩) | exact absurd hk (by decide)
  · rintro Γ ⟨hk, _⟩
    cases R <;> exact absurd hk (by decide)
local macro_rules | `(tactic| walk_at "x4") => `(tactic| try simp only [startG, List.length_cons, List.length_nil, Nat.reduceAdd, Nat.reduceSub, Nat.zero_add, List.replicate, List.cons_append, List.nil_append, List.append_nil,
  seq3, next3, set3, ret3, drop3, ifS3, par3, setT3, ↓t3Op_m, ↓t3Un_m, t3Chain, bor, bof, ↓call3_m, consB, nilB, cons3, nil3, t3C, t3Var, t3Mv, tst, and3, or3, not3, andV3, orV3, notV3, if3, lst3, tup3,
  Gat, Bo.at, ats, RV.d, RV.sl, add3, i2, i2', cmpI, eq3, eqS, ↓ixL_m, ↓ixT_m, m1_some, mL_some, mN_some, mI_some, len3, lenD, mx3, abs3, int3, neg3, free_s, free_n, free_z, free_w, free_o, sl3, slS3, none3, some3, list3, itemsD, tuple3, is3, knD, dB, dI, dL, dT,
  app3, ext3, zap3, ↓setI3_m, heldL, putD, tgN, tgT, gives, frees, iL3, iR1, iR2, iZ3, iE3, lz3, all3, ↓call3f_m, ↓comp3_h, ↓compG3_h, ↓for3_h, ↓meth3_m, argG, argS, argSl, lents, lendOf, List.map_cons, List.map_nil, Option.bind_some, Option.bind_none, List.nodup_nil, List.nodup_cons,
  List.getElem?_cons_zero, List.getElem?_cons_succ, List.getElem?_nil, List.set_cons_zero, List.set_cons_succ, exists_eq_left', exists_eq_left, exists_eq', exists_eq, exists_and_left, exists_and_right, Option.some.injEq, D.int.injEq, D.lst.injEq, D.str.injEq, D.tup.injEq, D.bl.injEq, D.ins.injEq, D.ty.injEq, List.cons.injEq, and_true, true_and, and_false, false_and, true_or, false_or, or_false, or_true,
  and_assoc, List.not_mem_nil, not_false_eq_true, backG_none, emit3, bif3, eqD3, eqN_i, eqN_s, eqN_b, eqN_ints, Bool.false_xor, Bool.not_true, Bool.not_false, Bool.true_xor, outG, List.mapIdx_cons, List.mapIdx_nil, backG, backS, newD, Option.getD_some, Option.getD_none, atI_0, atI_1, atI_2, atI_3, ixN_30, ixN_31, ixN_32, if_pos, if_true, if_false, List.all_cons, List.all_nil, Option.isNone_none, Bool.and_true, Bool.true_and, decide_eq_true_eq, not_true, not_false_iff, reduceCtorEq])

def cell_s : S3 := fun Γ Q => ∃ (ns : List Int) (k : Int), Γ = [some (.fz (.scr ns)), some (.fz (.int k))] ∧ 0 ≤ k ∧ ∀ r, Q (.fz (.int r)) Γ
theorem ok__law_cell (T : Txt K mg a) : FnOk P w K mg base CX0 1 a.f__law_cell a.fd__law_cell ["_law_script", "_law_k"] (sp3 K 2 cell_s) := by
  refine ok3 T.F__law_cell sc__law_cell (hbody := fun cdv A outer s H E hr => ⟨_, _, (q3_cons (s3_if (p3t_cmp c3_lt (bv 1) (P3.opd (p3_callB (c_len (by rfl)) (by rfl) T.z_len (by decide +kernel) (b3a_cons (bv 0) b3a_nil))) (nomark _)) (q3_one (s3_ret (p3_ix (by rfl) (bv 0) (bv 1) (fun _ _ => rfl)))) q3_nil)
      (q3_one (s3_ret (p3_add (P3.opd (p3_mul (P3.opd p3_int) (bv 1))) (P3.opd p3_int))))), fun Γa Q h hl => ?_⟩)
  obtain ⟨ns, k, rfl, hk, q⟩ := h
  walk_at "x3"
  by_cases h : k < (ns.length : Int)
  · simp only [f_lt, h, decide_true]
    exact ⟨_, atI_scr hk h, q _⟩
  · simp only [f_lt, h, decide_false]
    exact ⟨.inl ⟨by decide, by decide⟩, q _⟩
def Box (c : Int) (d : D) : Prop := ∃ x m k : Int, d = .lst [.int x, .int m, .int k] ∧ 0 ≤ x ∧ 0 ≤ m ∧ m < 2147483647 ∧ 0 ≤ k ∧ k ≤ c
def box_s : S3 := fun Γ Q => ∃ (x : Int), Γ = [some (.fz (.int x))] ∧ ∀ d, Box 0 d → Q (.fr d) Γ
theorem ok__law_box (T : Txt K mg a) : FnOk P w K mg base CX0 1 a.f__law_box a.fd__law_box ["_law_cell_here"] (sp3 K 1 box_s) := by
  refine ok3 T.F__law_box sc__law_box (hbody := fun cdv A outer s H E hr => ⟨_, _, (q3_one (s3_ret (p3_lst (p3a_cons (p3_callB (c_max rfl) (by rfl) T.z_max (by decide +kernel) (b3a_cons (P3.opd p3_int) (b3a_cons (P3.opd (p3_sub (bv 0) (P3.opd (p3_pow (v := 1000000000000000000) (by decide +kernel) ⟨by decide, by decide, by decide⟩)))) b3a_nil))) (p3a_cons (p3_mod (bv 0) (P3.opd p3_int)) (p3a_cons p3_int p3a_nil)))))), fun Γa Q h hl => ?_⟩)
  obtain ⟨x, rfl, q⟩ := h
  walk_at "x3"
  exact ⟨by decide, by rw [sizeLine_eq]; omega, q _ ⟨_, _, _, rfl, by unfold fmax; split <;> omega, Int.emod_nonneg _ (by decide), Int.emod_lt_of_pos _ (by decide), by decide, by decide⟩⟩
def take_s : S3 := fun Γ Q => ∃ (d : D) (c n : Int), Γ = [some (.ln d), some (.fz (.int n))] ∧ Box c d ∧ c ≤ 100 ∧ 0 < n ∧ n ≤ 1000000000 ∧ ∀ r d', 0 ≤ r → r < n → Box (c + 1) d' → Q (.fz (.int r)) [some (.ln d'), some (.fz (.int n))]
theorem ok__law_take (T : Txt K mg a) : FnOk P w K mg base CX0 1 a.f__law_take a.fd__law_take ["_law_box_here", "_law_many"] (sp3 K 2 take_s) := by
  refine ok3 T.F__law_take sc__law_take (hbody := fun cdv A outer s H E hr => ⟨_, _, (q3_cons (s3_if (p3t_cmp c3_gt (P3.opd (p3_ix (by rfl) (bv 0) (P3.opd p3_int) (fun _ _ => rfl))) (P3.opd p3_int) (nomark _)) (q3_cons (s3_set (i := 2) sc__law_take.nd rfl (Or.inl rfl) (p3_mod (P3.opd (p3_ix (by rfl) (bv 0) (P3.opd p3_int) (fun _ _ => rfl))) (bv 1)))
      (q3_cons (s3_setI' 0 (bv 0) (P3.opd p3_int) (p3_fdiv (P3.opd (p3_ix (by rfl) (bv 0) (P3.opd p3_int) (fun _ _ => rfl))) (bv 1)))
      (q3_one (s3_ret (p3mv 2))))) q3_nil)
      (q3_cons (s3_setI' 0 (bv 0) (P3.opd p3_int) (p3_add (P3.opd (p3_ix (by rfl) (bv 0) (P3.opd p3_int) (fun _ _ => rfl))) (P3.opd p3_int)))
      (q3_cons (s3_set (i := 3) sc__law_take.nd rfl (Or.inl rfl) (p3_add (P3.opd (p3_add (P3.opd (p3_mul (P3.opd (p3_ix (by rfl) (bv 0) (P3.opd p3_int) (fun _ _ => rfl))) (P3.opd (p3_add (P3.opd p3_int) (P3.opd (p3_mul (P3.opd p3_int) (P3.opd (p3_ix (by rfl) (bv 0) (P3.opd p3_int) (fun _ _ => rfl))))))))) (P3.opd (p3_mul (P3.opd p3_int) (P3.opd (p3_ix (by rfl) (bv 0) (P3.opd p3_int) (fun _ _ => rfl))))))) (P3.opd p3_int)))
      (q3_cons (s3_set (i := 4) sc__law_take.nd rfl (Or.inl rfl) (p3_mod (P3.opd (p3_powI (bv 3) (P3.opd p3_int))) (P3.opd p3_int)))
      (q3_cons (s3_set (i := 4) sc__law_take.nd rfl (Or.inl rfl) (p3_mod (P3.opd (p3_mul (P3.opd (p3_add (bv 4) (P3.opd (p3_mul (P3.opd p3_int) (P3.opd (p3_ix (by rfl) (bv 0) (P3.opd p3_int) (fun _ _ => rfl))))))) (P3.opd (p3_add (bv 4) (P3.opd p3_int))))) (P3.opd p3_int)))
      (q3_one (s3_ret (p3_mod (P3.opd (p3_fdiv (bv 4) (P3.opd p3_int))) (bv 1))))))))), fun Γa Q h hl => ?_⟩)
  obtain ⟨_, c, n, rfl, ⟨x, m, k, rfl, hx, hm, hm2, hk, hk2⟩, hc, hn, hn2, q⟩ := h
  walk_at "x4"
  by_cases e : 0 < x
  · simp only [f_gt, e, decide_true]
    exact ⟨hn, ⟨hn, by omega⟩, q _ _ (Int.emod_nonneg _ (by omega)) (Int.emod_lt_of_pos _ hn) ⟨_, _, _, rfl, Int.ediv_nonneg hx (by omega), hm, hm2, hk, by omega⟩⟩
  · simp only [f_gt, e, decide_false]
    have p1 : 0 ≤ m * (48271 + 2 * (k + 1)) := Int.mul_nonneg hm (by omega)
    have p2 : m * (48271 + 2 * (k + 1)) ≤ 2147483647 * (48271 + 2 * (k + 1)) := Int.mul_le_mul_of_nonneg_right (by omega) (by omega)
    refine ⟨.inl ⟨by decide, by decide⟩, .inl ⟨by omega, by omega⟩, .inl ⟨by decide, by decide⟩, ⟨by decide, by decide, ?_⟩, ?_⟩
    · show (m * (48271 + 2 * (k + 1)) + 7919 * (k + 1) + 11).natAbs < 2 ^ 64
      omega
    generalize hy : (m * (48271 + 2 * (k + 1)) + 7919 * (k + 1) + 11) ^ Int.toNat 5 % 2147483629 = y
    have hy0 : 0 ≤ y := by rw [← hy]; exact Int.emod_nonneg _ (by decide)
    have hy1 : y < 2147483629 := by rw [← hy]; exact Int.emod_lt_of_pos _ (by decide)
    exact ⟨by decide, .inl ⟨by decide, by decide⟩, .inr ⟨by omega, by omega⟩, by decide, ⟨by decide, by decide⟩, hn, q _ _ (Int.emod_nonneg _ (by omega)) (Int.emod_lt_of_pos _ hn) ⟨_, _, _, rfl, hx, hm, hm2, by omega, by omega⟩⟩
theorem pick4 {p : Int → Prop} {a b c e r : Int} {k : D → Prop} {t : Tag k} (h0 : 0 ≤ r) (h1 : r < 4) (pa : p a) (pb : p b) (pc : p c) (pe : p e) (q : ∀ v, p v → k (.int v)) : m1 (atI [.int a, .int b, .int c, .int e] r) k t := by
  obtain rfl | rfl | rfl | rfl : r = 0 ∨ r = 1 ∨ r = 2 ∨ r = 3 := by omega
  · exact q _ pa
  · exact q _ pb
  · exact q _ pc
  · exact q _ pe
theorem pick3 {p : Int → Prop} {a b c r : Int} {k : D → Prop} {t : Tag k} (h0 : 0 ≤ r) (h1 : r < 3) (pa : p a) (pb : p b) (pc : p c) (q : ∀ v, p v → k (.int v)) : m1 (atI [.int a, .int b, .int c] r) k t := by
  obtain rfl | rfl | rfl : r = 0 ∨ r = 1 ∨ r = 2 := by omega
  · exact q _ pa
  · exact q _ pb
  · exact q _ pc
theorem ifb (p : Prop) [Decidable p] : -(2 ^ 64) < (if p then (1 : Int) else 0) ∧ (if p then (1 : Int) else 0) < 2 ^ 64 := by split <;> decide
def Ok (c m q n : Int) : Prop := -100000000000000 < c ∧ c < 100000000000000 ∧ -1000000 ≤ m ∧ m ≤ 1000000 ∧ -1000 ≤ q ∧ q ≤ 1000 ∧ 2 ≤ n ∧ n ≤ 64
def bent_s : S3 := fun Γ Q => ∃ (d : D), Γ = [some (.ln d)] ∧ Box 0 d ∧ ∀ c m q n d', Ok c m q n → Box 9 d' → Q (.fz (.tup [.int c, .int m, .int q, .int n])) [some (.ln d')]
theorem ok__law_bent (T : Txt K mg a) : FnOk P w K mg base CX0 2 a.f__law_bent a.fd__law_bent ["_law_box_here"] (sp3 K 1 bent_s) := by
  refine ok3 T.F__law_bent sc__law_bent (hbody := fun cdv A outer s H E hr => ⟨_, _, (q3_cons (s3_set (i := 1) sc__law_bent.nd rfl (Or.inl rfl) (p3_call (by rfl) (ok__law_take T) (hr.mono (by decide)) (by rfl) T.m__law_take T.F__law_take.kp T.b__law_take (b3a_cons (bv 0) (b3a_cons (P3.opd p3_int) b3a_nil))))
      (q3_cons (s3_set (i := 2) sc__law_bent.nd rfl (Or.inl rfl) (p3_ix (by rfl) (P3.opd (p3_lst (p3a_cons (p3_add (P3.opd p3_int) (P3.opd (p3_call (by rfl) (ok__law_take T) (hr.mono (by decide)) (by rfl) T.m__law_take T.F__law_take.kp T.b__law_take (b3a_cons (bv 0) (b3a_cons (P3.opd p3_int) b3a_nil))))) (p3a_cons (p3_add (P3.opd p3_int) (P3.opd (p3_call (by rfl) (ok__law_take T) (hr.mono (by decide)) (by rfl) T.m__law_take T.F__law_take.kp T.b__law_take (b3a_cons (bv 0) (b3a_cons (P3.opd p3_int) b3a_nil))))) (p3a_cons p3_int (p3a_cons p3_int p3a_nil)))))) (P3.opd (p3_call (by rfl) (ok__law_take T) (hr.mono (by decide)) (by rfl) T.m__law_take T.F__law_take.kp T.b__law_take (b3a_cons (bv 0) (b3a_cons (P3.opd p3_int) b3a_nil)))) (fun _ _ => rfl)))
      (q3_cons (s3_set (i := 3) sc__law_bent.nd rfl (Or.inl rfl) (p3_add (P3.opd (p3_mul (P3.opd (p3_call (by rfl) (ok__law_take T) (hr.mono (by decide)) (by rfl) T.m__law_take T.F__law_take.kp T.b__law_take (b3a_cons (bv 0) (b3a_cons (P3.opd (p3_pow (v := 10000000) (by decide +kernel) ⟨by decide, by decide, by decide⟩)) b3a_nil)))) (P3.opd (p3_pow (v := 10000000) (by decide +kernel) ⟨by decide, by decide, by decide⟩)))) (P3.opd (p3_call (by rfl) (ok__law_take T) (hr.mono (by decide)) (by rfl) T.m__law_take T.F__law_take.kp T.b__law_take (b3a_cons (bv 0) (b3a_cons (P3.opd (p3_pow (v := 10000000) (by decide +kernel) ⟨by decide, by decide, by decide⟩)) b3a_nil))))))
      (q3_cons (s3_set (i := 3) sc__law_bent.nd rfl (Or.inl rfl) (p3_mul (bv 3) (P3.opd (p3_ix (by rfl) (P3.opd (p3_lst (p3a_cons p3_int (p3a_cons (p3_neg (P3.opd p3_int)) (p3a_cons p3_int p3a_nil))))) (P3.opd (p3_call (by rfl) (ok__law_take T) (hr.mono (by decide)) (by rfl) T.m__law_take T.F__law_take.kp T.b__law_take (b3a_cons (bv 0) (b3a_cons (P3.opd p3_int) b3a_nil)))) (fun _ _ => rfl)))))
      (q3_cons (s3_set (i := 4) sc__law_bent.nd rfl (Or.inl rfl) (p3_mul (P3.opd (p3_sub (P3.opd (p3_call (by rfl) (ok__law_take T) (hr.mono (by decide)) (by rfl) T.m__law_take T.F__law_take.kp T.b__law_take (b3a_cons (bv 0) (b3a_cons (P3.opd (p3_add (P3.opd (p3_mul (P3.opd p3_int) (P3.opd (p3_pow (v := 1000000) (by decide +kernel) ⟨by decide, by decide, by decide⟩)))) (P3.opd p3_int))) b3a_nil)))) (P3.opd (p3_pow (v := 1000000) (by decide +kernel) ⟨by decide, by decide, by decide⟩)))) (P3.opd (p3_callTy c_int (by rfl) T.z_int (by decide +kernel) (b3a_cons (P3.opd (p3_cmp c3_lt (bv 1) (P3.opd p3_int) (nomark _))) b3a_nil)))))
      (q3_cons (s3_set (i := 5) sc__law_bent.nd rfl (Or.inl rfl) (p3_mul (P3.opd (p3_sub (P3.opd (p3_call (by rfl) (ok__law_take T) (hr.mono (by decide)) (by rfl) T.m__law_take T.F__law_take.kp T.b__law_take (b3a_cons (bv 0) (b3a_cons (P3.opd p3_int) b3a_nil)))) (P3.opd p3_int))) (P3.opd (p3_callTy c_int (by rfl) T.z_int (by decide +kernel) (b3a_cons (P3.opd (p3_cmp c3_lt (bv 1) (P3.opd p3_int) (nomark _))) b3a_nil)))))
      (q3_one (s3_ret (p3_tup (p3a_cons (p3v 3) (p3a_cons (p3v 4) (p3a_cons (p3v 5) (p3a_cons (p3v 2) p3a_nil))))))))))))), fun Γa Q h hl => ?_⟩)
  obtain ⟨d, rfl, hb, q⟩ := h
  walk_at "x4"
  refine ⟨_, _, 3, rfl, hb, by decide, by decide, by decide, fun r1 d1 l1 u1 b1 => ?_⟩
  walk_at "x4"
  refine ⟨_, _, 8, rfl, b1, by decide, by decide, by decide, fun r2 d2 l2 u2 b2 => ?_⟩
  walk_at "x4"
  refine ⟨_, _, 63, rfl, b2, by decide, by decide, by decide, fun r3 d3 l3 u3 b3 => ?_⟩
  walk_at "x4"
  refine ⟨by rw [sizeLine_eq]; omega, _, _, 4, rfl, b3, by decide, by decide, by decide, fun r4 d4 l4 u4 b4 => ?_⟩
  walk_at "x4"
  refine pick4 (p := fun v => 2 ≤ v ∧ v ≤ 64) l4 u4 ⟨by omega, by omega⟩ ⟨by omega, by omega⟩ ⟨by decide, by decide⟩ ⟨by decide, by decide⟩ fun n hn => ?_
  walk_at "x4"
  refine ⟨_, _, 10000000, rfl, b4, by decide, by decide, by decide, fun r5 d5 l5 u5 b5 => ?_⟩
  walk_at "x4"
  refine ⟨.inr ⟨by decide, by decide⟩, _, _, 10000000, rfl, b5, by decide, by decide, by decide, fun r6 d6 l6 u6 b6 => ?_⟩
  walk_at "x4"
  refine ⟨by rw [sizeLine_eq]; omega, _, _, 3, rfl, b6, by decide, by decide, by decide, fun r7 d7 l7 u7 b7 => ?_⟩
  walk_at "x4"
  refine pick3 (p := fun v => v = 1 ∨ v = -1 ∨ v = 0) l7 u7 (.inl rfl) (.inr (.inl rfl)) (.inr (.inr rfl)) fun s hs => ?_
  walk_at "x4"
  refine ⟨.inr (by rcases hs with rfl | rfl | rfl <;> exact ⟨by decide, by decide⟩), .inl ⟨by decide, by decide⟩, _, _, _, rfl, b7, by decide, by decide, by decide, fun r8 d8 l8 u8 b8 => ?_⟩
  walk_at "x4"
  refine ⟨.inr (ifb _), _, _, _, rfl, b8, by decide, by decide, by decide, fun r9 d9 l9 u9 b9 => ?_⟩
  walk_at "x4"
  refine ⟨.inr (ifb _), by rw [sizeLine_eq]; omega, q _ _ _ _ _ ⟨?_, ?_, ?_, ?_, ?_, ?_, hn.1, hn.2⟩ b9⟩
  · rcases hs with rfl | rfl | rfl <;> omega
  · rcases hs with rfl | rfl | rfl <;> omega
  · split <;> omega
  · split <;> omega
  · split <;> omega
  · split <;> omega
def nought_s : S3 := fun Γ Q => ∃ (ns : List Int), Γ = [some (.fz (il ns))] ∧ (∀ n ∈ ns, n = 0) ∧ ns.length ≤ 64 ∧ Q (.fz (.bl true)) Γ
theorem ok__law_noughts (T : Txt K mg a) : FnOk P w K mg base CX0 1 a.f__law_noughts a.fd__law_noughts ["_law_numbers"] (sp3 K 1 nought_s) := by
  refine ok3 T.F__law_noughts sc__law_noughts (hbody := fun cdv A outer s H E hr => ⟨_, _, (q3_cons (s3_for PassesOwn.never rfl (i3_list (by rfl) (p3v 0)) (g3_name (i := 1) sc__law_noughts.nd rfl (Or.inl rfl))
      (q3_one (s3_if (P3W.pt (p3w_or (p3t_not (p3t_val (p3_callB (c_isI T.ty) (by rfl) T.z_isinstance (by decide +kernel) (b3a_cons (bv 1) (b3a_cons (P3.opd (p3_ty (n := "int") (by rfl) T.z_int (by decide +kernel))) b3a_nil))))) (p3w_or (p3t_val (p3_callB (c_isB T.ty) (by rfl) T.z_isinstance (by decide +kernel) (b3a_cons (bv 1) (b3a_cons (P3.opd (p3_ty (n := "bool") (by rfl) T.z_bool (by decide +kernel))) b3a_nil)))) (p3w_or1 (p3t_cmp (c3_neD (by rfl) hr) (bv 1) (P3.opd p3_int) (nomark _)))))) (q3_one (s3_ret p3_bl)) q3_nil)))
      (q3_one (s3_ret p3_bl))), fun Γa Q h hl => ?_⟩)
  obtain ⟨ns, rfl, h0, h1, q⟩ := h
  walk_at "x4"
  unfold forH for3
  walk_at "x4"
  refine ⟨fun k Γ => ∃ s, Γ = [some (.fz (il ns)), fo s], ⟨none, rfl⟩, ?_, ?_⟩
  · rintro k d Γ hd ⟨s, rfl⟩
    obtain ⟨lt, rfl⟩ := ints_get hd
    have e : ns.getD k 0 = 0 := h0 _ (by rw [show ns.getD k 0 = ns[k] by simp [List.getD, lt]]; exact List.getElem_mem lt)
    rw [e]
    walk_at "x4"
    exact ⟨some _, rfl⟩
  · rintro Γ ⟨s, rfl⟩
    walk_at "x4"
    exact q
theorem and_m {b1 b2 : Bool} {A R : Prop} (h1 : b1 = true → b2 = true → A) (h2 : ¬(b1 = true ∧ b2 = true) → R) : match (generalizing := false) b1 with | true => (match (generalizing := false) b2 with | true => A | false => R) | false => R := by
  cases b1 with
  | false => exact h2 (by simp)
  | true => cases b2 with
    | false => exact h2 (by simp)
    | true => exact h1 rfl rfl
def rowF (c m q : Int) (j : Nat) : Int := c + m * (j : Int) + q * (j : Int) * (j : Int)
theorem rg_mem {f : Nat → Int} {k : Nat} {n : Int} (h : n ∈ rg f k) : ∃ j, j < k ∧ n = f j := by
  unfold rg at h
  obtain ⟨j, h1, h2⟩ := List.mem_map.mp h
  exact ⟨j, List.mem_range.mp h1, h2.symm⟩
theorem getD_mem {ns : List Int} {k : Nat} (h : k < ns.length) : ns.getD k 0 ∈ ns := by
  rw [show ns.getD k 0 = ns[k] by simp [List.getD, h]]; exact List.getElem_mem h
theorem nr_in {ns : List Int} {k : Int} (h0 : 0 ≤ k) (h1 : k < (ns.length : Int)) : nrF ns k = ns.getD k.toNat 0 := by
  unfold nrF fmin fmax
  congr 1
  split <;> split <;> omega
theorem nr_all {ns : List Int} {c k : Int} (h : ∀ n ∈ ns, n = c) (h1 : 1 ≤ ns.length) : nrF ns k = c := by
  unfold nrF
  refine h _ (getD_mem ?_)
  unfold fmin fmax
  split <;> split <;> omega
theorem row_len (c m q : Int) (N : Nat) : (rg (rowF c m q) N).length = N := rg_len _ _
theorem mb {m j B : Int} (h1 : -B ≤ m) (h2 : m ≤ B) (h3 : 0 ≤ j) (h4 : j ≤ 64) (hB : 0 ≤ B) : -(B * 64) ≤ m * j ∧ m * j ≤ B * 64 := by
  have a1 := Int.mul_le_mul_of_nonneg_right h2 h3
  have a2 := Int.mul_le_mul_of_nonneg_left h4 hB
  have a3 := Int.mul_le_mul_of_nonneg_right h1 h3
  rw [Int.neg_mul] at a3
  omega
theorem row_b {c m q : Int} {N : Nat} (h : Ok c m q N) {j : Nat} (hj : j < N) : -900000000000000 < rowF c m q j ∧ rowF c m q j < 900000000000000 := by
  obtain ⟨h1, h2, h3, h4, h5, h6, h7, h8⟩ := h
  have b1 := mb (j := (j : Int)) h3 h4 (by omega) (by omega) (by decide)
  have b2 := mb (j := (j : Int)) h5 h6 (by omega) (by omega) (by decide)
  have b3 := mb (j := (j : Int)) (m := q * j) (B := 1000 * 64) (by omega) (by omega) (by omega) (by omega) (by decide)
  unfold rowF
  omega
theorem row_fig {c m q : Int} {N : Nat} (h : Ok c m q N) : Fig (rg (rowF c m q) N) := by
  intro n hn
  obtain ⟨j, hj, rfl⟩ := rg_mem hn
  have := row_b h hj
  omega
theorem guess_at {ns : List Int} {c m q e : Int} {N j : Nat} (hl : ns.length = N) (hj : 2 * j + 2 < N) (e0 : ns.getD (2 * j) 0 = rowF c m q (2 * j)) (e1 : ns.getD (2 * j + 1) 0 = rowF c m q (2 * j + 1) + e) (e2 : ns.getD (2 * (j + 1)) 0 = rowF c m q (2 * (j + 1))) :
    (Rl.guess.dif ns).getD j 0 = e - q := by
  show (difG (fsF ns) ns).getD j 0 = _
  unfold difG
  rw [rg_get _ (by omega), nr_in (by omega) (by rw [fs_len]; omega)]
  unfold fsF
  rw [rg_get _ (by omega), rg_get _ (by omega), e1, e0, show ((j : Int) + 1).toNat = j + 1 by omega, e2]
  have id : rowF c m q (2 * j) + rowF c m q (2 * (j + 1)) = 2 * (rowF c m q (2 * j + 1) + q) := by
    unfold rowF
    push_cast
    grind
  rw [id, Int.mul_ediv_cancel_left _ (by decide)]
  omega
theorem guess_row {c m q : Int} {N j : Nat} (hj : 2 * j + 2 < N) : (Rl.guess.dif (rg (rowF c m q) N)).getD j 0 = -q := by
  rw [guess_at (e := 0) (row_len c m q N) hj (rg_get _ (by omega)) (by rw [rg_get _ (by omega)]; omega) (rg_get _ (by omega))]
  omega
theorem sumsF_get {p : Int → Int → Int} {l : Int → Int} {ns : List Int} {j : Nat} (h : j < ns.length / 2) : (sumsF p l ns).getD j 0 = p (ns.getD (2 * j) 0) (ns.getD (2 * j + 1) 0) := by
  unfold sumsF
  rw [List.getD_eq_getElem?_getD, List.getElem?_append_left (by rw [rg_len]; exact h), ← List.getD_eq_getElem?_getD, rg_get _ h]
theorem lean_row {c m : Int} {N j : Nat} (h1 : 1 ≤ j) (hj : j + 1 < N / 2) : (Rl.lean.dif (rg (rowF c m 0) N)).getD j 0 = 0 := by
  show (rg (fun j => (gapsF (rg (rowF c m 0) N)).getD j 0 - leanAt (sumsF Rl.lean.pair Rl.lean.lone (rg (rowF c m 0) N)) j) ((rg (rowF c m 0) N).length / 2)).getD j 0 = 0
  have sl : N / 2 ≤ (sumsF Rl.lean.pair Rl.lean.lone (rg (rowF c m 0) N)).length := by unfold sumsF; rw [List.length_append, rg_len, rg_len]; omega
  rw [rg_get _ (by rw [rg_len]; omega)]
  unfold leanAt
  rw [nr_in (by omega) (by omega), nr_in (by omega) (by omega), sumsF_get (by rw [rg_len]; omega), sumsF_get (by rw [rg_len]; omega)]
  unfold gapsF
  rw [rg_get _ (by rw [rg_len]; omega), rg_get _ (by omega), rg_get _ (by omega), rg_get _ (by omega), rg_get _ (by omega), rg_get _ (by omega), rg_get _ (by omega)]
  show rowF c m 0 (2 * j) - rowF c m 0 (2 * j + 1) - ((rowF c m 0 (2 * ((j : Int) - 1).toNat) + rowF c m 0 (2 * ((j : Int) - 1).toNat + 1)) / 2 - (rowF c m 0 (2 * ((j : Int) + 1).toNat) + rowF c m 0 (2 * ((j : Int) + 1).toNat + 1)) / 2 + 2) / 4 = 0
  have a1 : rowF c m 0 (2 * ((j : Int) - 1).toNat) + rowF c m 0 (2 * ((j : Int) - 1).toNat + 1) = 2 * (c + m * (2 * (j : Int) - 2)) + m := by
    have e : ((((j : Int) - 1).toNat : Nat) : Int) = (j : Int) - 1 := by omega
    unfold rowF
    push_cast
    rw [e]
    grind
  have a2 : rowF c m 0 (2 * ((j : Int) + 1).toNat) + rowF c m 0 (2 * ((j : Int) + 1).toNat + 1) = 2 * (c + m * (2 * (j : Int) - 2)) + m + 8 * m := by
    have e : ((((j : Int) + 1).toNat : Nat) : Int) = (j : Int) + 1 := by omega
    unfold rowF
    push_cast
    rw [e]
    grind
  have a3 : rowF c m 0 (2 * j) - rowF c m 0 (2 * j + 1) = -m := by
    unfold rowF
    push_cast
    grind
  rw [a1, a2, a3]
  generalize c + m * (2 * (j : Int) - 2) = y
  omega
theorem rowF0 (c : Int) (j : Nat) : rowF c 0 0 j = c := by unfold rowF; simp
theorem row0 {c : Int} {N : Nat} {n : Int} (h : n ∈ rg (rowF c 0 0) N) : n = c := by
  obtain ⟨j, _, rfl⟩ := rg_mem h
  exact rowF0 c j
theorem flat (R : Rl) (c : Int) (N : Nat) (h2 : 2 ≤ N) : ∀ n ∈ R.dif (rg (rowF c 0 0) N), n = 0 := by
  have g : ∀ {k}, k < N → (rg (rowF c 0 0) N).getD k 0 = c := fun {k} h => by rw [rg_get _ h, rowF0]
  have hg : ∀ n ∈ gapsF (rg (rowF c 0 0) N), n = 0 := by
    intro n hn
    obtain ⟨j, hj, rfl⟩ := rg_mem hn
    rw [rg_len] at hj
    rw [g (by omega), g (by omega)]; omega
  cases R with
  | sum => exact hg
  | half => exact hg
  | guess =>
    intro n hn
    obtain ⟨j, hj, rfl⟩ := rg_mem hn
    rw [rg_len] at hj
    have hf : ∀ n ∈ fsF (rg (rowF c 0 0) N), n = c := by
      intro n hn
      obtain ⟨j, hj, rfl⟩ := rg_mem hn
      rw [rg_len] at hj
      exact g (by omega)
    rw [g (by omega), nr_all hf (by rw [fs_len, rg_len]; omega), hf _ (getD_mem (by rw [fs_len, rg_len]; omega))]
    omega
  | lean =>
    intro n hn
    obtain ⟨j, hj, rfl⟩ := rg_mem hn
    rw [rg_len] at hj
    have hs : ∀ n ∈ sumsF Rl.lean.pair Rl.lean.lone (rg (rowF c 0 0) N), n = c := by
      intro n hn
      unfold sumsF at hn
      rcases List.mem_append.mp hn with hn | hn
      · obtain ⟨j, hj, rfl⟩ := rg_mem hn
        rw [rg_len] at hj
        show (_ + _) / 2 = c
        rw [g (by omega), g (by omega)]; omega
      · split at hn
        · rw [List.mem_singleton.mp hn]
          show (rg (rowF c 0 0) N).getD _ 0 = c
          rw [rg_len]
          exact g (by omega)
        · cases hn
    have sl := sums_len (p := Rl.lean.pair) (l := Rl.lean.lone) (rg (rowF c 0 0) N) (by rw [rg_len]; omega)
    unfold leanAt
    rw [nr_all hs sl, nr_all hs sl, hg _ (getD_mem (by unfold gapsF; rw [rg_len, rg_len]; omega))]
    omega
theorem cut_get {xs : List Int} {lo hi : Nat} (lo' : Option Int) (hl : lo' = some (lo : Int) ∨ (lo' = none ∧ lo = 0)) : ∃ ys : List Int, cut (xs.map D.int) lo' (some (hi : Int)) = ys.map D.int ∧ ys.length ≤ xs.length ∧ ∀ n ∈ ys, ∃ j, lo ≤ j ∧ j < hi ∧ j < xs.length ∧ n = xs.getD j 0 := by
  have e1 : HT.sIx (xs.map D.int).length 0 lo' = min lo xs.length := by
    rcases hl with rfl | ⟨rfl, rfl⟩
    · simp only [HT.sIx, List.length_map]; split <;> omega
    · simp [HT.sIx]
  have e2 : HT.sIx (xs.map D.int).length (xs.map D.int).length (some (hi : Int)) = min hi xs.length := by
    simp only [HT.sIx, List.length_map]; split <;> omega
  refine ⟨(xs.drop (min lo xs.length)).take (min hi xs.length - min lo xs.length), ?_, ?_, ?_⟩
  · unfold L3.cut
    rw [e1, e2, List.map_take, List.map_drop]
  · rw [List.length_take, List.length_drop]; omega
  · intro n hn
    obtain ⟨i, hi', rfl⟩ := List.mem_iff_getElem.mp hn
    rw [List.length_take, List.length_drop] at hi'
    refine ⟨min lo xs.length + i, by omega, by omega, by omega, ?_⟩
    rw [List.getElem_take, List.getElem_drop]
    rw [List.getD_eq_getElem?_getD, List.getElem?_eq_getElem (by omega)]
    rfl
theorem dif_len (R : Rl) (ns : List Int) : (R.dif ns).length = ns.length / 2 := by cases R <;> exact rg_len _ _
theorem bm {b : Bool} {A B : Prop} (h1 : b = true → A) (h2 : b = false → B) : match (generalizing := false) b with | true => A | false => B := by
  cases b with
  | false => exact h2 rfl
  | true => exact h1 rfl

def right_s : S3 := fun Γ Q => ∃ (c m q n : Int), Γ = [some (.fz (.int c)), some (.fz (.int m)), some (.fz (.int q)), some (.fz (.int n))] ∧ Ok c m q n ∧ Q (.fz (.bl true)) Γ
theorem ok__law_all_right (T : Txt K mg a) : FnOk P w K mg base CX0 5 a.f__law_all_right a.fd__law_all_right ["_law_first", "_law_step", "_law_bend", "_law_many"] (sp3 K 4 right_s) := by
  refine ok3 T.F__law_all_right sc__law_all_right (hbody := fun cdv A outer s H E hr => ⟨_, _, (q3_cons (s3_setComp (i := 4) sc__law_all_right.nd rfl rfl rfl (i3_range1 (by rfl) T.z_range (p3a_cons (p3v 3) p3a_nil)) blk__law_all_right_2 (fun _ _ _ _ _ => (g3_name (i := 0) blk__law_all_right_2.nd rfl (Or.inl rfl))) (fun _ _ _ _ _ => (p3_add (P3.opd (p3_add (bv 2) (P3.opd (p3_mul (bv 3) (bv 0))))) (P3.opd (p3_mul (P3.opd (p3_mul (bv 1) (bv 0))) (bv 0))))))
      (q3_cons (s3_if (P3W.pt (p3w_and (p3t_cmp (c3_eqD (by rfl) hr) (bv 1) (P3.opd p3_int) (nomark _)) (p3w_and1 (p3t_cmp (c3_eqD (by rfl) hr) (bv 2) (P3.opd p3_int) (nomark _))))) (q3_one (s3_for PassesOwn.never rfl (i3_list (by rfl) (p3_lst (p3a_cons p3_str (p3a_cons p3_str (p3a_cons p3_str (p3a_cons p3_str p3a_nil)))))) (g3_name (i := 5) sc__law_all_right.nd rfl (Or.inl rfl))
      (q3_one (s3_if (p3t_not (p3t_val (p3_call (by rfl) (ok__law_noughts T) (hr.mono (by decide)) (by rfl) T.m__law_noughts T.F__law_noughts.kp T.b__law_noughts (b3a_cons (P3.opd (p3_ix (by rfl) (P3.opd (P3.or (p3_meth (by rfl) (P3.opd (p3_call (by rfl) (ok_rule_of T) (hr.mono (by decide)) (by rfl) T.m_rule_of T.F_rule_of.kp T.b_rule_of (b3a_cons (P3.opd (p3v 5)) b3a_nil))) T.cl_Sums T.me_Sums_halves (ok_Sums_halves T) (hr.mono (by decide)) T.b_Sums_halves (b3a_cons (P3.opd (p3_callTy (c_list (by rfl)) (by rfl) T.z_list (by decide +kernel) (b3a_cons (bv 4) b3a_nil))) b3a_nil)) (P3.or (p3_meth (by rfl) (P3.opd (p3_call (by rfl) (ok_rule_of T) (hr.mono (by decide)) (by rfl) T.m_rule_of T.F_rule_of.kp T.b_rule_of (b3a_cons (P3.opd (p3v 5)) b3a_nil))) T.cl_Halves T.me_Halves_halves (ok_Sums_halves T) (hr.mono (by decide)) T.b_Sums_halves (b3a_cons (P3.opd (p3_callTy (c_list (by rfl)) (by rfl) T.z_list (by decide +kernel) (b3a_cons (bv 4) b3a_nil))) b3a_nil)) (P3.or (p3_meth (by rfl) (P3.opd (p3_call (by rfl) (ok_rule_of T) (hr.mono (by decide)) (by rfl) T.m_rule_of T.F_rule_of.kp T.b_rule_of (b3a_cons (P3.opd (p3v 5)) b3a_nil))) T.cl_Guessed T.me_Guessed_halves (ok_Sums_halves T) (hr.mono (by decide)) T.b_Sums_halves (b3a_cons (P3.opd (p3_callTy (c_list (by rfl)) (by rfl) T.z_list (by decide +kernel) (b3a_cons (bv 4) b3a_nil))) b3a_nil)) (p3_meth (by rfl) (P3.opd (p3_call (by rfl) (ok_rule_of T) (hr.mono (by decide)) (by rfl) T.m_rule_of T.F_rule_of.kp T.b_rule_of (b3a_cons (P3.opd (p3v 5)) b3a_nil))) T.cl_Leaning T.me_Leaning_halves (ok_Sums_halves T) (hr.mono (by decide)) T.b_Sums_halves (b3a_cons (P3.opd (p3_callTy (c_list (by rfl)) (by rfl) T.z_list (by decide +kernel) (b3a_cons (bv 4) b3a_nil))) b3a_nil)))))) (P3.opd p3_int) (fun _ _ => rfl))) b3a_nil)))) (q3_one (s3_ret p3_bl)) q3_nil)))) q3_nil)
      (q3_cons (s3_set (i := 6) sc__law_all_right.nd rfl (Or.inl rfl) (p3_ix (by rfl) (P3.opd (p3_meth (by rfl) (P3.opd (p3_call (by rfl) (ok_rule_of T) (hr.mono (by decide)) (by rfl) T.m_rule_of T.F_rule_of.kp T.b_rule_of (b3a_cons (P3.opd p3_str) b3a_nil))) T.cl_Guessed T.me_Guessed_halves (ok_Sums_halves T) (hr.mono (by decide)) T.b_Sums_halves (b3a_cons (P3.opd (p3_callTy (c_list (by rfl)) (by rfl) T.z_list (by decide +kernel) (b3a_cons (bv 4) b3a_nil))) b3a_nil))) (P3.opd p3_int) (fun _ _ => rfl)))
      (q3_cons (s3_if (P3W.pt (p3w_or (p3t_cmp (c3_neD (by rfl) hr) (P3.opd (p3_callB (c_len (by rfl)) (by rfl) T.z_len (by decide +kernel) (b3a_cons (bv 6) b3a_nil))) (P3.opd (p3_fdiv (bv 3) (P3.opd p3_int))) (nomark _)) (p3w_or1 (p3t_cmp (c3_neD (by rfl) hr) (P3.opd (p3_compF rfl (i3_list (by rfl) (p3_slice (by rfl) (bv 6) p3o_none (p3o_some (P3.opd (p3_fdiv (P3.opd (p3_sub (bv 3) (P3.opd p3_int))) (P3.opd p3_int)))))) blk__law_all_right_1 (fun _ _ _ _ _ => (g3_name (i := 0) blk__law_all_right_1.nd rfl (Or.inl rfl))) (fun _ _ _ _ _ => (p3t_cmp (c3_neD (by rfl) hr) (bv 0) (P3.opd (p3_neg (bv 1))) (nomark _))) (fun _ _ _ _ _ => (p3v 0)))) (P3.opd (p3_lst p3a_nil)) (nomark _))))) (q3_one (s3_ret p3_bl)) q3_nil)
      (q3_cons (s3_if (p3t_cmp (c3_neD (by rfl) hr) (bv 2) (P3.opd p3_int) (nomark _)) (q3_one (s3_ret p3_bl)) q3_nil)
      (q3_cons (s3_set (i := 6) sc__law_all_right.nd rfl (Or.inl rfl) (p3_ix (by rfl) (P3.opd (p3_meth (by rfl) (P3.opd (p3_call (by rfl) (ok_rule_of T) (hr.mono (by decide)) (by rfl) T.m_rule_of T.F_rule_of.kp T.b_rule_of (b3a_cons (P3.opd p3_str) b3a_nil))) T.cl_Leaning T.me_Leaning_halves (ok_Sums_halves T) (hr.mono (by decide)) T.b_Sums_halves (b3a_cons (P3.opd (p3_callTy (c_list (by rfl)) (by rfl) T.z_list (by decide +kernel) (b3a_cons (bv 4) b3a_nil))) b3a_nil))) (P3.opd p3_int) (fun _ _ => rfl)))
      (q3_one (s3_ret (p3_and (p3_cmp (c3_eqD (by rfl) hr) (P3.opd (p3_callB (c_len (by rfl)) (by rfl) T.z_len (by decide +kernel) (b3a_cons (bv 6) b3a_nil))) (P3.opd (p3_fdiv (bv 3) (P3.opd p3_int))) (nomark _)) (p3_one (p3_call (by rfl) (ok__law_noughts T) (hr.mono (by decide)) (by rfl) T.m__law_noughts T.F__law_noughts.kp T.b__law_noughts (b3a_cons (P3.opd (p3_slice (by rfl) (bv 6) (p3o_some (P3.opd p3_int)) (p3o_some (P3.opd (p3_sub (P3.opd (p3_fdiv (bv 3) (P3.opd p3_int))) (P3.opd p3_int)))))) b3a_nil)))))))))))), fun Γa Q h hl => ?_⟩)
  obtain ⟨c, m, q, n, rfl, ⟨h1, h2, h3, h4, h5, h6, h7, h8⟩, k⟩ := h
  walk_at "x4"
  obtain ⟨N, rfl⟩ : ∃ N : Nat, n = (N : Int) := ⟨n.toNat, by omega⟩
  unfold compH comp3
  walk_at "x4"
  refine ⟨by omega, by omega, small (by rw [rng_len]; omega), fun k ys Γc => ys = (List.range k).map (fun j => D.int (rowF c m q j)) ∧ ∃ s, Γc = [fo s, some (.fz (.int q)), some (.fz (.int c)), some (.fz (.int m))], ⟨rfl, none, rfl⟩, ?_, ?_⟩
  · rintro i d ys Γc hd hk ⟨rfl, s, rfl⟩
    obtain ⟨lt, rfl⟩ := rng_get hd
    walk_at "x4"
    exact ⟨.inl ⟨by omega, by omega⟩, .inl ⟨by omega, by omega⟩, .inr ⟨by omega, by omega⟩, snoc rfl, some _, rfl⟩
  · rintro ys Γc hk ⟨rfl, s, rfl⟩
    rw [rng_len, Int.toNat_natCast, rg_eq]
    walk_at "x4"
    have hok : Ok c m q N := ⟨h1, h2, h3, h4, h5, h6, h7, h8⟩
    refine and_m (fun z1 z2 => ?_) (fun z => ?_)
    · obtain rfl : m = 0 := by simpa using z1
      obtain rfl : q = 0 := by simpa using z2
      unfold forH for3
      walk_at "x4"
      refine ⟨by rw [sizeLine_eq]; omega, fun k Γ => ∃ s, Γ = [some (.fz (.int c)), some (.fz (.int 0)), some (.fz (.int 0)), some (.fz (.int N)), some (.ow (il (rg (rowF c 0 0) N))), fo s, none], ⟨none, rfl⟩, ?_, ?_⟩
      · rintro j d Γ hd ⟨s, rfl⟩
        walk_at "x4"
        match j, hd with
        | 0, hd =>
          cases hd
          refine .inl ⟨.sum, rfl, ?_⟩
          walk_at "x4"
          refine ⟨rfl, .sum, _, rfl, row_fig hok, by rw [rg_len]; omega, by rw [rg_len]; omega, ?_⟩
          walk_at "x4"
          refine ⟨_, rfl, flat .sum c N (by omega), by rw [dif_len, rg_len]; omega, ?_⟩
          walk_at "x4"
          exact ⟨some _, rfl⟩
        | 1, hd =>
          cases hd
          refine .inr (.inl ⟨.half, rfl, ?_⟩)
          walk_at "x4"
          refine ⟨rfl, .half, _, rfl, row_fig hok, by rw [rg_len]; omega, by rw [rg_len]; omega, ?_⟩
          walk_at "x4"
          refine ⟨_, rfl, flat .half c N (by omega), by rw [dif_len, rg_len]; omega, ?_⟩
          walk_at "x4"
          exact ⟨some _, rfl⟩
        | 2, hd =>
          cases hd
          refine .inr (.inr (.inl ⟨.guess, rfl, ?_⟩))
          walk_at "x4"
          refine ⟨rfl, .guess, _, rfl, row_fig hok, by rw [rg_len]; omega, by rw [rg_len]; omega, ?_⟩
          walk_at "x4"
          refine ⟨_, rfl, flat .guess c N (by omega), by rw [dif_len, rg_len]; omega, ?_⟩
          walk_at "x4"
          exact ⟨some _, rfl⟩
        | 3, hd =>
          cases hd
          refine .inr (.inr (.inr ⟨.lean, rfl, ?_⟩))
          walk_at "x4"
          refine ⟨rfl, .lean, _, rfl, row_fig hok, by rw [rg_len]; omega, by rw [rg_len]; omega, ?_⟩
          walk_at "x4"
          refine ⟨_, rfl, flat .lean c N (by omega), by rw [dif_len, rg_len]; omega, ?_⟩
          walk_at "x4"
          exact ⟨some _, rfl⟩
      · rintro Γ ⟨s, rfl⟩
        walk_at "x4"
        refine ⟨.guess, rfl, ?_⟩
        walk_at "x4"
        refine ⟨rfl, .guess, rg (rowF c 0 0) N, rfl, row_fig hok, by rw [rg_len]; omega, by rw [rg_len]; omega, ?_⟩
        walk_at "x4"
        have e1 : (!(((List.map D.int (Rl.guess.dif (rg (rowF c 0 0) N))).length : Int) == (N : Int) / 2)) = false := by rw [List.length_map, dif_len, rg_len]; simp
        rw [e1]
        refine ⟨⟨by decide, by decide⟩, ?_⟩
        dsimp only
        unfold compGH compG3 loop3
        walk_at "x4"
        obtain ⟨cs, hc1, hc2, hc3⟩ := cut_get (xs := Rl.guess.dif (rg (rowF c 0 0) N)) (lo := 0) (hi := (N - 1) / 2) none (.inr ⟨rfl, rfl⟩)
        have e2 : ((N : Int) - 1) / 2 = (((N - 1) / 2 : Nat) : Int) := by omega
        rw [e2, hc1]
        refine ⟨⟨by decide, by decide⟩, fun i ys Γ => ys = [] ∧ ∃ s, Γ = [fo s, some (.fz (.int 0))], ⟨rfl, none, rfl⟩, ?_, ?_⟩
        · rintro i d ys Γ hd ⟨rfl, s, rfl⟩
          obtain ⟨lt, rfl⟩ := ints_get hd
          have e3 : cs.getD i 0 = -0 := by
            obtain ⟨j, _, j2, j3, e⟩ := hc3 _ (getD_mem lt)
            rw [e, guess_row (by omega)]
          rw [e3]
          walk_at "x4"
          rw [show (!((-0 : Int) == -0)) = false by simp]
          exact ⟨some _, rfl⟩
        · rintro ys Γ ⟨rfl, s, rfl⟩
          walk_at "x4"
          refine ⟨small (Nat.zero_le _), Nat.zero_le _, true, eqN_ints [] [], ?_⟩
          rw [show (!true) = false from rfl]; try dsimp only
          rw [show (!((0 : Int) == 0)) = false from rfl]
          dsimp only
          refine ⟨.lean, rfl, ?_⟩
          walk_at "x4"
          refine ⟨rfl, _, rfl, .lean, rg (rowF c 0 0) N, rfl, row_fig hok, by rw [rg_len]; omega, by rw [rg_len]; omega, ?_⟩
          walk_at "x4"
          have e4 : (((List.map D.int (Rl.lean.dif (rg (rowF c 0 0) N))).length : Int) == (N : Int) / 2) = true := by rw [List.length_map, dif_len, rg_len]; simp
          rw [e4]
          obtain ⟨ds, hd1, hd2, hd3⟩ := cut_get (xs := Rl.lean.dif (rg (rowF c 0 0) N)) (lo := 1) (hi := N / 2 - 1) (some 1) (.inl rfl)
          have e5 : (N : Int) / 2 - 1 = ((N / 2 - 1 : Nat) : Int) := by omega
          refine ⟨⟨by decide, by decide⟩, ⟨by decide, by decide⟩, ?_⟩
          rw [e5, hd1]
          refine ⟨ds, rfl, ?_, by rw [dif_len, rg_len] at hd2; omega, ?_⟩
          · intro n hn
            obtain ⟨j, j1, j2, j3, rfl⟩ := hd3 n hn
            exact lean_row j1 (by omega)
          walk_at "x4"
          exact k
    · skip
      refine ⟨.guess, rfl, ?_⟩
      walk_at "x4"
      refine ⟨rfl, .guess, rg (rowF c m q) N, rfl, row_fig hok, by rw [rg_len]; omega, by rw [rg_len]; omega, ?_⟩
      walk_at "x4"
      have e1 : (!(((List.map D.int (Rl.guess.dif (rg (rowF c m q) N))).length : Int) == (N : Int) / 2)) = false := by rw [List.length_map, dif_len, rg_len]; simp
      rw [e1]
      refine ⟨⟨by decide, by decide⟩, ?_⟩
      dsimp only
      unfold compGH compG3 loop3
      walk_at "x4"
      obtain ⟨cs, hc1, hc2, hc3⟩ := cut_get (xs := Rl.guess.dif (rg (rowF c m q) N)) (lo := 0) (hi := (N - 1) / 2) none (.inr ⟨rfl, rfl⟩)
      have e2 : ((N : Int) - 1) / 2 = (((N - 1) / 2 : Nat) : Int) := by omega
      rw [e2, hc1]
      refine ⟨⟨by decide, by decide⟩, fun i ys Γ => ys = [] ∧ ∃ s, Γ = [fo s, some (.fz (.int q))], ⟨rfl, none, rfl⟩, ?_, ?_⟩
      · rintro i d ys Γ hd ⟨rfl, s, rfl⟩
        obtain ⟨lt, rfl⟩ := ints_get hd
        have e3 : cs.getD i 0 = -q := by
          obtain ⟨j, _, j2, j3, e⟩ := hc3 _ (getD_mem lt)
          rw [e, guess_row (by omega)]
        rw [e3]
        walk_at "x4"
        rw [show (!((-q : Int) == -q)) = false by simp]
        exact ⟨some _, rfl⟩
      · rintro ys Γ ⟨rfl, s, rfl⟩
        walk_at "x4"
        refine ⟨small (Nat.zero_le _), Nat.zero_le _, true, eqN_ints [] [], ?_⟩
        rw [show (!true) = false from rfl]; try dsimp only
        refine bm (fun _ => k) fun hq => ?_
        obtain rfl : q = 0 := by simpa using hq
        refine ⟨.lean, rfl, ?_⟩
        walk_at "x4"
        refine ⟨rfl, _, rfl, .lean, rg (rowF c m 0) N, rfl, row_fig hok, by rw [rg_len]; omega, by rw [rg_len]; omega, ?_⟩
        walk_at "x4"
        have e4 : (((List.map D.int (Rl.lean.dif (rg (rowF c m 0) N))).length : Int) == (N : Int) / 2) = true := by rw [List.length_map, dif_len, rg_len]; simp
        rw [e4]
        obtain ⟨ds, hd1, hd2, hd3⟩ := cut_get (xs := Rl.lean.dif (rg (rowF c m 0) N)) (lo := 1) (hi := N / 2 - 1) (some 1) (.inl rfl)
        have e5 : (N : Int) / 2 - 1 = ((N / 2 - 1 : Nat) : Int) := by omega
        refine ⟨⟨by decide, by decide⟩, ⟨by decide, by decide⟩, ?_⟩
        rw [e5, hd1]
        refine ⟨ds, rfl, ?_, by rw [dif_len, rg_len] at hd2; omega, ?_⟩
        · intro n hn
          obtain ⟨j, j1, j2, j3, rfl⟩ := hd3 n hn
          exact lean_row j1 (by omega)
        walk_at "x4"
        exact k
def fw (b : Option D) : Option Sl := b.map Sl.ow
theorem free_v {s : Option D} {Γ : G} : free3 (fw s :: Γ) 0 = True := by cases s <;> rfl
theorem bS_n {n : Option D} : backS n none = none := rfl
theorem bS_z {n : Option D} {d : D} : backS n (some (.fz d)) = some (.fz d) := rfl
theorem bS_w {n : Option D} {d : D} : backS n (some (.ow d)) = some (.ow (n.getD d)) := rfl
theorem bS_l {n : Option D} {d : D} : backS n (some (.ln d)) = some (.ln (n.getD d)) := rfl
theorem bS_o {n : Option D} {s : Option D} : backS n (fo s) = fo s := by cases s <;> rfl
theorem bS_v {n : Option D} {s : Option D} : backS n (fw s) = fw (s.map fun d => n.getD d) := by cases s <;> rfl
local macro_rules | `(tactic| walk_at "x5") => `(tactic| try simp only [startG, List.length_cons, List.length_nil, Nat.reduceAdd, Nat.reduceSub, Nat.zero_add, List.replicate, List.cons_append, List.nil_append, List.append_nil,
  seq3, next3, set3, ret3, drop3, ifS3, par3, setT3, ↓t3Op_m, ↓t3Un_m, t3Chain, bor, bof, ↓call3_m, consB, nilB, cons3, nil3, t3C, t3Var, t3Mv, tst, and3, or3, not3, andV3, orV3, notV3, if3, lst3, tup3,
  Gat, Bo.at, ats, RV.d, RV.sl, add3, i2, i2', cmpI, eq3, eqS, ↓ixL_m, ↓ixT_m, m1_some, mL_some, mN_some, mI_some, len3, lenD, mx3, abs3, int3, neg3, free_s, free_n, free_z, free_w, free_o, sl3, slS3, none3, some3, list3, itemsD, tuple3, is3, knD, dB, dI, dL, dT,
  app3, ext3, zap3, ↓setI3_m, heldL, putD, tgN, tgT, gives, frees, iL3, iR1, iR2, iZ3, iE3, lz3, all3, ↓call3f_m, ↓comp3_h, ↓compG3_h, ↓for3_h, ↓meth3_m, argG, argS, argSl, lents, lendOf, List.map_cons, List.map_nil, Option.bind_some, Option.bind_none, List.nodup_nil, List.nodup_cons,
  List.getElem?_cons_zero, List.getElem?_cons_succ, List.getElem?_nil, List.set_cons_zero, List.set_cons_succ, exists_eq_left', exists_eq_left, exists_eq', exists_eq, exists_and_left, exists_and_right, Option.some.injEq, D.int.injEq, D.lst.injEq, D.str.injEq, D.tup.injEq, D.bl.injEq, D.ins.injEq, D.ty.injEq, List.cons.injEq, and_true, true_and, and_false, false_and, true_or, false_or, or_false, or_true,
  and_assoc, List.not_mem_nil, not_false_eq_true, backG_none, emit3, bif3, eqD3, eqN_i, eqN_s, eqN_b, eqN_ints, Bool.false_xor, Bool.not_true, Bool.not_false, Bool.true_xor, outG, List.mapIdx_cons, List.mapIdx_nil, backG, bS_n, bS_z, bS_w, bS_l, bS_o, bS_v, free_v, ite_self, newD, Option.getD_some, Option.getD_none, atI_0, atI_1, atI_2, atI_3, ixN_30, ixN_31, ixN_32, if_pos, if_true, if_false, List.all_cons, List.all_nil, Option.isNone_none, Bool.and_true, Bool.true_and, decide_eq_true_eq, not_true, not_false_iff, reduceCtorEq])

theorem ixN_in {n : Nat} {k : Int} (h0 : 0 ≤ k) (h1 : k < (n : Int)) : ixN n k = some k.toNat := by
  unfold ixN
  simp only [h0, h1, if_true, and_self, if_pos]
  try rfl
theorem set_fig {ns : List Int} {i : Nat} {v : Int} (h : Fig ns) (hv : -1000000000000000 < v ∧ v < 1000000000000000) : Fig (ns.set i v) := by
  intro n hn
  rcases List.mem_or_eq_of_mem_set hn with hn | rfl
  · exact h n hn
  · exact hv
theorem set_get {ns : List Int} {i j : Nat} {v : Int} (h : i ≠ j) : (ns.set i v).getD j 0 = ns.getD j 0 := by
  rw [List.getD_eq_getElem?_getD, List.getElem?_set_ne h, ← List.getD_eq_getElem?_getD]
theorem set_self {ns : List Int} {i : Nat} {v : Int} (h : i < ns.length) : (ns.set i v).getD i 0 = v := by
  rw [List.getD_eq_getElem?_getD, List.getElem?_set_self h]; rfl
theorem guess_set {c m q e : Int} {N u : Nat} (h : 2 * u + 2 < N) : (Rl.guess.dif ((rg (rowF c m q) N).set (2 * u + 1) ((rg (rowF c m q) N).getD (2 * u + 1) 0 + e))).getD u 0 = e - q := by
  refine guess_at (N := N) (c := c) (m := m) (by rw [List.length_set, rg_len]) h ?_ ?_ ?_
  · rw [set_get (by omega), rg_get _ (by omega)]
  · rw [set_self (by rw [rg_len]; omega), rg_get _ (by omega)]
  · rw [set_get (by omega), rg_get _ (by omega)]
theorem forH_def {i3 : TI3} {g3 : TG3} {b3 : TS3} {D : E3} {Γ : G} {t1 : Tag (i3, g3, b3)} {t2 : Tag D} : forH i3 g3 b3 D Γ t1 t2 = (i3 Γ fun xs Γ1 => ∃ Iv : Nat → G → Prop, Iv 0 Γ1 ∧ (∀ k d Γ, xs[k]? = some d → Iv k Γ → g3 d Γ fun Γ' => b3 { D with nx := Iv (k + 1), ct := Iv (k + 1), bk := D.nx } Γ') ∧ ∀ Γ, Iv xs.length Γ → D.nx Γ) := rfl
theorem ok_law3 (T : Txt K mg a) : FnOk P w K mg base CX0 6 a.f_law a.fd_law ["_law_script"] (sp3 K 1 (law_s 63)) := by
  refine ok3 T.F_law sc_law (hbody := fun cdv A outer s H E hr => ⟨_, _, (q3_cons (s3_for PassesOwn.never rfl (i3_range1 (by rfl) T.z_range (p3a_cons (p3_callB (c_max rfl) (by rfl) T.z_max (by decide +kernel) (b3a_cons (P3.opd p3_int) (b3a_cons (P3.opd (p3_callB (c_min rfl) (by rfl) T.z_min (by decide +kernel) (b3a_cons (P3.opd (p3_callB (c_len (by rfl)) (by rfl) T.z_len (by decide +kernel) (b3a_cons (bv 0) b3a_nil))) (b3a_cons (P3.opd p3_int) b3a_nil)))) b3a_nil))) p3a_nil)) (g3_name (i := 1) sc_law.nd rfl (Or.inl rfl))
      (q3_cons (s3_set (i := 2) sc_law.nd rfl (Or.inl rfl) (p3_call (by rfl) (ok__law_box T) (hr.mono (by decide)) (by rfl) T.m__law_box T.F__law_box.kp T.b__law_box (b3a_cons (P3.opd (p3_call (by rfl) (ok__law_cell T) (hr.mono (by decide)) (by rfl) T.m__law_cell T.F__law_cell.kp T.b__law_cell (b3a_cons (P3.opd (p3v 0)) (b3a_cons (P3.opd (p3v 1)) b3a_nil)))) b3a_nil)))
      (q3_cons (s3_setT (is := [3, 4, 5, 6]) (by rfl) (p3_call (by rfl) (ok__law_bent T) (hr.mono (by decide)) (by rfl) T.m__law_bent T.F__law_bent.kp T.b__law_bent (b3a_cons (bv 2) b3a_nil)) (pgs_cons (pg_name (i := 3) sc_law.nd rfl (Or.inr rfl)) (pgs_cons (pg_name (i := 4) sc_law.nd rfl (Or.inr rfl)) (pgs_cons (pg_name (i := 5) sc_law.nd rfl (Or.inr rfl)) (pgs_cons (pg_name (i := 6) sc_law.nd rfl (Or.inl rfl)) pgs_nil)))) rfl)
      (q3_cons (s3_set (i := 7) sc_law.nd rfl (Or.inl rfl) (p3_add (P3.opd (p3_mul (P3.opd p3_int) (P3.opd (p3_call (by rfl) (ok__law_take T) (hr.mono (by decide)) (by rfl) T.m__law_take T.F__law_take.kp T.b__law_take (b3a_cons (bv 2) (b3a_cons (P3.opd (p3_fdiv (bv 6) (P3.opd p3_int))) b3a_nil)))))) (P3.opd p3_int)))
      (q3_cons (s3_set (i := 8) sc_law.nd rfl (Or.inl rfl) (p3_add (P3.opd p3_int) (P3.opd (p3_call (by rfl) (ok__law_take T) (hr.mono (by decide)) (by rfl) T.m__law_take T.F__law_take.kp T.b__law_take (b3a_cons (bv 2) (b3a_cons (P3.opd p3_int) b3a_nil))))))
      (q3_cons (s3_for PassesOwn.never rfl (i3_range1 (by rfl) T.z_range (p3a_cons p3_int p3a_nil)) (g3_name (i := 9) sc_law.nd rfl (Or.inl rfl))
      (q3_cons (s3_if (p3t_not (p3t_val (p3_call (by rfl) (ok__law_all_right T) (hr.mono (by decide)) (by rfl) T.m__law_all_right T.F__law_all_right.kp T.b__law_all_right (b3a_cons (P3.opd (p3v 3)) (b3a_cons (P3.opd (p3v 4)) (b3a_cons (P3.opd (p3v 5)) (b3a_cons (P3.opd (p3v 6)) b3a_nil))))))) (q3_one (s3_ret p3_bl)) q3_nil)
      (q3_cons (s3_setComp (i := 10) sc_law.nd rfl rfl rfl (i3_range1 (by rfl) T.z_range (p3a_cons (p3v 6) p3a_nil)) blk_law_1 (fun _ _ _ _ _ => (g3_name (i := 0) blk_law_1.nd rfl (Or.inl rfl))) (fun _ _ _ _ _ => (p3_add (P3.opd (p3_add (bv 2) (P3.opd (p3_mul (bv 3) (bv 0))))) (P3.opd (p3_mul (P3.opd (p3_mul (bv 1) (bv 0))) (bv 0))))))
      (q3_cons (s3_setI' 10 (bv 10) (bv 7) (p3_add (P3.opd (p3_ix (by rfl) (bv 10) (bv 7) (fun _ _ => rfl))) (bv 8)))
      (q3_cons (s3_set (i := 11) sc_law.nd rfl (Or.inl rfl) (p3_ix (by rfl) (P3.opd (p3_meth (by rfl) (P3.opd (p3_call (by rfl) (ok_rule_of T) (hr.mono (by decide)) (by rfl) T.m_rule_of T.F_rule_of.kp T.b_rule_of (b3a_cons (P3.opd p3_str) b3a_nil))) T.cl_Guessed T.me_Guessed_halves (ok_Sums_halves T) (hr.mono (by decide)) T.b_Sums_halves (b3a_cons (P3.opd (p3v 10)) b3a_nil))) (P3.opd p3_int) (fun _ _ => rfl)))
      (q3_one (s3_if (P3W.pt (p3w_and (p3t_cmp c3_lt (bv 7) (P3.opd (p3_sub (bv 6) (P3.opd p3_int))) (nomark _)) (p3w_and1 (p3t_cmp (c3_neD (by rfl) hr) (P3.opd (p3_ix (by rfl) (bv 11) (P3.opd (p3_fdiv (bv 7) (P3.opd p3_int))) (fun _ _ => rfl))) (P3.opd (p3_sub (bv 8) (bv 5))) (nomark _))))) (q3_one (s3_ret p3_bl)) q3_nil)))))))
      (q3_one (s3_if (p3t_not (p3t_val (p3_call (by rfl) (ok__law_all_right T) (hr.mono (by decide)) (by rfl) T.m__law_all_right T.F__law_all_right.kp T.b__law_all_right (b3a_cons (P3.opd (p3v 3)) (b3a_cons (P3.opd p3_int) (b3a_cons (P3.opd p3_int) (b3a_cons (P3.opd (p3v 6)) b3a_nil))))))) (q3_one (s3_ret p3_bl)) q3_nil))))))))
      (q3_one (s3_ret p3_bl))), fun Γa Q h hl => ?_⟩)
  obtain ⟨ns, rfl, hn, k⟩ := h
  walk_at "x5"
  rw [forH_def]
  walk_at "x5"
  refine ⟨by unfold fmax fmin; split <;> split <;> omega, by unfold fmax fmin; split <;> split <;> omega, fun k Γ => ∃ s1 b2 s3 s4 s5 s6 s7 s8 s9 s10 s11, Γ = [some (.fz (.scr ns)), fo s1, fw b2, fo s3, fo s4, fo s5, fo s6, fo s7, fo s8, fo s9, fo s10, fo s11], ⟨none, none, none, none, none, none, none, none, none, none, none, rfl⟩, ?_, ?_⟩
  · rintro j d Γ hd ⟨s1, b2, s3, s4, s5, s6, s7, s8, s9, s10, s11, rfl⟩
    obtain ⟨lt, rfl⟩ := rng_get hd
    walk_at "x5"
    refine ⟨ns, (j : Int), rfl, by omega, fun x => ?_⟩
    walk_at "x5"
    refine ⟨x, rfl, fun d hb => ?_⟩
    walk_at "x5"
    refine ⟨d, rfl, hb, fun c m q n d1 hok b1 => ?_⟩
    walk_at "x5"
    obtain ⟨h1, h2, h3, h4, h5, h6, h7, h8⟩ := id hok
    obtain ⟨N, rfl⟩ : ∃ N : Nat, n = (N : Int) := ⟨n.toNat, by omega⟩
    refine ⟨⟨by decide, by decide⟩, _, _, _, rfl, b1, by decide, by omega, by omega, fun u d2 l2 u2 b2 => ?_⟩
    walk_at "x5"
    refine ⟨.inl ⟨by decide, by decide⟩, _, _, _, rfl, b2, by decide, by decide, by decide, fun e d3 l3 u3 b3 => ?_⟩
    walk_at "x5"
    obtain ⟨u, rfl⟩ : ∃ v : Nat, u = (v : Int) := ⟨u.toNat, by omega⟩
    rw [forH_def]
    walk_at "x5"
    refine ⟨by decide, by decide, fun k Γ => ∃ s9 s10 s11, Γ = [some (.fz (.scr ns)), some (.fz (.int j)), some (.ow d3), some (.fz (.int c)), some (.fz (.int m)), some (.fz (.int q)), some (.fz (.int N)), some (.fz (.int (2 * (u : Int) + 1))), some (.fz (.int (1 + e))), fo s9, fo s10, fo s11], ⟨_, _, _, rfl⟩, ?_, ?_⟩
    · rintro j2 d Γ hd2 ⟨s9, s10, s11, rfl⟩
      obtain ⟨lt2, rfl⟩ := rng_get hd2
      walk_at "x5"
      refine ⟨c, m, q, N, rfl, hok, ?_⟩
      walk_at "x5"
      unfold compH comp3
      walk_at "x5"
      refine ⟨by omega, by omega, small (by rw [rng_len]; omega), fun k ys Γc => ys = (List.range k).map (fun j => D.int (rowF c m q j)) ∧ ∃ s, Γc = [fo s, some (.fz (.int q)), some (.fz (.int c)), some (.fz (.int m))], ⟨rfl, none, rfl⟩, ?_, ?_⟩
      · rintro i d ys Γc hd hk ⟨rfl, s, rfl⟩
        obtain ⟨lt, rfl⟩ := rng_get hd
        walk_at "x5"
        exact ⟨.inl ⟨by omega, by omega⟩, .inl ⟨by omega, by omega⟩, .inr ⟨by omega, by omega⟩, snoc rfl, some _, rfl⟩
      · rintro ys Γc hk ⟨rfl, s, rfl⟩
        rw [rng_len, Int.toNat_natCast, rg_eq]
        walk_at "x5"
        have ha : (2 * (u : Int) + 1) < (((rg (rowF c m q) N).length : Nat) : Int) := by rw [rg_len]; omega
        refine m1_ex.mpr ⟨_, atI_int (ns := rg (rowF c m q) N) (by omega) ha, ?_⟩
        walk_at "x5"
        rw [ixN_in (by omega) (by rw [List.length_map]; exact ha)]
        walk_at "x5"
        have hu : (2 * (u : Int) + 1).toNat = 2 * u + 1 := by omega
        rw [hu, ← List.map_set]
        refine ⟨.guess, rfl, ?_⟩
        walk_at "x5"
        refine ⟨rfl, .guess, (rg (rowF c m q) N).set (2 * u + 1) ((rg (rowF c m q) N).getD (2 * u + 1) 0 + (1 + e)), rfl, set_fig (row_fig hok) ?_, by rw [List.length_set, rg_len]; omega, by rw [List.length_set, rg_len]; omega, ?_⟩
        · rw [rg_get _ (by omega)]
          have := row_b hok (j := 2 * u + 1) (by omega)
          omega
        walk_at "x5"
        refine bm (fun h => ?_) (fun _ => ⟨⟨some _, rfl⟩, ⟨some _, rfl⟩, ⟨some _, rfl⟩⟩)
        have h' : 2 * u + 2 < N := by have := of_decide_eq_true h; omega
        refine ⟨⟨by decide, by decide⟩, m1_ex.mpr ⟨_, atI_int (by omega) (by rw [dif_len, List.length_set, rg_len]; omega), ?_⟩⟩
        rw [show ((2 * (u : Int) + 1) / 2).toNat = u by omega, guess_set h']
        walk_at "x5"
        rw [show (!((1 + e - q : Int) == 1 + e - q)) = false by simp]
        exact ⟨⟨some _, rfl⟩, ⟨some _, rfl⟩, ⟨some _, rfl⟩⟩
    · rintro Γ ⟨s9, s10, s11, rfl⟩
      walk_at "x5"
      refine ⟨c, 0, 0, N, rfl, ⟨h1, h2, by decide, by decide, by decide, by decide, h7, h8⟩, ?_⟩
      walk_at "x5"
      exact ⟨⟨some _, rfl⟩, ⟨some _, rfl⟩, ⟨some _, rfl⟩, ⟨some _, rfl⟩, ⟨some _, rfl⟩, ⟨some _, rfl⟩, ⟨some _, rfl⟩, ⟨some _, rfl⟩, ⟨s9, rfl⟩, ⟨s10, rfl⟩, ⟨s11, rfl⟩⟩
  · rintro Γ ⟨s1, b2, s3, s4, s5, s6, s7, s8, s9, s10, s11, rfl⟩
    walk_at "x5"
    exact k _
def sp_law (K : PySem.W.Frag) : Sp := fun vs H Q _ => ∃ (p : Addr) (ns : List Int), vs = [.ref p] ∧ SqL K H p (ns.map V.int) ∧ ns.length ≤ 63 ∧ ∀ H', Q (.bl true) H'
theorem ok_law (T : Txt K mg a) : FnOk P w K mg base CX0 6 a.f_law a.fd_law ["_law_script"] (sp_law K) := law_of (ok_law3 T)
end
theorem all_mk {l : PySem.W.OpenLaw} {w : World} {K : PySem.W.Frag} {h : Heap} {mg : Str → Option Value} {fa : Addr} (X : K.In h) (G : h.Ns mainGlobals mg) (hfa : mg "law" = some (.ref fa))
    {C_Guessed : Addr}
    {C_Halves : Addr}
    {C_Leaning : Addr}
    {C_Sums : Addr}
    {f0 : Addr} {od0 an0 : Option Addr} {sl0 : Array (Option Value)} {oc0 kV0 dc0 pm0 cd0 ct0 : Value}
    {f1 : Addr} {od1 an1 : Option Addr} {sl1 : Array (Option Value)} {oc1 kV1 dc1 pm1 cd1 ct1 : Value}
    {f2 : Addr} {od2 an2 : Option Addr} {sl2 : Array (Option Value)} {oc2 kV2 dc2 pm2 cd2 ct2 : Value}
    {f3 : Addr} {od3 an3 : Option Addr} {sl3 : Array (Option Value)} {oc3 kV3 dc3 pm3 cd3 ct3 : Value}
    {f4 : Addr} {od4 an4 : Option Addr} {sl4 : Array (Option Value)} {oc4 kV4 dc4 pm4 cd4 ct4 : Value}
    {f5 : Addr} {od5 an5 : Option Addr} {sl5 : Array (Option Value)} {oc5 kV5 dc5 pm5 cd5 ct5 : Value}
    {f6 : Addr} {od6 an6 : Option Addr} {sl6 : Array (Option Value)} {oc6 kV6 dc6 pm6 cd6 ct6 : Value}
    {f7 : Addr} {od7 an7 : Option Addr} {sl7 : Array (Option Value)} {oc7 kV7 dc7 pm7 cd7 ct7 : Value}
    {f8 : Addr} {od8 an8 : Option Addr} {sl8 : Array (Option Value)} {oc8 kV8 dc8 pm8 cd8 ct8 : Value}
    {f9 : Addr} {od9 an9 : Option Addr} {sl9 : Array (Option Value)} {oc9 kV9 dc9 pm9 cd9 ct9 : Value}
    {f10 : Addr} {od10 an10 : Option Addr} {sl10 : Array (Option Value)} {oc10 kV10 dc10 pm10 cd10 ct10 : Value}
    {f11 : Addr} {od11 an11 : Option Addr} {sl11 : Array (Option Value)} {oc11 kV11 dc11 pm11 cd11 ct11 : Value}
    {f12 : Addr} {od12 an12 : Option Addr} {sl12 : Array (Option Value)} {oc12 kV12 dc12 pm12 cd12 ct12 : Value}
    {f13 : Addr} {od13 an13 : Option Addr} {sl13 : Array (Option Value)} {oc13 kV13 dc13 pm13 cd13 ct13 : Value}
    {f14 : Addr} {od14 an14 : Option Addr} {sl14 : Array (Option Value)} {oc14 kV14 dc14 pm14 cd14 ct14 : Value}
    {f15 : Addr} {od15 an15 : Option Addr} {sl15 : Array (Option Value)} {oc15 kV15 dc15 pm15 cd15 ct15 : Value}
    {f16 : Addr} {od16 an16 : Option Addr} {sl16 : Array (Option Value)} {oc16 kV16 dc16 pm16 cd16 ct16 : Value}
    {f17 : Addr} {od17 an17 : Option Addr} {sl17 : Array (Option Value)} {oc17 kV17 dc17 pm17 cd17 ct17 : Value}
    {f18 : Addr} {od18 an18 : Option Addr} {sl18 : Array (Option Value)} {oc18 kV18 dc18 pm18 cd18 ct18 : Value}
    {f19 : Addr} {od19 an19 : Option Addr} {sl19 : Array (Option Value)} {oc19 kV19 dc19 pm19 cd19 ct19 : Value}
    {f20 : Addr} {od20 an20 : Option Addr} {sl20 : Array (Option Value)} {oc20 kV20 dc20 pm20 cd20 ct20 : Value}
    {f21 : Addr} {od21 an21 : Option Addr} {sl21 : Array (Option Value)} {oc21 kV21 dc21 pm21 cd21 ct21 : Value}
    {f22 : Addr} {od22 an22 : Option Addr} {sl22 : Array (Option Value)} {oc22 kV22 dc22 pm22 cd22 ct22 : Value}
    {f23 : Addr} {od23 an23 : Option Addr} {sl23 : Array (Option Value)} {oc23 kV23 dc23 pm23 cd23 ct23 : Value}
    {f24 : Addr} {od24 an24 : Option Addr} {sl24 : Array (Option Value)} {oc24 kV24 dc24 pm24 cd24 ct24 : Value}
    {f25 : Addr} {od25 an25 : Option Addr} {sl25 : Array (Option Value)} {oc25 kV25 dc25 pm25 cd25 ct25 : Value}
    {f26 : Addr} {od26 an26 : Option Addr} {sl26 : Array (Option Value)} {oc26 kV26 dc26 pm26 cd26 ct26 : Value}
    {f27 : Addr} {od27 an27 : Option Addr} {sl27 : Array (Option Value)} {oc27 kV27 dc27 pm27 cd27 ct27 : Value}
    {f28 : Addr} {od28 an28 : Option Addr} {sl28 : Array (Option Value)} {oc28 kV28 dc28 pm28 cd28 ct28 : Value}
    {f29 : Addr} {od29 an29 : Option Addr} {sl29 : Array (Option Value)} {oc29 kV29 dc29 pm29 cd29 ct29 : Value}
    {f30 : Addr} {od30 an30 : Option Addr} {sl30 : Array (Option Value)} {oc30 kV30 dc30 pm30 cd30 ct30 : Value}
    {t_MOST_NUMBER : Tok}
    {t_MOST_SIDE : Tok}
    (aC_Guessed : PySem.W.nsIn K mainGlobals "Guessed" = some (some (.ref C_Guessed)))
    (pg_Guessed : PySem.W.plainGet K C_Guessed Str.empty = true)
    (hd_Guessed : PySem.W.hasDictIn K C_Guessed = true)
    (po_Guessed : PySem.W.plainOver K C_Guessed = true)
    (sa_Guessed : PySem.W.findIn K (.ref C_Guessed) "__setattr__" = some (some (.builtin "object.__setattr__")))
    (mk_Guessed : PySem.W.makesIn K C_Guessed = true)
    (kc_Guessed : PySem.W.keepIn K (.ref C_Guessed) = true)
    (in_Guessed : PySem.W.findIn K (.ref C_Guessed) "__init__" = some (some (.builtin "object.__init__")))
    (aC_Halves : PySem.W.nsIn K mainGlobals "Halves" = some (some (.ref C_Halves)))
    (pg_Halves : PySem.W.plainGet K C_Halves Str.empty = true)
    (hd_Halves : PySem.W.hasDictIn K C_Halves = true)
    (po_Halves : PySem.W.plainOver K C_Halves = true)
    (sa_Halves : PySem.W.findIn K (.ref C_Halves) "__setattr__" = some (some (.builtin "object.__setattr__")))
    (mk_Halves : PySem.W.makesIn K C_Halves = true)
    (kc_Halves : PySem.W.keepIn K (.ref C_Halves) = true)
    (in_Halves : PySem.W.findIn K (.ref C_Halves) "__init__" = some (some (.builtin "object.__init__")))
    (aC_Leaning : PySem.W.nsIn K mainGlobals "Leaning" = some (some (.ref C_Leaning)))
    (pg_Leaning : PySem.W.plainGet K C_Leaning Str.empty = true)
    (hd_Leaning : PySem.W.hasDictIn K C_Leaning = true)
    (po_Leaning : PySem.W.plainOver K C_Leaning = true)
    (sa_Leaning : PySem.W.findIn K (.ref C_Leaning) "__setattr__" = some (some (.builtin "object.__setattr__")))
    (mk_Leaning : PySem.W.makesIn K C_Leaning = true)
    (kc_Leaning : PySem.W.keepIn K (.ref C_Leaning) = true)
    (in_Leaning : PySem.W.findIn K (.ref C_Leaning) "__init__" = some (some (.builtin "object.__init__")))
    (aC_Sums : PySem.W.nsIn K mainGlobals "Sums" = some (some (.ref C_Sums)))
    (pg_Sums : PySem.W.plainGet K C_Sums Str.empty = true)
    (hd_Sums : PySem.W.hasDictIn K C_Sums = true)
    (po_Sums : PySem.W.plainOver K C_Sums = true)
    (sa_Sums : PySem.W.findIn K (.ref C_Sums) "__setattr__" = some (some (.builtin "object.__setattr__")))
    (mk_Sums : PySem.W.makesIn K C_Sums = true)
    (kc_Sums : PySem.W.keepIn K (.ref C_Sums) = true)
    (in_Sums : PySem.W.findIn K (.ref C_Sums) "__init__" = some (some (.builtin "object.__init__")))
    (a0 : PySem.W.nsIn K mainGlobals "is_whole" = some (some (.ref f0)))
    (l0 : K.lookup f0 = some ⟨oc0, od0, .func (PySem.W.fnOf "is_whole" "is_whole" (defArgs s_is_whole) (defBody s_is_whole) (defScope s_is_whole) .none kV0 dc0 pm0 an0 cd0 ct0), sl0⟩)
    (c0 : PySem.W.codeIn K cd0 "is_whole" = true)
    (k0 : PySem.W.keepIn K (.ref f0) = true)
    (a1 : PySem.W.nsIn K mainGlobals "is_number" = some (some (.ref f1)))
    (l1 : K.lookup f1 = some ⟨oc1, od1, .func (PySem.W.fnOf "is_number" "is_number" (defArgs s_is_number) (defBody s_is_number) (defScope s_is_number) .none kV1 dc1 pm1 an1 cd1 ct1), sl1⟩)
    (c1 : PySem.W.codeIn K cd1 "is_number" = true)
    (k1 : PySem.W.keepIn K (.ref f1) = true)
    (a2 : PySem.W.nsIn K mainGlobals "is_row" = some (some (.ref f2)))
    (l2 : K.lookup f2 = some ⟨oc2, od2, .func (PySem.W.fnOf "is_row" "is_row" (defArgs s_is_row) (defBody s_is_row) (defScope s_is_row) .none kV2 dc2 pm2 an2 cd2 ct2), sl2⟩)
    (c2 : PySem.W.codeIn K cd2 "is_row" = true)
    (k2 : PySem.W.keepIn K (.ref f2) = true)
    (a3 : PySem.W.nsIn K mainGlobals "pairs_of" = some (some (.ref f3)))
    (l3 : K.lookup f3 = some ⟨oc3, od3, .func (PySem.W.fnOf "pairs_of" "pairs_of" (defArgs s_pairs_of) (defBody s_pairs_of) (defScope s_pairs_of) .none kV3 dc3 pm3 an3 cd3 ct3), sl3⟩)
    (c3 : PySem.W.codeIn K cd3 "pairs_of" = true)
    (k3 : PySem.W.keepIn K (.ref f3) = true)
    (a4 : PySem.W.nsIn K mainGlobals "gaps_of" = some (some (.ref f4)))
    (l4 : K.lookup f4 = some ⟨oc4, od4, .func (PySem.W.fnOf "gaps_of" "gaps_of" (defArgs s_gaps_of) (defBody s_gaps_of) (defScope s_gaps_of) .none kV4 dc4 pm4 an4 cd4 ct4), sl4⟩)
    (c4 : PySem.W.codeIn K cd4 "gaps_of" = true)
    (k4 : PySem.W.keepIn K (.ref f4) = true)
    (a5 : PySem.W.findIn K (.ref C_Sums) "word" = some (some (.ref f5)))
    (i5 : PySem.W.isFn K (.ref f5) = true)
    (l5 : K.lookup f5 = some ⟨oc5, od5, .func (PySem.W.fnOf "word" "Sums.word" (defArgs s_Sums_word) (defBody s_Sums_word) (defScope s_Sums_word) .none kV5 dc5 pm5 an5 cd5 ct5), sl5⟩)
    (c5 : PySem.W.codeIn K cd5 "Sums.word" = true)
    (k5 : PySem.W.keepIn K (.ref f5) = true)
    (a6 : PySem.W.findIn K (.ref C_Guessed) "halves" = some (some (.ref f6)))
    (i6 : PySem.W.isFn K (.ref f6) = true)
    (l6 : K.lookup f6 = some ⟨oc6, od6, .func (PySem.W.fnOf "halves" "Sums.halves" (defArgs s_Sums_halves) (defBody s_Sums_halves) (defScope s_Sums_halves) .none kV6 dc6 pm6 an6 cd6 ct6), sl6⟩)
    (c6 : PySem.W.codeIn K cd6 "Sums.halves" = true)
    (k6 : PySem.W.keepIn K (.ref f6) = true)
    (a7 : PySem.W.findIn K (.ref C_Halves) "parted" = some (some (.ref f7)))
    (i7 : PySem.W.isFn K (.ref f7) = true)
    (l7 : K.lookup f7 = some ⟨oc7, od7, .func (PySem.W.fnOf "parted" "Sums.parted" (defArgs s_Sums_parted) (defBody s_Sums_parted) (defScope s_Sums_parted) .none kV7 dc7 pm7 an7 cd7 ct7), sl7⟩)
    (c7 : PySem.W.codeIn K cd7 "Sums.parted" = true)
    (k7 : PySem.W.keepIn K (.ref f7) = true)
    (a8 : PySem.W.findIn K (.ref C_Guessed) "sums_of" = some (some (.ref f8)))
    (i8 : PySem.W.isFn K (.ref f8) = true)
    (l8 : K.lookup f8 = some ⟨oc8, od8, .func (PySem.W.fnOf "sums_of" "Sums.sums_of" (defArgs s_Sums_sums_of) (defBody s_Sums_sums_of) (defScope s_Sums_sums_of) .none kV8 dc8 pm8 an8 cd8 ct8), sl8⟩)
    (c8 : PySem.W.codeIn K cd8 "Sums.sums_of" = true)
    (k8 : PySem.W.keepIn K (.ref f8) = true)
    (a9 : PySem.W.findIn K (.ref C_Guessed) "sum_of_pair" = some (some (.ref f9)))
    (i9 : PySem.W.isFn K (.ref f9) = true)
    (l9 : K.lookup f9 = some ⟨oc9, od9, .func (PySem.W.fnOf "sum_of_pair" "Sums.sum_of_pair" (defArgs s_Sums_sum_of_pair) (defBody s_Sums_sum_of_pair) (defScope s_Sums_sum_of_pair) .none kV9 dc9 pm9 an9 cd9 ct9), sl9⟩)
    (c9 : PySem.W.codeIn K cd9 "Sums.sum_of_pair" = true)
    (k9 : PySem.W.keepIn K (.ref f9) = true)
    (a10 : PySem.W.findIn K (.ref C_Guessed) "sum_of_lone" = some (some (.ref f10)))
    (i10 : PySem.W.isFn K (.ref f10) = true)
    (l10 : K.lookup f10 = some ⟨oc10, od10, .func (PySem.W.fnOf "sum_of_lone" "Sums.sum_of_lone" (defArgs s_Sums_sum_of_lone) (defBody s_Sums_sum_of_lone) (defScope s_Sums_sum_of_lone) .none kV10 dc10 pm10 an10 cd10 ct10), sl10⟩)
    (c10 : PySem.W.codeIn K cd10 "Sums.sum_of_lone" = true)
    (k10 : PySem.W.keepIn K (.ref f10) = true)
    (a11 : PySem.W.findIn K (.ref C_Halves) "word" = some (some (.ref f11)))
    (i11 : PySem.W.isFn K (.ref f11) = true)
    (l11 : K.lookup f11 = some ⟨oc11, od11, .func (PySem.W.fnOf "word" "Halves.word" (defArgs s_Halves_word) (defBody s_Halves_word) (defScope s_Halves_word) .none kV11 dc11 pm11 an11 cd11 ct11), sl11⟩)
    (c11 : PySem.W.codeIn K cd11 "Halves.word" = true)
    (k11 : PySem.W.keepIn K (.ref f11) = true)
    (a12 : PySem.W.findIn K (.ref C_Halves) "sum_of_pair" = some (some (.ref f12)))
    (i12 : PySem.W.isFn K (.ref f12) = true)
    (l12 : K.lookup f12 = some ⟨oc12, od12, .func (PySem.W.fnOf "sum_of_pair" "Halves.sum_of_pair" (defArgs s_Halves_sum_of_pair) (defBody s_Halves_sum_of_pair) (defScope s_Halves_sum_of_pair) .none kV12 dc12 pm12 an12 cd12 ct12), sl12⟩)
    (c12 : PySem.W.codeIn K cd12 "Halves.sum_of_pair" = true)
    (k12 : PySem.W.keepIn K (.ref f12) = true)
    (a13 : PySem.W.findIn K (.ref C_Halves) "sum_of_lone" = some (some (.ref f13)))
    (i13 : PySem.W.isFn K (.ref f13) = true)
    (l13 : K.lookup f13 = some ⟨oc13, od13, .func (PySem.W.fnOf "sum_of_lone" "Halves.sum_of_lone" (defArgs s_Halves_sum_of_lone) (defBody s_Halves_sum_of_lone) (defScope s_Halves_sum_of_lone) .none kV13 dc13 pm13 an13 cd13 ct13), sl13⟩)
    (c13 : PySem.W.codeIn K cd13 "Halves.sum_of_lone" = true)
    (k13 : PySem.W.keepIn K (.ref f13) = true)
    (a14 : PySem.W.nsIn K mainGlobals "near" = some (some (.ref f14)))
    (l14 : K.lookup f14 = some ⟨oc14, od14, .func (PySem.W.fnOf "near" "near" (defArgs s_near) (defBody s_near) (defScope s_near) .none kV14 dc14 pm14 an14 cd14 ct14), sl14⟩)
    (c14 : PySem.W.codeIn K cd14 "near" = true)
    (k14 : PySem.W.keepIn K (.ref f14) = true)
    (a15 : PySem.W.nsIn K mainGlobals "guesses" = some (some (.ref f15)))
    (l15 : K.lookup f15 = some ⟨oc15, od15, .func (PySem.W.fnOf "guesses" "guesses" (defArgs s_guesses) (defBody s_guesses) (defScope s_guesses) .none kV15 dc15 pm15 an15 cd15 ct15), sl15⟩)
    (c15 : PySem.W.codeIn K cd15 "guesses" = true)
    (k15 : PySem.W.keepIn K (.ref f15) = true)
    (a16 : PySem.W.nsIn K mainGlobals "lifts" = some (some (.ref f16)))
    (l16 : K.lookup f16 = some ⟨oc16, od16, .func (PySem.W.fnOf "lifts" "lifts" (defArgs s_lifts) (defBody s_lifts) (defScope s_lifts) .none kV16 dc16 pm16 an16 cd16 ct16), sl16⟩)
    (c16 : PySem.W.codeIn K cd16 "lifts" = true)
    (k16 : PySem.W.keepIn K (.ref f16) = true)
    (a17 : PySem.W.nsIn K mainGlobals "leans" = some (some (.ref f17)))
    (l17 : K.lookup f17 = some ⟨oc17, od17, .func (PySem.W.fnOf "leans" "leans" (defArgs s_leans) (defBody s_leans) (defScope s_leans) .none kV17 dc17 pm17 an17 cd17 ct17), sl17⟩)
    (c17 : PySem.W.codeIn K cd17 "leans" = true)
    (k17 : PySem.W.keepIn K (.ref f17) = true)
    (a18 : PySem.W.findIn K (.ref C_Guessed) "word" = some (some (.ref f18)))
    (i18 : PySem.W.isFn K (.ref f18) = true)
    (l18 : K.lookup f18 = some ⟨oc18, od18, .func (PySem.W.fnOf "word" "Guessed.word" (defArgs s_Guessed_word) (defBody s_Guessed_word) (defScope s_Guessed_word) .none kV18 dc18 pm18 an18 cd18 ct18), sl18⟩)
    (c18 : PySem.W.codeIn K cd18 "Guessed.word" = true)
    (k18 : PySem.W.keepIn K (.ref f18) = true)
    (a19 : PySem.W.findIn K (.ref C_Guessed) "parted" = some (some (.ref f19)))
    (i19 : PySem.W.isFn K (.ref f19) = true)
    (l19 : K.lookup f19 = some ⟨oc19, od19, .func (PySem.W.fnOf "parted" "Guessed.parted" (defArgs s_Guessed_parted) (defBody s_Guessed_parted) (defScope s_Guessed_parted) .none kV19 dc19 pm19 an19 cd19 ct19), sl19⟩)
    (c19 : PySem.W.codeIn K cd19 "Guessed.parted" = true)
    (k19 : PySem.W.keepIn K (.ref f19) = true)
    (a20 : PySem.W.findIn K (.ref C_Leaning) "word" = some (some (.ref f20)))
    (i20 : PySem.W.isFn K (.ref f20) = true)
    (l20 : K.lookup f20 = some ⟨oc20, od20, .func (PySem.W.fnOf "word" "Leaning.word" (defArgs s_Leaning_word) (defBody s_Leaning_word) (defScope s_Leaning_word) .none kV20 dc20 pm20 an20 cd20 ct20), sl20⟩)
    (c20 : PySem.W.codeIn K cd20 "Leaning.word" = true)
    (k20 : PySem.W.keepIn K (.ref f20) = true)
    (a21 : PySem.W.findIn K (.ref C_Leaning) "parted" = some (some (.ref f21)))
    (i21 : PySem.W.isFn K (.ref f21) = true)
    (l21 : K.lookup f21 = some ⟨oc21, od21, .func (PySem.W.fnOf "parted" "Leaning.parted" (defArgs s_Leaning_parted) (defBody s_Leaning_parted) (defScope s_Leaning_parted) .none kV21 dc21 pm21 an21 cd21 ct21), sl21⟩)
    (c21 : PySem.W.codeIn K cd21 "Leaning.parted" = true)
    (k21 : PySem.W.keepIn K (.ref f21) = true)
    (a22 : PySem.W.nsIn K mainGlobals "all_rules" = some (some (.ref f22)))
    (l22 : K.lookup f22 = some ⟨oc22, od22, .func (PySem.W.fnOf "all_rules" "all_rules" (defArgs s_all_rules) (defBody s_all_rules) (defScope s_all_rules) .none kV22 dc22 pm22 an22 cd22 ct22), sl22⟩)
    (c22 : PySem.W.codeIn K cd22 "all_rules" = true)
    (k22 : PySem.W.keepIn K (.ref f22) = true)
    (a23 : PySem.W.nsIn K mainGlobals "rule_of" = some (some (.ref f23)))
    (l23 : K.lookup f23 = some ⟨oc23, od23, .func (PySem.W.fnOf "rule_of" "rule_of" (defArgs s_rule_of) (defBody s_rule_of) (defScope s_rule_of) .none kV23 dc23 pm23 an23 cd23 ct23), sl23⟩)
    (c23 : PySem.W.codeIn K cd23 "rule_of" = true)
    (k23 : PySem.W.keepIn K (.ref f23) = true)
    (a24 : PySem.W.nsIn K mainGlobals "_law_cell" = some (some (.ref f24)))
    (l24 : K.lookup f24 = some ⟨oc24, od24, .func (PySem.W.fnOf "_law_cell" "_law_cell" (defArgs s__law_cell) (defBody s__law_cell) (defScope s__law_cell) .none kV24 dc24 pm24 an24 cd24 ct24), sl24⟩)
    (c24 : PySem.W.codeIn K cd24 "_law_cell" = true)
    (k24 : PySem.W.keepIn K (.ref f24) = true)
    (a25 : PySem.W.nsIn K mainGlobals "_law_box" = some (some (.ref f25)))
    (l25 : K.lookup f25 = some ⟨oc25, od25, .func (PySem.W.fnOf "_law_box" "_law_box" (defArgs s__law_box) (defBody s__law_box) (defScope s__law_box) .none kV25 dc25 pm25 an25 cd25 ct25), sl25⟩)
    (c25 : PySem.W.codeIn K cd25 "_law_box" = true)
    (k25 : PySem.W.keepIn K (.ref f25) = true)
    (a26 : PySem.W.nsIn K mainGlobals "_law_take" = some (some (.ref f26)))
    (l26 : K.lookup f26 = some ⟨oc26, od26, .func (PySem.W.fnOf "_law_take" "_law_take" (defArgs s__law_take) (defBody s__law_take) (defScope s__law_take) .none kV26 dc26 pm26 an26 cd26 ct26), sl26⟩)
    (c26 : PySem.W.codeIn K cd26 "_law_take" = true)
    (k26 : PySem.W.keepIn K (.ref f26) = true)
    (a27 : PySem.W.nsIn K mainGlobals "_law_bent" = some (some (.ref f27)))
    (l27 : K.lookup f27 = some ⟨oc27, od27, .func (PySem.W.fnOf "_law_bent" "_law_bent" (defArgs s__law_bent) (defBody s__law_bent) (defScope s__law_bent) .none kV27 dc27 pm27 an27 cd27 ct27), sl27⟩)
    (c27 : PySem.W.codeIn K cd27 "_law_bent" = true)
    (k27 : PySem.W.keepIn K (.ref f27) = true)
    (a28 : PySem.W.nsIn K mainGlobals "_law_noughts" = some (some (.ref f28)))
    (l28 : K.lookup f28 = some ⟨oc28, od28, .func (PySem.W.fnOf "_law_noughts" "_law_noughts" (defArgs s__law_noughts) (defBody s__law_noughts) (defScope s__law_noughts) .none kV28 dc28 pm28 an28 cd28 ct28), sl28⟩)
    (c28 : PySem.W.codeIn K cd28 "_law_noughts" = true)
    (k28 : PySem.W.keepIn K (.ref f28) = true)
    (a29 : PySem.W.nsIn K mainGlobals "_law_all_right" = some (some (.ref f29)))
    (l29 : K.lookup f29 = some ⟨oc29, od29, .func (PySem.W.fnOf "_law_all_right" "_law_all_right" (defArgs s__law_all_right) (defBody s__law_all_right) (defScope s__law_all_right) .none kV29 dc29 pm29 an29 cd29 ct29), sl29⟩)
    (c29 : PySem.W.codeIn K cd29 "_law_all_right" = true)
    (k29 : PySem.W.keepIn K (.ref f29) = true)
    (a30 : PySem.W.nsIn K mainGlobals "law" = some (some (.ref f30)))
    (l30 : K.lookup f30 = some ⟨oc30, od30, .func (PySem.W.fnOf "law" "law" (defArgs s_law) (defBody s_law) (defScope s_law) .none kV30 dc30 pm30 an30 cd30 ct30), sl30⟩)
    (c30 : PySem.W.codeIn K cd30 "law" = true)
    (k30 : PySem.W.keepIn K (.ref f30) = true)
    (e_Halves_halves : PySem.W.findIn K (.ref C_Halves) "halves" = some (some (.ref f6)))
    (e_Halves_sums_of : PySem.W.findIn K (.ref C_Halves) "sums_of" = some (some (.ref f8)))
    (e_Leaning_sum_of_pair : PySem.W.findIn K (.ref C_Leaning) "sum_of_pair" = some (some (.ref f12)))
    (e_Leaning_sum_of_lone : PySem.W.findIn K (.ref C_Leaning) "sum_of_lone" = some (some (.ref f13)))
    (e_Leaning_halves : PySem.W.findIn K (.ref C_Leaning) "halves" = some (some (.ref f6)))
    (e_Leaning_sums_of : PySem.W.findIn K (.ref C_Leaning) "sums_of" = some (some (.ref f8)))
    (e_Sums_halves : PySem.W.findIn K (.ref C_Sums) "halves" = some (some (.ref f6)))
    (e_Sums_parted : PySem.W.findIn K (.ref C_Sums) "parted" = some (some (.ref f7)))
    (e_Sums_sums_of : PySem.W.findIn K (.ref C_Sums) "sums_of" = some (some (.ref f8)))
    (e_Sums_sum_of_pair : PySem.W.findIn K (.ref C_Sums) "sum_of_pair" = some (some (.ref f9)))
    (e_Sums_sum_of_lone : PySem.W.findIn K (.ref C_Sums) "sum_of_lone" = some (some (.ref f10)))
    (q_MOST_NUMBER : PySem.W.nsIn K mainGlobals "MOST_NUMBER" = some (some (.int 999999999999999 t_MOST_NUMBER)))
    (q_MOST_SIDE : PySem.W.nsIn K mainGlobals "MOST_SIDE" = some (some (.int 64 t_MOST_SIDE)))
    (z_all : PySem.W.nsIn K mainGlobals "all" = some none)
    (z_bool : PySem.W.nsIn K mainGlobals "bool" = some none)
    (z_int : PySem.W.nsIn K mainGlobals "int" = some none)
    (z_isinstance : PySem.W.nsIn K mainGlobals "isinstance" = some none)
    (z_len : PySem.W.nsIn K mainGlobals "len" = some none)
    (z_list : PySem.W.nsIn K mainGlobals "list" = some none)
    (z_max : PySem.W.nsIn K mainGlobals "max" = some none)
    (z_min : PySem.W.nsIn K mainGlobals "min" = some none)
    (z_range : PySem.W.nsIn K mainGlobals "range" = some none)
    (z_zip : PySem.W.nsIn K mainGlobals "zip" = some none)
    (y_bb : PySem.W.kitOne K (.type "bool") (.type "bool") = some true)
    (y_bi : PySem.W.kitOne K (.type "bool") (.type "int") = some true)
    (y_bl : PySem.W.kitOne K (.type "bool") (.type "list") = some false)
    (y_bt : PySem.W.kitOne K (.type "bool") (.type "tuple") = some false)
    (y_ib : PySem.W.kitOne K (.type "int") (.type "bool") = some false)
    (y_ii : PySem.W.kitOne K (.type "int") (.type "int") = some true)
    (y_il : PySem.W.kitOne K (.type "int") (.type "list") = some false)
    (y_it : PySem.W.kitOne K (.type "int") (.type "tuple") = some false)
    (y_nb : PySem.W.kitOne K (.type "NoneType") (.type "bool") = some false)
    (y_ni : PySem.W.kitOne K (.type "NoneType") (.type "int") = some false)
    (y_nl : PySem.W.kitOne K (.type "NoneType") (.type "list") = some false)
    (y_nt : PySem.W.kitOne K (.type "NoneType") (.type "tuple") = some false)
    (y_sb : PySem.W.kitOne K (.type "str") (.type "bool") = some false)
    (y_si : PySem.W.kitOne K (.type "str") (.type "int") = some false)
    (y_sl : PySem.W.kitOne K (.type "str") (.type "list") = some false)
    (y_st : PySem.W.kitOne K (.type "str") (.type "tuple") = some false)
    (y_lb : PySem.W.kitOne K (.type "list") (.type "bool") = some false)
    (y_li : PySem.W.kitOne K (.type "list") (.type "int") = some false)
    (y_ll : PySem.W.kitOne K (.type "list") (.type "list") = some true)
    (y_lt : PySem.W.kitOne K (.type "list") (.type "tuple") = some false)
    (y_tb : PySem.W.kitOne K (.type "tuple") (.type "bool") = some false)
    (y_ti : PySem.W.kitOne K (.type "tuple") (.type "int") = some false)
    (y_tl : PySem.W.kitOne K (.type "tuple") (.type "list") = some false)
    (y_tt : PySem.W.kitOne K (.type "tuple") (.type "tuple") = some true)
    (y_db : PySem.W.kitOne K (.type "dict") (.type "bool") = some false)
    (y_di : PySem.W.kitOne K (.type "dict") (.type "int") = some false)
    (y_dl : PySem.W.kitOne K (.type "dict") (.type "list") = some false)
    (y_dt : PySem.W.kitOne K (.type "dict") (.type "tuple") = some false) :
    ∃ fd : FuncData, (∀ (s : Shared) (v : Value), BindsTo s fd ⟨[v], []⟩ [("_law_script", v)]) ∧ ∀ base : Heap, K.In base → base.Ns mainGlobals mg → FnOk l.prog w K mg base CX0 6 fa fd ["_law_script"] (sp_law K) := by
  have e := hfa.symm.trans (PySem.W.mg_of X G a30)
  cases e
  have T : Txt K mg ⟨C_Guessed, C_Halves, C_Leaning, C_Sums, f0, PySem.W.fnOf "is_whole" "is_whole" (defArgs s_is_whole) (defBody s_is_whole) (defScope s_is_whole) .none kV0 dc0 pm0 an0 cd0 ct0, f1, PySem.W.fnOf "is_number" "is_number" (defArgs s_is_number) (defBody s_is_number) (defScope s_is_number) .none kV1 dc1 pm1 an1 cd1 ct1, f2, PySem.W.fnOf "is_row" "is_row" (defArgs s_is_row) (defBody s_is_row) (defScope s_is_row) .none kV2 dc2 pm2 an2 cd2 ct2, f3, PySem.W.fnOf "pairs_of" "pairs_of" (defArgs s_pairs_of) (defBody s_pairs_of) (defScope s_pairs_of) .none kV3 dc3 pm3 an3 cd3 ct3, f4, PySem.W.fnOf "gaps_of" "gaps_of" (defArgs s_gaps_of) (defBody s_gaps_of) (defScope s_gaps_of) .none kV4 dc4 pm4 an4 cd4 ct4, f5, PySem.W.fnOf "word" "Sums.word" (defArgs s_Sums_word) (defBody s_Sums_word) (defScope s_Sums_word) .none kV5 dc5 pm5 an5 cd5 ct5, f6, PySem.W.fnOf "halves" "Sums.halves" (defArgs s_Sums_halves) (defBody s_Sums_halves) (defScope s_Sums_halves) .none kV6 dc6 pm6 an6 cd6 ct6, f7, PySem.W.fnOf "parted" "Sums.parted" (defArgs s_Sums_parted) (defBody s_Sums_parted) (defScope s_Sums_parted) .none kV7 dc7 pm7 an7 cd7 ct7, f8, PySem.W.fnOf "sums_of" "Sums.sums_of" (defArgs s_Sums_sums_of) (defBody s_Sums_sums_of) (defScope s_Sums_sums_of) .none kV8 dc8 pm8 an8 cd8 ct8, f9, PySem.W.fnOf "sum_of_pair" "Sums.sum_of_pair" (defArgs s_Sums_sum_of_pair) (defBody s_Sums_sum_of_pair) (defScope s_Sums_sum_of_pair) .none kV9 dc9 pm9 an9 cd9 ct9, f10, PySem.W.fnOf "sum_of_lone" "Sums.sum_of_lone" (defArgs s_Sums_sum_of_lone) (defBody s_Sums_sum_of_lone) (defScope s_Sums_sum_of_lone) .none kV10 dc10 pm10 an10 cd10 ct10, f11, PySem.W.fnOf "word" "Halves.word" (defArgs s_Halves_word) (defBody s_Halves_word) (defScope s_Halves_word) .none kV11 dc11 pm11 an11 cd11 ct11, f12, PySem.W.fnOf "sum_of_pair" "Halves.sum_of_pair" (defArgs s_Halves_sum_of_pair) (defBody s_Halves_sum_of_pair) (defScope s_Halves_sum_of_pair) .none kV12 dc12 pm12 an12 cd12 ct12, f13, PySem.W.fnOf "sum_of_lone" "Halves.sum_of_lone" (defArgs s_Halves_sum_of_lone) (defBody s_Halves_sum_of_lone) (defScope s_Halves_sum_of_lone) .none kV13 dc13 pm13 an13 cd13 ct13, f14, PySem.W.fnOf "near" "near" (defArgs s_near) (defBody s_near) (defScope s_near) .none kV14 dc14 pm14 an14 cd14 ct14, f15, PySem.W.fnOf "guesses" "guesses" (defArgs s_guesses) (defBody s_guesses) (defScope s_guesses) .none kV15 dc15 pm15 an15 cd15 ct15, f16, PySem.W.fnOf "lifts" "lifts" (defArgs s_lifts) (defBody s_lifts) (defScope s_lifts) .none kV16 dc16 pm16 an16 cd16 ct16, f17, PySem.W.fnOf "leans" "leans" (defArgs s_leans) (defBody s_leans) (defScope s_leans) .none kV17 dc17 pm17 an17 cd17 ct17, f18, PySem.W.fnOf "word" "Guessed.word" (defArgs s_Guessed_word) (defBody s_Guessed_word) (defScope s_Guessed_word) .none kV18 dc18 pm18 an18 cd18 ct18, f19, PySem.W.fnOf "parted" "Guessed.parted" (defArgs s_Guessed_parted) (defBody s_Guessed_parted) (defScope s_Guessed_parted) .none kV19 dc19 pm19 an19 cd19 ct19, f20, PySem.W.fnOf "word" "Leaning.word" (defArgs s_Leaning_word) (defBody s_Leaning_word) (defScope s_Leaning_word) .none kV20 dc20 pm20 an20 cd20 ct20, f21, PySem.W.fnOf "parted" "Leaning.parted" (defArgs s_Leaning_parted) (defBody s_Leaning_parted) (defScope s_Leaning_parted) .none kV21 dc21 pm21 an21 cd21 ct21, f22, PySem.W.fnOf "all_rules" "all_rules" (defArgs s_all_rules) (defBody s_all_rules) (defScope s_all_rules) .none kV22 dc22 pm22 an22 cd22 ct22, f23, PySem.W.fnOf "rule_of" "rule_of" (defArgs s_rule_of) (defBody s_rule_of) (defScope s_rule_of) .none kV23 dc23 pm23 an23 cd23 ct23, f24, PySem.W.fnOf "_law_cell" "_law_cell" (defArgs s__law_cell) (defBody s__law_cell) (defScope s__law_cell) .none kV24 dc24 pm24 an24 cd24 ct24, f25, PySem.W.fnOf "_law_box" "_law_box" (defArgs s__law_box) (defBody s__law_box) (defScope s__law_box) .none kV25 dc25 pm25 an25 cd25 ct25, f26, PySem.W.fnOf "_law_take" "_law_take" (defArgs s__law_take) (defBody s__law_take) (defScope s__law_take) .none kV26 dc26 pm26 an26 cd26 ct26, f27, PySem.W.fnOf "_law_bent" "_law_bent" (defArgs s__law_bent) (defBody s__law_bent) (defScope s__law_bent) .none kV27 dc27 pm27 an27 cd27 ct27, f28, PySem.W.fnOf "_law_noughts" "_law_noughts" (defArgs s__law_noughts) (defBody s__law_noughts) (defScope s__law_noughts) .none kV28 dc28 pm28 an28 cd28 ct28, f29, PySem.W.fnOf "_law_all_right" "_law_all_right" (defArgs s__law_all_right) (defBody s__law_all_right) (defScope s__law_all_right) .none kV29 dc29 pm29 an29 cd29 ct29, fa, PySem.W.fnOf "law" "law" (defArgs s_law) (defBody s_law) (defScope s_law) .none kV30 dc30 pm30 an30 cd30 ct30⟩ := ⟨⟨pg_Guessed, hd_Guessed, po_Guessed, sa_Guessed⟩,
    PySem.W.mg_of X G aC_Guessed,
    ⟨mk_Guessed, in_Guessed, kc_Guessed⟩,
    ⟨pg_Halves, hd_Halves, po_Halves, sa_Halves⟩,
    PySem.W.mg_of X G aC_Halves,
    ⟨mk_Halves, in_Halves, kc_Halves⟩,
    ⟨pg_Leaning, hd_Leaning, po_Leaning, sa_Leaning⟩,
    PySem.W.mg_of X G aC_Leaning,
    ⟨mk_Leaning, in_Leaning, kc_Leaning⟩,
    ⟨pg_Sums, hd_Sums, po_Sums, sa_Sums⟩,
    PySem.W.mg_of X G aC_Sums,
    ⟨mk_Sums, in_Sums, kc_Sums⟩,
    fun_mk (st := s_is_whole) l0 c0 k0,
    (fun_mk (st := s_is_whole) l0 c0 k0).binds (ps := ["thing", "low", "high"]) fun _ _ _ _ _ _ us hl => match us, hl with | [_, _, _], _ => rfl,
    PySem.W.mg_of X G a0,
    fun_mk (st := s_is_number) l1 c1 k1,
    (fun_mk (st := s_is_number) l1 c1 k1).binds (ps := ["thing"]) fun _ _ _ _ _ _ us hl => match us, hl with | [_], _ => rfl,
    PySem.W.mg_of X G a1,
    fun_mk (st := s_is_row) l2 c2 k2,
    (fun_mk (st := s_is_row) l2 c2 k2).binds (ps := ["thing", "least"]) fun _ _ _ _ _ _ us hl => match us, hl with | [_, _], _ => rfl,
    PySem.W.mg_of X G a2,
    fun_mk (st := s_pairs_of) l3 c3 k3,
    (fun_mk (st := s_pairs_of) l3 c3 k3).binds (ps := ["row"]) fun _ _ _ _ _ _ us hl => match us, hl with | [_], _ => rfl,
    PySem.W.mg_of X G a3,
    fun_mk (st := s_gaps_of) l4 c4 k4,
    (fun_mk (st := s_gaps_of) l4 c4 k4).binds (ps := ["row"]) fun _ _ _ _ _ _ us hl => match us, hl with | [_], _ => rfl,
    PySem.W.mg_of X G a4,
    fun_mk (st := s_Sums_word) l5 c5 k5,
    (fun_mk (st := s_Sums_word) l5 c5 k5).binds (ps := ["self"]) fun _ _ _ _ _ _ us hl => match us, hl with | [_], _ => rfl,
    fun_mk (st := s_Sums_halves) l6 c6 k6,
    (fun_mk (st := s_Sums_halves) l6 c6 k6).binds (ps := ["self", "row"]) fun _ _ _ _ _ _ us hl => match us, hl with | [_, _], _ => rfl,
    fun_mk (st := s_Sums_parted) l7 c7 k7,
    (fun_mk (st := s_Sums_parted) l7 c7 k7).binds (ps := ["self", "row"]) fun _ _ _ _ _ _ us hl => match us, hl with | [_, _], _ => rfl,
    fun_mk (st := s_Sums_sums_of) l8 c8 k8,
    (fun_mk (st := s_Sums_sums_of) l8 c8 k8).binds (ps := ["self", "row"]) fun _ _ _ _ _ _ us hl => match us, hl with | [_, _], _ => rfl,
    fun_mk (st := s_Sums_sum_of_pair) l9 c9 k9,
    (fun_mk (st := s_Sums_sum_of_pair) l9 c9 k9).binds (ps := ["self", "first", "second"]) fun _ _ _ _ _ _ us hl => match us, hl with | [_, _, _], _ => rfl,
    fun_mk (st := s_Sums_sum_of_lone) l10 c10 k10,
    (fun_mk (st := s_Sums_sum_of_lone) l10 c10 k10).binds (ps := ["self", "number"]) fun _ _ _ _ _ _ us hl => match us, hl with | [_, _], _ => rfl,
    fun_mk (st := s_Halves_word) l11 c11 k11,
    (fun_mk (st := s_Halves_word) l11 c11 k11).binds (ps := ["self"]) fun _ _ _ _ _ _ us hl => match us, hl with | [_], _ => rfl,
    fun_mk (st := s_Halves_sum_of_pair) l12 c12 k12,
    (fun_mk (st := s_Halves_sum_of_pair) l12 c12 k12).binds (ps := ["self", "first", "second"]) fun _ _ _ _ _ _ us hl => match us, hl with | [_, _, _], _ => rfl,
    fun_mk (st := s_Halves_sum_of_lone) l13 c13 k13,
    (fun_mk (st := s_Halves_sum_of_lone) l13 c13 k13).binds (ps := ["self", "number"]) fun _ _ _ _ _ _ us hl => match us, hl with | [_, _], _ => rfl,
    fun_mk (st := s_near) l14 c14 k14,
    (fun_mk (st := s_near) l14 c14 k14).binds (ps := ["numbers", "at"]) fun _ _ _ _ _ _ us hl => match us, hl with | [_, _], _ => rfl,
    PySem.W.mg_of X G a14,
    fun_mk (st := s_guesses) l15 c15 k15,
    (fun_mk (st := s_guesses) l15 c15 k15).binds (ps := ["firsts", "many"]) fun _ _ _ _ _ _ us hl => match us, hl with | [_, _], _ => rfl,
    PySem.W.mg_of X G a15,
    fun_mk (st := s_lifts) l16 c16 k16,
    (fun_mk (st := s_lifts) l16 c16 k16).binds (ps := ["differences", "many"]) fun _ _ _ _ _ _ us hl => match us, hl with | [_, _], _ => rfl,
    PySem.W.mg_of X G a16,
    fun_mk (st := s_leans) l17 c17 k17,
    (fun_mk (st := s_leans) l17 c17 k17).binds (ps := ["sums", "many"]) fun _ _ _ _ _ _ us hl => match us, hl with | [_, _], _ => rfl,
    PySem.W.mg_of X G a17,
    fun_mk (st := s_Guessed_word) l18 c18 k18,
    (fun_mk (st := s_Guessed_word) l18 c18 k18).binds (ps := ["self"]) fun _ _ _ _ _ _ us hl => match us, hl with | [_], _ => rfl,
    fun_mk (st := s_Guessed_parted) l19 c19 k19,
    (fun_mk (st := s_Guessed_parted) l19 c19 k19).binds (ps := ["self", "row"]) fun _ _ _ _ _ _ us hl => match us, hl with | [_, _], _ => rfl,
    fun_mk (st := s_Leaning_word) l20 c20 k20,
    (fun_mk (st := s_Leaning_word) l20 c20 k20).binds (ps := ["self"]) fun _ _ _ _ _ _ us hl => match us, hl with | [_], _ => rfl,
    fun_mk (st := s_Leaning_parted) l21 c21 k21,
    (fun_mk (st := s_Leaning_parted) l21 c21 k21).binds (ps := ["self", "row"]) fun _ _ _ _ _ _ us hl => match us, hl with | [_, _], _ => rfl,
    fun_mk (st := s_all_rules) l22 c22 k22,
    (fun_mk (st := s_all_rules) l22 c22 k22).binds (ps := []) fun _ _ _ _ _ _ us hl => match us, hl with | [], _ => rfl,
    PySem.W.mg_of X G a22,
    fun_mk (st := s_rule_of) l23 c23 k23,
    (fun_mk (st := s_rule_of) l23 c23 k23).binds (ps := ["word"]) fun _ _ _ _ _ _ us hl => match us, hl with | [_], _ => rfl,
    PySem.W.mg_of X G a23,
    fun_mk (st := s__law_cell) l24 c24 k24,
    (fun_mk (st := s__law_cell) l24 c24 k24).binds (ps := ["_law_script", "_law_k"]) fun _ _ _ _ _ _ us hl => match us, hl with | [_, _], _ => rfl,
    PySem.W.mg_of X G a24,
    fun_mk (st := s__law_box) l25 c25 k25,
    (fun_mk (st := s__law_box) l25 c25 k25).binds (ps := ["_law_cell_here"]) fun _ _ _ _ _ _ us hl => match us, hl with | [_], _ => rfl,
    PySem.W.mg_of X G a25,
    fun_mk (st := s__law_take) l26 c26 k26,
    (fun_mk (st := s__law_take) l26 c26 k26).binds (ps := ["_law_box_here", "_law_many"]) fun _ _ _ _ _ _ us hl => match us, hl with | [_, _], _ => rfl,
    PySem.W.mg_of X G a26,
    fun_mk (st := s__law_bent) l27 c27 k27,
    (fun_mk (st := s__law_bent) l27 c27 k27).binds (ps := ["_law_box_here"]) fun _ _ _ _ _ _ us hl => match us, hl with | [_], _ => rfl,
    PySem.W.mg_of X G a27,
    fun_mk (st := s__law_noughts) l28 c28 k28,
    (fun_mk (st := s__law_noughts) l28 c28 k28).binds (ps := ["_law_numbers"]) fun _ _ _ _ _ _ us hl => match us, hl with | [_], _ => rfl,
    PySem.W.mg_of X G a28,
    fun_mk (st := s__law_all_right) l29 c29 k29,
    (fun_mk (st := s__law_all_right) l29 c29 k29).binds (ps := ["_law_first", "_law_step", "_law_bend", "_law_many"]) fun _ _ _ _ _ _ us hl => match us, hl with | [_, _, _, _], _ => rfl,
    PySem.W.mg_of X G a29,
    fun_mk (st := s_law) l30 c30 k30,
    (fun_mk (st := s_law) l30 c30 k30).binds (ps := ["_law_script"]) fun _ _ _ _ _ _ us hl => match us, hl with | [_], _ => rfl,
    PySem.W.mg_of X G a30,
    ⟨a18, i18, k18⟩,
    ⟨a19, i19, k19⟩,
    ⟨a6, i6, k6⟩,
    ⟨a8, i8, k8⟩,
    ⟨a9, i9, k9⟩,
    ⟨a10, i10, k10⟩,
    ⟨a11, i11, k11⟩,
    ⟨a12, i12, k12⟩,
    ⟨a13, i13, k13⟩,
    ⟨e_Halves_halves, i6, k6⟩,
    ⟨a7, i7, k7⟩,
    ⟨e_Halves_sums_of, i8, k8⟩,
    ⟨a20, i20, k20⟩,
    ⟨a21, i21, k21⟩,
    ⟨e_Leaning_sum_of_pair, i12, k12⟩,
    ⟨e_Leaning_sum_of_lone, i13, k13⟩,
    ⟨e_Leaning_halves, i6, k6⟩,
    ⟨e_Leaning_sums_of, i8, k8⟩,
    ⟨a5, i5, k5⟩,
    ⟨e_Sums_halves, i6, k6⟩,
    ⟨e_Sums_parted, i7, k7⟩,
    ⟨e_Sums_sums_of, i8, k8⟩,
    ⟨e_Sums_sum_of_pair, i9, k9⟩,
    ⟨e_Sums_sum_of_lone, i10, k10⟩,
    ⟨_, PySem.W.mg_of X G q_MOST_NUMBER⟩,
    ⟨_, PySem.W.mg_of X G q_MOST_SIDE⟩,
    PySem.W.mg_none_of X G z_all,
    PySem.W.mg_none_of X G z_bool,
    PySem.W.mg_none_of X G z_int,
    PySem.W.mg_none_of X G z_isinstance,
    PySem.W.mg_none_of X G z_len,
    PySem.W.mg_none_of X G z_list,
    PySem.W.mg_none_of X G z_max,
    PySem.W.mg_none_of X G z_min,
    PySem.W.mg_none_of X G z_range,
    PySem.W.mg_none_of X G z_zip,
    ⟨y_bb, y_bi, y_bl, y_bt, y_ib, y_ii, y_il, y_it, y_nb, y_ni, y_nl, y_nt, y_sb, y_si, y_sl, y_st, y_lb, y_li, y_ll, y_lt, y_tb, y_ti, y_tl, y_tt, y_db, y_di, y_dl, y_dt⟩⟩
  exact ⟨_, fun s v => .of_eq rfl, fun base _ _ => ok_law T⟩
theorem walk {l : PySem.W.OpenLaw} {q : Program} {loose : List Str} {XP : (Str → Option Value) → Heap → Prop} {YP : World → Heap → Prop} {d : DefRec} {K : Params → PySem.W.Frag} (hn : l.most = some 63) (hdf : d.params.defaults = [])
    (hY : ∀ (w : World) (h : Heap), YP w h → (K w.params).In h)
    (F : ∀ (w : World) (mg : Str → Option Value) (fa : Addr) (h : Heap), (K w.params).In h → h.Ns mainGlobals mg → mg d.name = some (.ref fa) →
      ∃ fd : FuncData, (∀ (s : Shared) (u : Value), BindsTo s fd ⟨[u], []⟩ [("_law_script", u)]) ∧ ∀ base : Heap, (K w.params).In base → base.Ns mainGlobals mg → FnOk l.prog w (K w.params) mg base CX0 6 fa fd ["_law_script"] (sp_law (K w.params))) :
    PySem.W.WalkO q loose XP YP l.row.toRowW d [] (fun f vs => PySem.call f vs) :=
  L2.walk_of (n := 63) (k := 6) (x := "_law_script") (CX := fun _ => CX0) (sp := fun w => sp_law (K w.params)) hn (by decide) hdf ⟨rfl, by decide, by decide, rfl⟩ hY F (fun _ _ a ns hl _ hS => ⟨a, ns, rfl, hS, hl, fun _ => rfl⟩) fun _ _ _ _ _ z => z
end K17
theorem PySem.W.Fast.tw2966198037783282084 : True := trivial
theorem PySem.W.Fast.tw6385013268215014820 : True := trivial
theorem PySem.W.Fast.tw6992635424734966180 : True := trivial
theorem PySem.W.Fast.tw13672266946857582980 : True := trivial
theorem PySem.W.Fast.tw222404622078060292 : True := trivial
theorem PySem.W.Fast.tw10939260331117060868 : True := trivial
theorem PySem.W.Fast.tw5227436369223592612 : True := trivial
theorem PySem.W.Fast.tw17952459465053874212 : True := trivial
theorem PySem.W.Fast.tw18121195702403192292 : True := trivial
theorem PySem.W.Fast.tw16471217211939636100 : True := trivial
theorem PySem.W.Fast.tw4285332560834652740 : True := trivial
theorem PySem.W.Fast.tw5697686762446414333 : True := trivial
theorem PySem.W.Fast.tw4112758242999538877 : True := trivial
theorem PySem.W.Fast.tw6206358712135875741 : True := trivial
theorem PySem.W.Fast.tw7001400409310612477 : True := trivial
theorem PySem.W.Fast.tw12980157195087663517 : True := trivial
theorem PySem.W.Fast.tw6674107534310194013 : True := trivial
theorem PySem.W.Fast.tw17503739414736061149 : True := trivial
theorem PySem.W.Fast.tw1095020190575573725 : True := trivial
theorem PySem.W.Fast.tw13578550782048424838 : True := trivial
theorem PySem.W.Fast.tw3495312878573941638 : True := trivial
theorem PySem.W.Fast.tw1506210134941196006 : True := trivial
theorem PySem.W.Fast.tw4729392682742492902 : True := trivial
theorem PySem.W.Fast.tw725087898102962374 : True := trivial
theorem PySem.W.Fast.tw3221141985252943302 : True := trivial
theorem PySem.W.Fast.tw11287665482038060262 : True := trivial
theorem PySem.W.Fast.tw4844951044852931270 : True := trivial
theorem PySem.W.Fast.tw670518887429532294 : True := trivial
theorem PySem.W.Fast.tw16415194257289401894 : True := trivial
theorem PySem.W.Fast.tw8854790768233394015 : True := trivial
theorem PySem.W.Fast.tw10199120595320490783 : True := trivial
theorem PySem.W.Fast.tw13408260985547068639 : True := trivial
theorem PySem.W.Fast.tw11357723836343873759 : True := trivial
theorem PySem.W.Fast.tw1537549746069400191 : True := trivial
theorem PySem.W.Fast.tw74093109533565023 : True := trivial
theorem PySem.W.Fast.tw15627409454726241343 : True := trivial
theorem PySem.W.Fast.tw6356699510646886911 : True := trivial
theorem PySem.W.Fast.tw14202300079835262463 : True := trivial
theorem PySem.W.Fast.tw6153822374519591263 : True := trivial
theorem PySem.W.Fast.tw3016207265791042879 : True := trivial
theorem PySem.W.Fast.tw11936930287238429407 : True := trivial
theorem PySem.W.Fast.tw8305793899249271519 : True := trivial
theorem PySem.W.Fast.tw7110275189766885503 : True := trivial
theorem PySem.W.Fast.tw5212922116358964671 : True := trivial
theorem PySem.W.Fast.tw9170647978087299968 : True := trivial
theorem PySem.W.Fast.tw6314624439320635136 : True := trivial
theorem PySem.W.Fast.tw893566582857750272 : True := trivial
theorem PySem.W.Fast.tw15723658083801051296 : True := trivial
theorem PySem.W.Fast.tw16849224453899525696 : True := trivial
theorem PySem.W.Fast.tw10083884261784230432 : True := trivial
theorem PySem.W.Fast.tw16839144093379087744 : True := trivial
theorem PySem.W.Fast.tw14642058612054989600 : True := trivial
theorem PySem.W.Fast.tw960058255021308160 : True := trivial
theorem PySem.W.Fast.tw6627363289833415904 : True := trivial
theorem PySem.W.Fast.tw14491894981446586432 : True := trivial
theorem PySem.W.Fast.tw3959949648529630272 : True := trivial
theorem PySem.W.Fast.tw864295184485432352 : True := trivial
theorem PySem.W.Fast.tw6430484292533909769 : True := trivial
theorem PySem.W.Fast.tw16205463513063929993 : True := trivial
theorem PySem.W.Fast.tw15514857829819468329 : True := trivial
theorem PySem.W.Fast.tw6448202904352792329 : True := trivial
theorem PySem.W.Fast.tw12893646026785129097 : True := trivial
theorem PySem.W.Fast.tw106808264595969641 : True := trivial
theorem PySem.W.Fast.tw13948913141598461353 : True := trivial
theorem PySem.W.Fast.tw3291627264623484809 : True := trivial
theorem PySem.W.Fast.tw10265470996167409481 : True := trivial
theorem PySem.W.Fast.tw4948640931480260834 : True := trivial
theorem PySem.W.Fast.tw14059856070721203426 : True := trivial
theorem PySem.W.Fast.tw4161002842465041634 : True := trivial
theorem PySem.W.Fast.tw10047116639873846370 : True := trivial
theorem PySem.W.Fast.tw2863793687665026594 : True := trivial
theorem PySem.W.Fast.tw4045979880598889410 : True := trivial
theorem PySem.W.Fast.tw3217180487498935170 : True := trivial
theorem PySem.W.Fast.tw17417297814264762722 : True := trivial
theorem PySem.W.Fast.tw3509528524278942498 : True := trivial
theorem PySem.W.Fast.tw16180391800038376226 : True := trivial
theorem PySem.W.Fast.tw4337417700100777122 : True := trivial
theorem PySem.W.Fast.tw9509241219119325314 : True := trivial
theorem PySem.W.Fast.tw11905766207388998242 : True := trivial
theorem PySem.W.Fast.tw16299208962961571842 : True := trivial
theorem PySem.W.Fast.tw3711728952486742699 : True := trivial
theorem PySem.W.Fast.tw8759721805212619403 : True := trivial
theorem PySem.W.Fast.tw1794474412727231083 : True := trivial
theorem PySem.W.Fast.tw17292170384981960203 : True := trivial
theorem PySem.W.Fast.tw3789506351363422123 : True := trivial
theorem PySem.W.Fast.tw13759626742431897483 : True := trivial
theorem PySem.W.Fast.tw17705722499821669227 : True := trivial
theorem PySem.W.Fast.tw4248076061842354891 : True := trivial
theorem PySem.W.Fast.tw10181599165824879755 : True := trivial
theorem PySem.W.Fast.tw6650357138404989963 : True := trivial
theorem PySem.W.Fast.tw11497006670223224811 : True := trivial
theorem PySem.W.Fast.tw1111584446793882603 : True := trivial
theorem PySem.W.Fast.tw11052383297581452235 : True := trivial
theorem PySem.W.Fast.tw3116892801773432203 : True := trivial
theorem PySem.W.Fast.tw9559428266435536715 : True := trivial
theorem PySem.W.Fast.tw16970916495278282892 : True := trivial
theorem PySem.W.Fast.tw14239673600666404396 : True := trivial
theorem PySem.W.Fast.tw2040525567616668012 : True := trivial
theorem PySem.W.Fast.tw791702150868776780 : True := trivial
theorem PySem.W.Fast.tw13865729421591882956 : True := trivial
theorem PySem.W.Fast.tw191368147881076780 : True := trivial
theorem PySem.W.Fast.tw15543106016229213957 : True := trivial
theorem PySem.W.Fast.tw15863257742153507589 : True := trivial
theorem PySem.W.Fast.tw14380599910306990917 : True := trivial
theorem PySem.W.Fast.tw809212178077006565 : True := trivial
theorem PySem.W.Fast.tw16606975552568507077 : True := trivial
theorem PySem.W.Fast.tw2734929737907425957 : True := trivial
theorem PySem.W.Fast.tw3925914734291092581 : True := trivial
theorem PySem.W.Fast.tw11314868164489207333 : True := trivial
theorem PySem.W.Fast.tw10295027888120401445 : True := trivial
theorem PySem.W.Fast.tw9828720193168370053 : True := trivial
theorem PySem.W.Fast.tw2270837767026804270 : True := trivial
theorem PySem.W.Fast.tw18343284042193380366 : True := trivial
theorem PySem.W.Fast.tw4555312100966298030 : True := trivial
theorem PySem.W.Fast.tw5827994215843968878 : True := trivial
theorem PySem.W.Fast.tw10857118522055667534 : True := trivial
theorem PySem.W.Fast.tw17854551137177234254 : True := trivial
theorem PySem.W.Fast.tw13250014446354958990 : True := trivial
theorem PySem.W.Fast.tw13520478869661416078 : True := trivial
theorem PySem.W.Fast.tw13841912822276717678 : True := trivial
theorem PySem.W.Fast.tw8040318550301882894 : True := trivial
theorem PySem.W.Fast.tw9192113354808805678 : True := trivial
theorem PySem.W.Fast.tw13655395820509367054 : True := trivial
theorem PySem.W.Fast.tw16740748737741585582 : True := trivial
theorem PySem.W.Fast.tw6739204950945058983 : True := trivial
theorem PySem.W.Fast.tw13384838690536561255 : True := trivial
theorem PySem.W.Fast.tw8653976046861381607 : True := trivial
theorem PySem.W.Fast.tw7313824061905843623 : True := trivial
theorem PySem.W.Fast.tw2761646207613061511 : True := trivial
theorem PySem.W.Fast.tw12479150264696604935 : True := trivial
theorem PySem.W.Fast.tw10833514701829344487 : True := trivial
theorem PySem.W.Fast.tw4703938362950146279 : True := trivial
theorem PySem.W.Fast.tw5925045148667411655 : True := trivial
theorem PySem.W.Fast.tw9278158722143417543 : True := trivial
theorem PySem.W.Fast.tw7242220883605677095 : True := trivial
theorem PySem.W.Fast.tw13592037983196122599 : True := trivial
theorem PySem.W.Fast.tw18048047439650279879 : True := trivial
theorem PySem.W.Fast.tw16364688337751120231 : True := trivial
theorem PySem.W.Fast.tw6597275571425499463 : True := trivial
theorem PySem.W.Fast.tw8803754611011964712 : True := trivial
theorem PySem.W.Fast.tw13784664443431881480 : True := trivial
theorem PySem.W.Fast.tw14388329151315683560 : True := trivial
theorem PySem.W.Fast.tw5431401959522483880 : True := trivial
theorem PySem.W.Fast.tw6112146940487971496 : True := trivial
theorem PySem.W.Fast.tw18090142676812280424 : True := trivial
theorem PySem.W.Fast.tw2207430057844826152 : True := trivial
theorem PySem.W.Fast.tw1153924609945005064 : True := trivial
theorem PySem.W.Fast.tw16605139050772656040 : True := trivial
theorem PySem.W.Fast.tw13319645750797511592 : True := trivial
theorem PySem.W.Fast.tw16457972269755734888 : True := trivial
theorem PySem.W.Fast.tw6242249186620814056 : True := trivial
theorem PySem.W.Fast.tw6615688112505278632 : True := trivial
theorem PySem.W.Fast.tw8837929014316895368 : True := trivial
theorem PySem.W.Fast.tw3897609268622490728 : True := trivial
theorem PySem.W.Fast.tw18053067732453731304 : True := trivial
theorem PySem.W.Fast.tw775353029987070312 : True := trivial
theorem PySem.W.Fast.tw8846389977583980561 : True := trivial
theorem PySem.W.Fast.tw8540349873630042545 : True := trivial
theorem PySem.W.Fast.tw14362237424939370929 : True := trivial
theorem PySem.W.Fast.tw17377727081758364561 : True := trivial
theorem PySem.W.Fast.tw4770605693140871441 : True := trivial
theorem PySem.W.Fast.tw2133401958398814449 : True := trivial
theorem PySem.W.Fast.tw14263593739261927921 : True := trivial
theorem PySem.W.Fast.tw12602016413632170481 : True := trivial
theorem PySem.W.Fast.tw4821883994190356881 : True := trivial
theorem PySem.W.Fast.tw3954682032658657617 : True := trivial
theorem PySem.W.Fast.tw15983353843853300810 : True := trivial
theorem PySem.W.Fast.tw13397857557392091690 : True := trivial
theorem PySem.W.Fast.tw15739009424950237738 : True := trivial
theorem PySem.W.Fast.tw16683337458551732714 : True := trivial
theorem PySem.W.Fast.tw9425099210532884970 : True := trivial
theorem PySem.W.Fast.tw2573300042338390986 : True := trivial
theorem PySem.W.Fast.tw15161144348598147242 : True := trivial
theorem PySem.W.Fast.tw17088882032596815434 : True := trivial
theorem PySem.W.Fast.tw16778534564882307466 : True := trivial
theorem PySem.W.Fast.tw8068556008413187178 : True := trivial
theorem PySem.W.Fast.tw17322717538817197395 : True := trivial
theorem PySem.W.Fast.tw3173934017317828915 : True := trivial
theorem PySem.W.Fast.tw837260908169417427 : True := trivial
theorem PySem.W.Fast.tw5960517222186999347 : True := trivial
theorem PySem.W.Fast.tw6530155678028932659 : True := trivial
theorem PySem.W.Fast.tw8776710686145945811 : True := trivial
theorem PySem.W.Fast.tw8211735399451274291 : True := trivial
theorem PySem.W.Fast.tw9154626626879771123 : True := trivial
theorem PySem.W.Fast.tw13653198511988806099 : True := trivial
theorem PySem.W.Fast.tw278226519108361107 : True := trivial
theorem PySem.W.Fast.tw15380145241350550932 : True := trivial
theorem PySem.W.Fast.tw15210133989734917524 : True := trivial
theorem PySem.W.Fast.tw3832895333077694708 : True := trivial
theorem PySem.W.Fast.tw9029483860802097332 : True := trivial
theorem PySem.W.Fast.tw5795382366654646900 : True := trivial
theorem PySem.W.Fast.tw3021845237273556596 : True := trivial
theorem PySem.W.Fast.tw1078198632705222100 : True := trivial
theorem PySem.W.Fast.tw10831443058580959540 : True := trivial
theorem PySem.W.Fast.tw12627063164026873108 : True := trivial
theorem PySem.W.Fast.tw16608077128661955252 : True := trivial
theorem PySem.W.Fast.tw14660887236925848724 : True := trivial
theorem PySem.W.Fast.tw18354774643621725780 : True := trivial
theorem PySem.W.Fast.tw17809841452142833172 : True := trivial
theorem PySem.W.Fast.tw5837404255166778445 : True := trivial
theorem PySem.W.Fast.tw11431496755558368813 : True := trivial
theorem PySem.W.Fast.tw16319303614497744365 : True := trivial
theorem PySem.W.Fast.tw1946795230235854189 : True := trivial
theorem PySem.W.Fast.tw6133330972872429197 : True := trivial
theorem PySem.W.Fast.tw11859753165560728141 : True := trivial
theorem PySem.W.Fast.tw4374787667197964301 : True := trivial
theorem PySem.W.Fast.tw12485302935320098797 : True := trivial
theorem PySem.W.Fast.tw93036001881755085 : True := trivial
theorem PySem.W.Fast.tw4525446740950950157 : True := trivial
theorem PySem.W.Fast.tw18322762043443918541 : True := trivial
theorem PySem.W.Fast.tw2282474764949228205 : True := trivial
theorem PySem.W.Fast.tw7513747726360985741 : True := trivial
theorem PySem.W.Fast.tw4923858738885883798 : True := trivial
theorem PySem.W.Fast.tw13003089849451497846 : True := trivial
theorem PySem.W.Fast.tw1512500740991459702 : True := trivial
theorem PySem.W.Fast.tw13931917278542129462 : True := trivial
theorem PySem.W.Fast.tw9181789107905322294 : True := trivial
theorem PySem.W.Fast.tw11827859053996375350 : True := trivial
theorem PySem.W.Fast.tw7247009077721938710 : True := trivial
theorem PySem.W.Fast.tw3660854474002701078 : True := trivial
theorem PySem.W.Fast.tw16965797793336756982 : True := trivial
theorem PySem.W.Fast.tw16800228520718641334 : True := trivial
theorem PySem.W.Fast.tw12800763661374808662 : True := trivial
theorem PySem.W.Fast.tw5140898202211788182 : True := trivial
theorem PySem.W.Fast.tw6098707579933583766 : True := trivial
theorem PySem.W.Fast.tw3754346073928540022 : True := trivial
theorem PySem.W.Fast.tw15764765558984590166 : True := trivial
theorem PySem.W.Fast.tw4801542431248351478 : True := trivial
theorem PySem.W.Fast.tw7362613206781826294 : True := trivial
theorem PySem.W.Fast.tw15478239228141704438 : True := trivial
theorem PySem.W.Fast.tw12368929187982195830 : True := trivial
theorem PySem.W.Fast.tw15733149861066716278 : True := trivial
theorem PySem.W.Fast.tw5149613371688759414 : True := trivial
theorem PySem.W.Fast.tw435841458702449750 : True := trivial
theorem PySem.W.Fast.tw12302542364525196374 : True := trivial
theorem PySem.W.Fast.tw10475752941321914454 : True := trivial
theorem PySem.W.Fast.tw8612499740400913942 : True := trivial
theorem PySem.W.Fast.tw16536391519539029199 : True := trivial
theorem PySem.W.Fast.tw3260714685404404335 : True := trivial
theorem PySem.W.Fast.tw8313817615646820879 : True := trivial
theorem PySem.W.Fast.tw9867460812116990415 : True := trivial
theorem PySem.W.Fast.tw8349020378558966639 : True := trivial
theorem PySem.W.Fast.tw553547381145435471 : True := trivial
theorem PySem.W.Fast.tw8897384064050814255 : True := trivial
theorem PySem.W.Fast.tw9715319876302418703 : True := trivial
theorem PySem.W.Fast.tw2360917549764944623 : True := trivial
theorem PySem.W.Fast.tw16423023115925264079 : True := trivial
theorem PySem.W.Fast.tw2850570785272897679 : True := trivial
theorem PySem.W.Fast.tw15598083650822088239 : True := trivial
theorem PySem.W.Fast.tw15828201358691985967 : True := trivial
theorem PySem.W.Fast.tw1693948188284790191 : True := trivial
theorem PySem.W.Fast.tw3183326498301597071 : True := trivial
theorem PySem.W.Fast.tw8204044851620111632 : True := trivial
theorem PySem.W.Fast.tw10904183785055590992 : True := trivial
theorem PySem.W.Fast.tw15289109549477466032 : True := trivial
theorem PySem.W.Fast.tw15554293778574524656 : True := trivial
theorem PySem.W.Fast.tw14230563031269741200 : True := trivial
theorem PySem.W.Fast.tw12931567772604699769 : True := trivial
theorem PySem.W.Fast.tw9623612212772210201 : True := trivial
theorem PySem.W.Fast.tw7371309529382112025 : True := trivial
theorem PySem.W.Fast.tw10370083270649409305 : True := trivial
theorem PySem.W.Fast.tw8978250096001662585 : True := trivial
theorem PySem.W.Fast.tw9246948409153377305 : True := trivial
theorem PySem.W.Fast.tw8683280516444726681 : True := trivial
theorem PySem.W.Fast.tw15854788168771312025 : True := trivial
theorem PySem.W.Fast.tw2194982399148398457 : True := trivial
theorem PySem.W.Fast.tw5271704029063490393 : True := trivial
theorem PySem.W.Fast.tw8203599145047355250 : True := trivial
theorem PySem.W.Fast.tw3011747296839360786 : True := trivial
theorem PySem.W.Fast.tw12185719339539170002 : True := trivial
theorem PySem.W.Fast.tw779763828428115922 : True := trivial
theorem PySem.W.Fast.tw16834487052772626738 : True := trivial
theorem PySem.W.Fast.tw14290050250707739858 : True := trivial
theorem PySem.W.Fast.tw3667172277009698907 : True := trivial
theorem PySem.W.Fast.tw3220094958449869883 : True := trivial
theorem PySem.W.Fast.tw923380408390601755 : True := trivial
theorem PySem.W.Fast.tw12461912163065278971 : True := trivial
theorem PySem.W.Fast.tw17338038981833211355 : True := trivial
theorem PySem.W.Fast.tw6868738317043858363 : True := trivial
theorem PySem.W.Fast.tw14093036286931622203 : True := trivial
theorem PySem.W.Fast.tw14056415617174827771 : True := trivial
theorem PySem.W.Fast.tw9953368453847848923 : True := trivial
theorem PySem.W.Fast.tw18093583730074995675 : True := trivial
theorem PySem.W.Fast.tw16260510275754826715 : True := trivial
theorem PySem.W.Fast.tw8209962420556942747 : True := trivial
theorem PySem.W.Fast.tw727536301766640380 : True := trivial
theorem PySem.W.Fast.tw2666166988301684412 : True := trivial
theorem PySem.W.Fast.tw17653584482727407708 : True := trivial
theorem PySem.W.Fast.tw552066142725180956 : True := trivial
theorem PySem.W.Fast.tw4164929282558633916 : True := trivial
theorem PySem.W.Fast.tw15162654226473159004 : True := trivial
theorem PySem.W.Fast.tw10026405751174368028 : True := trivial
theorem PySem.W.Fast.tw12169060018600998076 : True := trivial
theorem PySem.W.Fast.tw9064833359424999900 : True := trivial
theorem PySem.W.Fast.tw18221692063078410453 : True := trivial
theorem PySem.W.Fast.tw9578306443230593205 : True := trivial
theorem PySem.W.Fast.tw616374768463345973 : True := trivial
theorem PySem.W.Fast.tw17678215294049923797 : True := trivial
theorem PySem.W.Fast.tw15633948450172736661 : True := trivial
theorem PySem.W.Fast.tw14093434904173437493 : True := trivial
theorem PySem.W.Fast.tw10566606694590380565 : True := trivial
theorem PySem.W.Fast.tw13670022132578400629 : True := trivial
theorem PySem.W.Fast.tw16067168955659325438 : True := trivial
theorem PySem.W.Fast.tw10783608695865299934 : True := trivial
theorem PySem.W.Fast.tw12571757809533310814 : True := trivial
theorem PySem.W.Fast.tw13325656173775852382 : True := trivial
theorem PySem.W.Fast.tw11521615032366846238 : True := trivial
theorem PySem.W.Fast.tw1705053372202046110 : True := trivial
theorem PySem.W.Fast.tw17944854674234421374 : True := trivial
theorem PySem.W.Fast.tw569593903630054462 : True := trivial
theorem PySem.W.Fast.tw3103530896466091486 : True := trivial
theorem PySem.W.Fast.tw12633988430903959006 : True := trivial
theorem PySem.W.Fast.tw5461845687341971390 : True := trivial
theorem PySem.W.Fast.tw16199416030052130750 : True := trivial
theorem PySem.W.Fast.tw2769105098067538302 : True := trivial
theorem PySem.W.Fast.tw1945618757539883390 : True := trivial
theorem PySem.W.Fast.tw5022537851746043646 : True := trivial
theorem PySem.W.Fast.tw2865628812232157822 : True := trivial
theorem PySem.W.Fast.tw13641259513279718935 : True := trivial
theorem PySem.W.Fast.tw15779024704501727191 : True := trivial
theorem PySem.W.Fast.tw16567890586293399991 : True := trivial
theorem PySem.W.Fast.tw2651419667640300311 : True := trivial
theorem PySem.W.Fast.tw13713626136160633623 : True := trivial
theorem PySem.W.Fast.tw10507647917504549079 : True := trivial
theorem PySem.W.Fast.tw13765871589012327063 : True := trivial
theorem PySem.W.Fast.tw1590649762044369975 : True := trivial
theorem PySem.W.Fast.tw5128651242485110807 : True := trivial
theorem PySem.W.Fast.tw16408871228756156343 : True := trivial
theorem PySem.W.Fast.tw4397160941659884439 : True := trivial
theorem PySem.W.Fast.tw6539999995075645303 : True := trivial
theorem PySem.W.Fast.tw11944366398199383351 : True := trivial
theorem PySem.W.Fast.tw7077307239657211159 : True := trivial
theorem PySem.W.Fast.tw3084414007590681303 : True := trivial
theorem PySem.W.Fast.tw11546984106083568440 : True := trivial
theorem PySem.W.Fast.tw16658315929188136184 : True := trivial
theorem PySem.W.Fast.tw10189078014554265464 : True := trivial
theorem PySem.W.Fast.tw10273056555191788248 : True := trivial
theorem PySem.W.Fast.tw17643671814077301912 : True := trivial
theorem PySem.W.Fast.tw96330331695857816 : True := trivial
theorem PySem.W.Fast.tw4382162805572936824 : True := trivial
theorem PySem.W.Fast.tw7861362466466331160 : True := trivial
theorem PySem.W.Fast.tw13747229623692385272 : True := trivial
theorem PySem.W.Fast.tw17905139856656565656 : True := trivial
theorem PySem.W.Fast.tw6936663997073279009 : True := trivial
theorem PySem.W.Fast.tw15877392338302158657 : True := trivial
theorem PySem.W.Fast.tw416953781835690273 : True := trivial
theorem PySem.W.Fast.tw11297583676927711489 : True := trivial
theorem PySem.W.Fast.tw12269335992627798689 : True := trivial
theorem PySem.W.Fast.tw7577168471409777153 : True := trivial
theorem PySem.W.Fast.tw938104432140418554 : True := trivial
theorem PySem.W.Fast.tw16677383453052893498 : True := trivial
theorem PySem.W.Fast.tw9361998302085259898 : True := trivial
theorem PySem.W.Fast.tw11932845664428369338 : True := trivial
theorem PySem.W.Fast.tw9972709604797531802 : True := trivial
theorem PySem.W.Fast.tw4181447334236477562 : True := trivial
theorem PySem.W.Fast.tw4398969236918727971 : True := trivial
theorem PySem.W.Fast.tw13686047941931643427 : True := trivial
theorem PySem.W.Fast.tw16669767882858346019 : True := trivial
theorem PySem.W.Fast.tw16031157505518135299 : True := trivial
theorem PySem.W.Fast.tw18243344641345898499 : True := trivial
theorem PySem.W.Fast.tw15424199253342496163 : True := trivial
theorem PySem.W.Fast.tw10442107877140794755 : True := trivial
theorem PySem.W.Fast.tw5806501625596772739 : True := trivial
theorem PySem.W.Fast.tw14462779537896490179 : True := trivial
theorem PySem.W.Fast.tw4269644206451793539 : True := trivial
theorem PySem.W.Fast.tw10136938007940045891 : True := trivial
theorem PySem.W.Fast.tw9878923899565225475 : True := trivial
theorem PySem.W.Fast.tw14666005996574844835 : True := trivial
open PySem PySem.W PyProof.Rows
set_option maxRecDepth 100000 in
set_option maxHeartbeats 0 in
theorem PySem.Challenge.cw_halvedpictures_k17_flat_and_bent_rows_holds : PySem.Challenge.rw_halvedpictures_k17_flat_and_bent_rows.Holds := by
  w_on; o_law; k_head; (case hw => w_witness2)
  k_fill
  refine K17.walk (l := PySem.Challenge.rw_halvedpictures_k17_flat_and_bent_rows) rfl rfl (fun w h Y => PySem.W.kIn_of Y) ?F
  case F =>
    intro w mg fa h KX G hmg
    refine' K17.all_mk KX G hmg ?aC_Guessed ?pg_Guessed ?hd_Guessed ?po_Guessed ?sa_Guessed ?mk_Guessed ?kc_Guessed ?in_Guessed ?aC_Halves ?pg_Halves ?hd_Halves ?po_Halves ?sa_Halves ?mk_Halves ?kc_Halves ?in_Halves ?aC_Leaning ?pg_Leaning ?hd_Leaning ?po_Leaning ?sa_Leaning ?mk_Leaning ?kc_Leaning ?in_Leaning ?aC_Sums ?pg_Sums ?hd_Sums ?po_Sums ?sa_Sums ?mk_Sums ?kc_Sums ?in_Sums ?a0 ?l0 ?c0 ?k0 ?a1 ?l1 ?c1 ?k1 ?a2 ?l2 ?c2 ?k2 ?a3 ?l3 ?c3 ?k3 ?a4 ?l4 ?c4 ?k4 ?a5 ?i5 ?l5 ?c5 ?k5 ?a6 ?i6 ?l6 ?c6 ?k6 ?a7 ?i7 ?l7 ?c7 ?k7 ?a8 ?i8 ?l8 ?c8 ?k8 ?a9 ?i9 ?l9 ?c9 ?k9 ?a10 ?i10 ?l10 ?c10 ?k10 ?a11 ?i11 ?l11 ?c11 ?k11 ?a12 ?i12 ?l12 ?c12 ?k12 ?a13 ?i13 ?l13 ?c13 ?k13 ?a14 ?l14 ?c14 ?k14 ?a15 ?l15 ?c15 ?k15 ?a16 ?l16 ?c16 ?k16 ?a17 ?l17 ?c17 ?k17 ?a18 ?i18 ?l18 ?c18 ?k18 ?a19 ?i19 ?l19 ?c19 ?k19 ?a20 ?i20 ?l20 ?c20 ?k20 ?a21 ?i21 ?l21 ?c21 ?k21 ?a22 ?l22 ?c22 ?k22 ?a23 ?l23 ?c23 ?k23 ?a24 ?l24 ?c24 ?k24 ?a25 ?l25 ?c25 ?k25 ?a26 ?l26 ?c26 ?k26 ?a27 ?l27 ?c27 ?k27 ?a28 ?l28 ?c28 ?k28 ?a29 ?l29 ?c29 ?k29 ?a30 ?l30 ?c30 ?k30 ?e_Halves_halves ?e_Halves_sums_of ?e_Leaning_sum_of_pair ?e_Leaning_sum_of_lone ?e_Leaning_halves ?e_Leaning_sums_of ?e_Sums_halves ?e_Sums_parted ?e_Sums_sums_of ?e_Sums_sum_of_pair ?e_Sums_sum_of_lone ?q_MOST_NUMBER ?q_MOST_SIDE ?z_all ?z_bool ?z_int ?z_isinstance ?z_len ?z_list ?z_max ?z_min ?z_range ?z_zip ?y_bb ?y_bi ?y_bl ?y_bt ?y_ib ?y_ii ?y_il ?y_it ?y_nb ?y_ni ?y_nl ?y_nt ?y_sb ?y_si ?y_sl ?y_st ?y_lb ?y_li ?y_ll ?y_lt ?y_tb ?y_ti ?y_tl ?y_tt ?y_db ?y_di ?y_dl ?y_dt
    (case aC_Guessed => k_is)
    (case pg_Guessed => k_is)
    (case hd_Guessed => k_is)
    (case po_Guessed => k_is)
    (case sa_Guessed => k_is)
    (case mk_Guessed => k_is)
    (case kc_Guessed => k_is)
    (case in_Guessed => k_is)
    (case aC_Halves => k_is)
    (case pg_Halves => k_is)
    (case hd_Halves => k_is)
    (case po_Halves => k_is)
    (case sa_Halves => k_is)
    (case mk_Halves => k_is)
    (case kc_Halves => k_is)
    (case in_Halves => k_is)
    (case aC_Leaning => k_is)
    (case pg_Leaning => k_is)
    (case hd_Leaning => k_is)
    (case po_Leaning => k_is)
    (case sa_Leaning => k_is)
    (case mk_Leaning => k_is)
    (case kc_Leaning => k_is)
    (case in_Leaning => k_is)
    (case aC_Sums => k_is)
    (case pg_Sums => k_is)
    (case hd_Sums => k_is)
    (case po_Sums => k_is)
    (case sa_Sums => k_is)
    (case mk_Sums => k_is)
    (case kc_Sums => k_is)
    (case in_Sums => k_is)
    (case a0 => k_is)
    (case l0 => k_is)
    (case c0 => k_is)
    (case k0 => k_is)
    (case a1 => k_is)
    (case l1 => k_is)
    (case c1 => k_is)
    (case k1 => k_is)
    (case a2 => k_is)
    (case l2 => k_is)
    (case c2 => k_is)
    (case k2 => k_is)
    (case a3 => k_is)
    (case l3 => k_is)
    (case c3 => k_is)
    (case k3 => k_is)
    (case a4 => k_is)
    (case l4 => k_is)
    (case c4 => k_is)
    (case k4 => k_is)
    (case a5 => k_is)
    (case i5 => k_is)
    (case l5 => k_is)
    (case c5 => k_is)
    (case k5 => k_is)
    (case a6 => k_is)
    (case i6 => k_is)
    (case l6 => k_is)
    (case c6 => k_is)
    (case k6 => k_is)
    (case a7 => k_is)
    (case i7 => k_is)
    (case l7 => k_is)
    (case c7 => k_is)
    (case k7 => k_is)
    (case a8 => k_is)
    (case i8 => k_is)
    (case l8 => k_is)
    (case c8 => k_is)
    (case k8 => k_is)
    (case a9 => k_is)
    (case i9 => k_is)
    (case l9 => k_is)
    (case c9 => k_is)
    (case k9 => k_is)
    (case a10 => k_is)
    (case i10 => k_is)
    (case l10 => k_is)
    (case c10 => k_is)
    (case k10 => k_is)
    (case a11 => k_is)
    (case i11 => k_is)
    (case l11 => k_is)
    (case c11 => k_is)
    (case k11 => k_is)
    (case a12 => k_is)
    (case i12 => k_is)
    (case l12 => k_is)
    (case c12 => k_is)
    (case k12 => k_is)
    (case a13 => k_is)
    (case i13 => k_is)
    (case l13 => k_is)
    (case c13 => k_is)
    (case k13 => k_is)
    (case a14 => k_is)
    (case l14 => k_is)
    (case c14 => k_is)
    (case k14 => k_is)
    (case a15 => k_is)
    (case l15 => k_is)
    (case c15 => k_is)
    (case k15 => k_is)
    (case a16 => k_is)
    (case l16 => k_is)
    (case c16 => k_is)
    (case k16 => k_is)
    (case a17 => k_is)
    (case l17 => k_is)
    (case c17 => k_is)
    (case k17 => k_is)
    (case a18 => k_is)
    (case i18 => k_is)
    (case l18 => k_is)
    (case c18 => k_is)
    (case k18 => k_is)
    (case a19 => k_is)
    (case i19 => k_is)
    (case l19 => k_is)
    (case c19 => k_is)
    (case k19 => k_is)
    (case a20 => k_is)
    (case i20 => k_is)
    (case l20 => k_is)
    (case c20 => k_is)
    (case k20 => k_is)
    (case a21 => k_is)
    (case i21 => k_is)
    (case l21 => k_is)
    (case c21 => k_is)
    (case k21 => k_is)
    (case a22 => k_is)
    (case l22 => k_is)
    (case c22 => k_is)
    (case k22 => k_is)
    (case a23 => k_is)
    (case l23 => k_is)
    (case c23 => k_is)
    (case k23 => k_is)
    (case a24 => k_is)
    (case l24 => k_is)
    (case c24 => k_is)
    (case k24 => k_is)
    (case a25 => k_is)
    (case l25 => k_is)
    (case c25 => k_is)
    (case k25 => k_is)
    (case a26 => k_is)
    (case l26 => k_is)
    (case c26 => k_is)
    (case k26 => k_is)
    (case a27 => k_is)
    (case l27 => k_is)
    (case c27 => k_is)
    (case k27 => k_is)
    (case a28 => k_is)
    (case l28 => k_is)
    (case c28 => k_is)
    (case k28 => k_is)
    (case a29 => k_is)
    (case l29 => k_is)
    (case c29 => k_is)
    (case k29 => k_is)
    (case a30 => k_is)
    (case l30 => k_is)
    (case c30 => k_is)
    (case k30 => k_is)
    (case e_Halves_halves => k_is)
    (case e_Halves_sums_of => k_is)
    (case e_Leaning_sum_of_pair => k_is)
    (case e_Leaning_sum_of_lone => k_is)
    (case e_Leaning_halves => k_is)
    (case e_Leaning_sums_of => k_is)
    (case e_Sums_halves => k_is)
    (case e_Sums_parted => k_is)
    (case e_Sums_sums_of => k_is)
    (case e_Sums_sum_of_pair => k_is)
    (case e_Sums_sum_of_lone => k_is)
    (case q_MOST_NUMBER => k_is)
    (case q_MOST_SIDE => k_is)
    (case z_all => k_is)
    (case z_bool => k_is)
    (case z_int => k_is)
    (case z_isinstance => k_is)
    (case z_len => k_is)
    (case z_list => k_is)
    (case z_max => k_is)
    (case z_min => k_is)
    (case z_range => k_is)
    (case z_zip => k_is)
    (case y_bb => kit_is)
    (case y_bi => kit_is)
    (case y_bl => kit_is)
    (case y_bt => kit_is)
    (case y_ib => kit_is)
    (case y_ii => kit_is)
    (case y_il => kit_is)
    (case y_it => kit_is)
    (case y_nb => kit_is)
    (case y_ni => kit_is)
    (case y_nl => kit_is)
    (case y_nt => kit_is)
    (case y_sb => kit_is)
    (case y_si => kit_is)
    (case y_sl => kit_is)
    (case y_st => kit_is)
    (case y_lb => kit_is)
    (case y_li => kit_is)
    (case y_ll => kit_is)
    (case y_lt => kit_is)
    (case y_tb => kit_is)
    (case y_ti => kit_is)
    (case y_tl => kit_is)
    (case y_tt => kit_is)
    (case y_db => kit_is)
    (case y_di => kit_is)
    (case y_dl => kit_is)
    (case y_dt => kit_is)
