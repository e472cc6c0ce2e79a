import PyProof.Rows.All
import Wide.All
import OpenK.AllK
import Wide.FinOn
import Lean
import PyProof.EqAt
import PyProof.EqKinds
import PyProof.TupleCall
import KE.KRevIter
import PySem.Challenge.RW_timecourt_k87_texts_that_are_no_sentence
set_option Elab.async false
set_option linter.all false
set_option maxRecDepth 100000
/-! THE HAND LAYER, for ints, bools, texts, own classes, LISTS and tuples (index, slices, in, append, pop ..), calls, loops. Paste it whole ahead of your own text; what your proof does not reach may be deleted. -/
namespace L2
open PySem PySem.Spec PyProof.Rows

/-- a key: an int or a str -/
abbrev Key := Sum Int Str
def keyIs : Key → Value → Bool
  | .inl k, v => Value.isInt k v
  | .inr x, v => Value.isStrOf x v
def keyH (w : World) : Key → Int
  | .inl k => hashInt k
  | .inr x => hashStr w x
theorem keyIs_shape : ∀ {k : Key} {v : Value}, keyIs k v = true → (∃ i t, k = Sum.inl i ∧ v = Value.int i t) ∨ (∃ x t, k = Sum.inr x ∧ v = Value.str x t)
  | .inl i, v, h => by
    obtain ⟨t, e⟩ := Value.isInt_shape (k := i) (v := v) h
    exact .inl ⟨i, t, rfl, e⟩
  | .inr x, v, h => by
    obtain ⟨t, e⟩ := Value.isStrOf_shape (x := x) (v := v) h
    exact .inr ⟨x, t, rfl, e⟩
theorem key_ll (a b : Int) : decide ((Sum.inl a : Key) = Sum.inl b) = (a == b) := by
  by_cases e : a = b
  · subst e; simp
  · have h : ¬ (Sum.inl a : Key) = Sum.inl b := fun q => e (Sum.inl.inj q)
    rw [decide_eq_false h]
    exact (beq_eq_false_iff_ne.mpr e).symm
theorem key_rr (a b : Str) : decide ((Sum.inr a : Key) = Sum.inr b) = decide (a = b) := by
  by_cases e : a = b
  · subst e; simp
  · have h : ¬ (Sum.inr a : Key) = Sum.inr b := fun q => e (Sum.inr.inj q)
    rw [decide_eq_false h, decide_eq_false e]
theorem key_lr (a : Int) (b : Str) : decide ((Sum.inl a : Key) = Sum.inr b) = false := decide_eq_false (fun q => nomatch q)
theorem key_rl (a : Str) (b : Int) : decide ((Sum.inr a : Key) = Sum.inl b) = false := decide_eq_false (fun q => nomatch q)

def mixKind (prog : Program) (w : World) : PySem.KeyKind prog w Key where
  is := keyIs
  hash := keyH w
  inj := fun v a b ha hb => by
    rcases keyIs_shape ha with ⟨i, t, rfl, rfl⟩ | ⟨x, t, rfl, rfl⟩
    · rcases keyIs_shape hb with ⟨j, u, rfl, e⟩ | ⟨y, u, rfl, e⟩
      · injection e with e1 _; rw [e1]
      · exact nomatch e
    · rcases keyIs_shape hb with ⟨j, u, rfl, e⟩ | ⟨y, u, rfl, e⟩
      · exact nomatch e
      · injection e with e1 _; rw [e1]
  byValue := fun k v h => by
    rcases keyIs_shape h with ⟨i, t, rfl, rfl⟩ | ⟨x, t, rfl, rfl⟩ <;> rfl
  pyHash := fun hv h => by
    rcases keyIs_shape hv with ⟨i, t, rfl, rfl⟩ | ⟨x, t, rfl, rfl⟩
    · exact wpAny_pyHash_int h
    · exact wpAny_pyHash_str h
  eqBool := fun hu hv h => by
    rcases keyIs_shape hu with ⟨i, t, rfl, rfl⟩ | ⟨x, t, rfl, rfl⟩
    · rcases keyIs_shape hv with ⟨j, u, rfl, rfl⟩ | ⟨y, u, rfl, rfl⟩
      · rw [key_ll] at h; exact wpAny_eqBool_int h
      · rw [key_lr] at h; exact SeqAt.EqAt.int_str i t y u _ _ _ _ h
    · rcases keyIs_shape hv with ⟨j, u, rfl, rfl⟩ | ⟨y, u, rfl, rfl⟩
      · rw [key_rl] at h; exact SeqAt.EqAt.str_int x t j u _ _ _ _ h
      · rw [key_rr] at h; exact wpAny_eqBool_str h
  «strs» := fun k x t v h => by
    rcases keyIs_shape h with ⟨i, u, rfl, e⟩ | ⟨y, u, rfl, e⟩
    · exact nomatch e
    · injection e with e1 _
      subst e1
      cases v <;> rfl

end L2

namespace L2
open PySem PySem.Spec PyProof.Rows

/-- a value, without the heap -/
inductive V where
  | non | bl (b : Bool) | int (i : Int) | str (x : Str) | byt (b : Array UInt8) | flt (b : UInt64) | ref (a : Addr) | ty (n : String)
  deriving DecidableEq

def RelV : V → Value → Prop
  | .non, u => u = Value.none
  | .bl b, u => u = Value.bool b
  | .int i, u => ∃ t, u = Value.int i t
  | .str x, u => ∃ t, u = Value.str x t
  | .byt b, u => ∃ t, u = Value.bytes b t
  | .flt b, u => ∃ t, u = Value.float b t
  | .ref a, u => u = Value.ref a
  | .ty n, u => u = Value.type n

abbrev Vals : List V → List Value → Prop := Paired RelV
theorem Vals.length {xs : List V} {us : List Value} (r : Vals xs us) : xs.length = us.length := Paired.length r
theorem Vals.get : ∀ {xs : List V} {us : List Value} {i : Nat} {x : V}, Vals xs us → xs[i]? = some x → ∃ u, us[i]? = some u ∧ RelV x u
  | _, _, _, _, .nil, e => by simp at e
  | _, _, 0, _, .cons r _, e => by simp at e; subst e; exact ⟨_, rfl, r⟩
  | _, _, i + 1, x, .cons _ t, e => by
    obtain ⟨u, h1, h2⟩ := Vals.get (i := i) (x := x) t (by simpa using e)
    exact ⟨u, by simpa using h1, h2⟩
theorem Vals.append : ∀ {xs ys : List V} {us ws : List Value}, Vals xs us → Vals ys ws → Vals (xs ++ ys) (us ++ ws)
  | _, _, _, _, .nil, s => s
  | _, _, _, _, .cons r t, s => .cons r (Vals.append t s)
theorem Vals.take : ∀ {xs : List V} {us : List Value} (n : Nat), Vals xs us → Vals (xs.take n) (us.take n)
  | _, _, 0, _ => .nil
  | _, _, _ + 1, .nil => .nil
  | _, _, n + 1, .cons r t => .cons r (Vals.take n t)
theorem Vals.drop : ∀ {xs : List V} {us : List Value} (n : Nat), Vals xs us → Vals (xs.drop n) (us.drop n)
  | _, _, 0, r => r
  | _, _, _ + 1, .nil => .nil
  | _, _, n + 1, .cons _ t => Vals.drop n t
def RelO : Option V → Option Value → Prop
  | some v, some u => RelV v u
  | none, none => True
  | _, _ => False
def KV {κ : Type} : List (κ × V) → List (κ × Value) → Prop := Paired fun (p : κ × V) (q : κ × Value) => p.1 = q.1 ∧ RelV p.2 q.2

/-- a key of a dict (00_mix): an int or a text -/
def kV : Key → V
  | .inl i => .int i
  | .inr x => .str x

/-- what stands at a tracked address -/
inductive HO where
  /-- a list -/
  | lst (xs : List V)
  /-- a tuple (never changes) -/
  | tup (xs : List V)
  /-- a dict whose keys are ints and texts; one whose keys are tuples of ints and texts (the empty one is both) -/
  | dK (kvs : List (Key × V)) | dT (kvs : List (List Key × V))
  /-- a set of ints: its members, its size -/
  | set (S : Int → Bool) (n : Nat)
  /-- an instance of the class at C, its dict at dx, its attributes -/
  | ins (C dx : Addr) (fs : List (Str × V))
  /-- the dict of the instance at x -/
  | own (x : Addr)
  /-- the dict of an exception -/
  | xd (fs : List (Str × V))
  /-- a bound method, f of x -/
  | met (f x : Addr)
  /-- a range object lo, lo + 1, .. below hi -/
  | rng (lo hi : Int)
  /-- a thing that is known to the object (the script; a dict while a loop walks it): read, never written while it is so -/
  | frz (o : Obj) (u : HO)
  /-- a code object's table -/
  | tbl (ps : Array Value)
  /-- any other thing, by what is true of its one object (a def of one's own: SetO a S n := HO.ext fun h => ..) -/
  | ext (φ : Heap → Prop)

abbrev Hp := Addr → Option HO
def upd (H : Hp) (a : Addr) (o : HO) : Hp := fun b => if b = a then some o else H b
theorem upd_same {H : Hp} {a : Addr} {o : HO} : upd H a o a = some o := by unfold upd; rw [if_pos rfl]
theorem upd_ne {H : Hp} {a b : Addr} {o : HO} (h : b ≠ a) : upd H a o b = H b := by unfold upd; rw [if_neg h]
/-- two objects of different content stand apart -/
theorem ne_of {H : Hp} {a b : Addr} {o u : HO} (h : H a = some o) (h' : H b = some u) (d : o ≠ u) : a ≠ b := by
  intro e; subst e; rw [h] at h'; exact d (Option.some.inj h')
theorem ne_of_none {H : Hp} {a b : Addr} {o : HO} (h : H a = some o) (h' : H b = none) : a ≠ b := by
  intro e; subst e; rw [h] at h'; cases h'

section
variable (P : Program) (w : World)
def ObjOk (H : Hp) (h : Heap) (a : Addr) : HO → Prop
  | .lst xs => xs.length ≤ sizeLine ∧ ∃ (its : List Value) (n : Nat), Vals xs its ∧ h.get? a = some { cls := .type "list", data := .seq its.toArray n }
  | .tup xs => xs.length ≤ sizeLine ∧ ∃ its : List Value, Vals xs its ∧ IsTup h a its.toArray
  | .dK kvs => kvs.length ≤ sizeLine ∧ (a == sysModules) = false ∧ ∃ vs, KV kvs vs ∧ h.DictOf (mixKind P w) a vs
  | .dT kvs => kvs.length ≤ sizeLine ∧ (a == sysModules) = false ∧ ∃ xs : List (List Key × Addr × Value),
      Paired (fun (p : List Key × V) (q : List Key × Addr × Value) => p.1 = q.1 ∧ H q.2.1 = some (.tup (p.1.map kV)) ∧ RelV p.2 q.2.2) kvs xs ∧
      ∃ o es ep, h.get? a = some o ∧ o.ExactDict ∧ o.data = .dict es ep ∧ es.toList = xs.map (entryOfKey (tupleKind (mixKind P w))) ∧ (xs.map (·.1)).Nodup
  | .set S n => h.SetOf (intKind P w) a S n
  | .ins C dx fs => H dx = some (.own a) ∧ fs.length ≤ 1000 ∧ dx ≠ a ∧ h.get? a = some (PySem.W.instObj C dx) ∧
      ∃ mA, h.Ns1 dx mA ∧ (∀ f, RelO (fs.lookup f) (mA f)) ∧ PySem.Within mA (fs.map (·.1))
  | .own _ => ∃ o, h.get? a = some o
  | .xd fs => ∃ mA, h.Ns1 a mA ∧ ∀ f, RelO (fs.lookup f) (mA f)
  | .rng lo hi => ∃ t u v, h.get? a = some { cls := .type "range", data := .fields #[.int lo t, .int hi u, .int 1 v] }
  | .frz o u => h.get? a = some o ∧ ObjOk H h a u
  | .tbl ps => h.get? a = some { cls := .none, data := .fields ps }
  | .met f x => h.get? a = some (PySem.W.methodObj (.ref f) (.ref x))
  | .ext φ => φ h ∧ (∃ o, h.get? a = some o) ∧ ∀ h1 h2 : Heap, φ h1 → (∀ o, h1.get? a = some o → h2.get? a = some o) → φ h2
/-- the abstract heap is held -/
def HOk (H : Hp) (h : Heap) : Prop := ∀ a o, H a = some o → ObjOk P w H h a o
end

section
variable {P : Program} {w : World} {H H' : Hp} {h h' : Heap} {a : Addr} {o : HO}
theorem ObjOk.lt (x : ObjOk P w H h a o) : a < h.objs.size := by
  cases o with
  | lst xs => obtain ⟨_, _, _, _, e⟩ := x; exact Heap.lt_size e
  | tup xs => obtain ⟨_, _, _, p⟩ := x; exact p.lt
  | dK kvs => obtain ⟨_, _, _, _, o, _, _, e, _⟩ := x; exact Heap.lt_size e
  | dT kvs => obtain ⟨_, _, _, _, o, _, _, e, _⟩ := x; exact Heap.lt_size e
  | set S n => obtain ⟨o, _, _, _, e, _⟩ := x; exact Heap.lt_size e
  | ins C dx fs => obtain ⟨_, _, _, e, _⟩ := x; exact Heap.lt_size e
  | own y => obtain ⟨_, e⟩ := x; exact Heap.lt_size e
  | xd fs => obtain ⟨_, ⟨_, _, _, e, _⟩, _⟩ := x; exact Heap.lt_size e
  | rng lo hi => obtain ⟨_, _, _, e⟩ := x; exact Heap.lt_size e
  | frz ob u => obtain ⟨e, _⟩ := x; exact Heap.lt_size e
  | tbl ps => exact Heap.lt_size (show h.get? a = some _ from x)
  | met f y => exact Heap.lt_size (show h.get? a = some _ from x)
  | ext φ => obtain ⟨_, ⟨_, e⟩, _⟩ := x; exact Heap.lt_size e
theorem Paired.mapP {α β : Type} {F G : α → β → Prop} : ∀ {l₁ : List α} {l₂ : List β}, Paired F l₁ l₂ → (∀ a b, F a b → G a b) → Paired G l₁ l₂
  | _, _, .nil, _ => .nil
  | _, _, .cons r t, f => .cons (f _ _ r) (Paired.mapP t f)
/-- what an object's description leans on: its own object, its own dict, the tuples -/
theorem ObjOk.stay (x : ObjOk P w H h a o) (k : ∀ b u, (b = a ∨ H b = some (.own a)) → h.get? b = some u → h'.get? b = some u)
    (ho : ∀ b, H b = some (.own a) → H' b = some (.own a)) (ht : ∀ b xs, H b = some (.tup xs) → H' b = some (.tup xs)) : ObjOk P w H' h' a o := by
  induction o with
  | lst xs => obtain ⟨z, its, n, r, e⟩ := x; exact ⟨z, its, n, r, k _ _ (.inl rfl) e⟩
  | tup xs => obtain ⟨z, its, r, ob, e, c⟩ := x; exact ⟨z, its, r, ob, k _ _ (.inl rfl) e, c⟩
  | dK kvs => obtain ⟨z, y, vs, r, ob, es, ep, e, c⟩ := x; exact ⟨z, y, vs, r, ob, es, ep, k _ _ (.inl rfl) e, c⟩
  | dT kvs =>
    obtain ⟨z, y, xs, r, ob, es, ep, e, c⟩ := x
    exact ⟨z, y, xs, Paired.mapP r fun p q z => ⟨z.1, ht _ _ z.2.1, z.2.2⟩, ob, es, ep, k _ _ (.inl rfl) e, c⟩
  | set S n => obtain ⟨ob, es, ep, t, e, c⟩ := x; exact ⟨ob, es, ep, t, k _ _ (.inl rfl) e, c⟩
  | ins C dx fs =>
    obtain ⟨d, z, ne, e, mA, ⟨od, es, ep, e2, c⟩, r⟩ := x
    exact ⟨ho _ d, z, ne, k _ _ (.inl rfl) e, mA, ⟨od, es, ep, k _ _ (.inr d) e2, c⟩, r⟩
  | own y => obtain ⟨ob, e⟩ := x; exact ⟨ob, k _ _ (.inl rfl) e⟩
  | xd fs => obtain ⟨mA, ⟨od, es, ep, e, c⟩, r⟩ := x; exact ⟨mA, ⟨od, es, ep, k _ _ (.inl rfl) e, c⟩, r⟩
  | rng lo hi => obtain ⟨t, u, v, e⟩ := x; exact ⟨t, u, v, k _ _ (.inl rfl) e⟩
  | frz ob u ih => obtain ⟨e, q⟩ := x; exact ⟨k _ _ (.inl rfl) e, ih q⟩
  | tbl ps =>
    have e : h.get? a = some { cls := .none, data := .fields ps } := x
    show h'.get? a = some { cls := .none, data := .fields ps }
    exact k a _ (.inl rfl) e
  | met f y =>
    have e : h.get? a = some (PySem.W.methodObj (.ref f) (.ref y)) := x
    show h'.get? a = some (PySem.W.methodObj (.ref f) (.ref y))
    exact k a _ (.inl rfl) e
  | ext φ => obtain ⟨p, ⟨o, e⟩, st⟩ := x; exact ⟨st _ _ p fun o q => k _ _ (.inl rfl) q, ⟨o, k _ _ (.inl rfl) e⟩, st⟩
theorem HOk.lt (x : HOk P w H h) (e : H a = some o) : a < h.objs.size := (x a o e).lt
theorem HOk.fresh (x : HOk P w H h) (e : h.objs.size ≤ a) : H a = none := by
  cases q : H a with
  | none => rfl
  | some u => exact absurd (Nat.lt_of_lt_of_le (x.lt q) e) (Nat.lt_irrefl _)
/-- every object of the heap is kept -/
theorem HOk.kept (x : HOk P w H h) (k : ∀ b u, h.get? b = some u → h'.get? b = some u) : HOk P w H h' := fun a o e =>
  (x a o e).stay (fun b u _ q => k b u q) (fun _ q => q) fun _ _ q => q
/-- a new object is laid and tracked -/
theorem HOk.laid (x : HOk P w H h) (k : ∀ b u, h.get? b = some u → h'.get? b = some u) (hp : h.objs.size ≤ a) (new : ObjOk P w (upd H a o) h' a o) : HOk P w (upd H a o) h' := fun b u e => by
  have hn := x.fresh hp
  by_cases hb : b = a
  · subst hb; rw [upd_same] at e; cases e; exact new
  · rw [upd_ne hb] at e
    exact (x b u e).stay (fun c v _ q => k c v q) (fun c q => by rw [upd_ne (ne_of_none q hn)]; exact q) fun c xs q => by rw [upd_ne (ne_of_none q hn)]; exact q
end

/-- what may be read as u: it is u, or a known u -/
def Rd (H : Hp) (a : Addr) (u : HO) : Prop := H a = some u ∨ ∃ o, H a = some (.frz o u)
theorem Rd.ok {P : Program} {w : World} {H : Hp} {h : Heap} {a : Addr} {u : HO} (r : Rd H a u) (x : HOk P w H h) : ObjOk P w H h a u := by
  rcases r with r | ⟨o, r⟩
  · exact x a u r
  · obtain ⟨_, q⟩ := x a _ r
    exact q
/-- what may be written -/
def Mut : Option HO → Prop
  | some (.lst _) => True
  | some (.dK _) => True
  | some (.dT _) => True
  | some (.set _ _) => True
  | some (.ins _ _ _) => True
  | some (.ext _) => True
  | _ => False
section
variable {P : Program} {w : World} {H : Hp} {h h' : Heap} {x e : Addr} {o' : HO}
/-- the object at e is changed: x itself, or the dict of the instance x -/
theorem HOk.write (ok : HOk P w H h) (mu : Mut (H x)) (he : e = x ∨ H e = some (.own x)) (k : ∀ b u, b ≠ e → h.get? b = some u → h'.get? b = some u) (heo : ∃ u, h'.get? e = some u)
    (new : ObjOk P w (upd H x o') h' x o') : HOk P w (upd H x o') h' := fun b u q => by
  have nown : ∀ c y, H c = some (.own y) → c ≠ x := fun c y r z => by subst z; rw [r] at mu; exact mu
  have ntup : ∀ c xs, H c = some (.tup xs) → c ≠ x := fun c xs r z => by subst z; rw [r] at mu; exact mu
  by_cases hb : b = x
  · subst hb; rw [upd_same] at q; cases q; exact new
  · rw [upd_ne hb] at q
    by_cases hbe : b = e
    · have q' : H b = some (.own x) := by
        rcases he with z | z
        · exact absurd (hbe.trans z) hb
        · rw [hbe]; exact z
      rw [q] at q'; cases q'
      obtain ⟨v, hv⟩ := heo
      exact ⟨v, by rw [hbe]; exact hv⟩
    · refine (ok b u q).stay (fun c v hc r => k c v ?_ r) (fun c r => by rw [upd_ne (nown c b r)]; exact r) fun c xs r => by rw [upd_ne (ntup c xs r)]; exact r
      rcases hc with rfl | hc
      · exact hbe
      · rintro rfl
        rcases he with z | z
        · exact nown c b hc z
        · rw [hc] at z; cases z; exact hb rfl
end

/-! ### kept unless tracked; of the frames at fs (the callers') the slots may change (an exception that passes writes there); of the records at ex (iterators) nothing is said -/
structure Un (fs ex : List Addr) (H H' : Hp) (h h' : Heap) : Prop where
  keep : ∀ b o, h.get? b = some o → H b = none → b ∉ fs → b ∉ ex → h'.get? b = some o
  slot : ∀ b o, h.get? b = some o → H b = none → b ∈ fs → b ∉ ex → ∃ sl, h'.get? b = some { o with slots := sl }
  free : ∀ b o, h.get? b = some o → H b = none → b ∉ ex → H' b = none
  there : ∀ b o, h.get? b = some o → b ∉ ex → ∃ o', h'.get? b = some o'
  tups : ∀ b xs, H b = some (.tup xs) → H' b = some (.tup xs)
  frzs : ∀ b o u, H b = some (.frz o u) → H' b = some (.frz o u)
  tbls : ∀ b ps, H b = some (.tbl ps) → ∃ more, H' b = some (.tbl (ps ++ more))
section
variable {fs fs' ex ex' : List Addr} {H H1 H2 : Hp} {h h1 h2 h' : Heap} {a x e : Addr} {o : HO}
theorem Un.any (u : Un fs ex H H1 h h1) {b : Addr} {ob : Obj} (q : h.get? b = some ob) (n : H b = none) (hx : b ∉ ex) : ∃ sl, h1.get? b = some { ob with slots := sl } := by
  by_cases hb : b ∈ fs
  · exact u.slot b ob q n hb hx
  · exact ⟨ob.slots, u.keep b ob q n hb hx⟩
theorem Un.kept (k : ∀ b u, h.get? b = some u → h'.get? b = some u) : Un fs ex H H h h' :=
  ⟨fun b ob q _ _ _ => k b ob q, fun b ob q _ _ _ => ⟨ob.slots, k b ob q⟩, fun _ _ _ n _ => n, fun b ob q _ => ⟨ob, k b ob q⟩, fun _ _ q => q, fun _ _ _ q => q, fun _ ps q => ⟨#[], by rw [q]; simp⟩⟩
theorem Un.refl : Un fs ex H H h h := Un.kept fun _ _ q => q
theorem Un.laid (k : ∀ b u, h.get? b = some u → h'.get? b = some u) (hp : h.objs.size ≤ a) (hn : H a = none) : Un fs ex H (upd H a o) h h' where
  keep := fun b u q _ _ _ => k b u q
  slot := fun b u q _ _ _ => ⟨u.slots, k b u q⟩
  free := fun b u q n _ => by rw [upd_ne (Nat.ne_of_lt (Nat.lt_of_lt_of_le (Heap.lt_size q) hp))]; exact n
  there := fun b u q _ => ⟨u, k b u q⟩
  tups := fun b xs q => by rw [upd_ne (ne_of_none q hn)]; exact q
  frzs := fun b u xs q => by rw [upd_ne (ne_of_none q hn)]; exact q
  tbls := fun b ps q => ⟨#[], by rw [upd_ne (ne_of_none q hn), q]; simp⟩
theorem Un.write (mu : Mut (H x)) (he : e = x ∨ H e = some (.own x)) (k : ∀ b u, b ≠ e → h.get? b = some u → h'.get? b = some u) (heo : ∃ u, h'.get? e = some u) : Un fs ex H (upd H x o) h h' := by
  have hx : ∀ b, H b = none → b ≠ x := fun b n z => by subst z; rw [n] at mu; exact mu
  have hb : ∀ b, H b = none → b ≠ e := fun b n z => by
    subst z
    rcases he with r | r
    · exact hx b n r
    · rw [n] at r; cases r
  have hm : ∀ b u, H b = some u → ¬ Mut (some u) → b ≠ x := fun b u q nm z => by subst z; rw [q] at mu; exact nm mu
  refine ⟨fun b u q n _ _ => k b u (hb b n) q, fun b u q n _ _ => ⟨u.slots, k b u (hb b n) q⟩, fun b u q n _ => by rw [upd_ne (hx b n)]; exact n, fun b u q _ => ?_,
    fun b xs q => by rw [upd_ne (hm b _ q fun z => z)]; exact q, fun b u xs q => by rw [upd_ne (hm b _ q fun z => z)]; exact q, fun b ps q => ⟨#[], by rw [upd_ne (hm b _ q fun z => z), q]; simp⟩⟩
  by_cases hbe : b = e
  · subst hbe; exact heo
  · exact ⟨u, k b u hbe q⟩
end

/-! ### the heap without what is tracked -/
def trk (h : Heap) (H : Hp) : List Addr := (List.range h.objs.size).filter fun a => (H a).isSome
def hidT (h : Heap) (H : Hp) : Heap := PySem.W.hideAll h (trk h H)
theorem hidT_size (h : Heap) (H : Hp) : (hidT h H).objs.size = h.objs.size := PySem.W.hideAll_size _ _
theorem hidT_get {h : Heap} {H : Hp} {b : Addr} {o : Obj} (e : h.get? b = some o) (n : H b = none) : (hidT h H).get? b = some o :=
  PySem.W.hideAll_get _ e fun hm => by
    have q : (H b).isSome = true := (List.mem_filter.mp hm).2
    rw [n] at q; simp at q
theorem of_hidT {h : Heap} {H : Hp} {b : Addr} {o : Obj} (e : (hidT h H).get? b = some o) : h.get? b = some o ∧ H b = none := by
  have e' : h.get? b = some o := PySem.W.of_hideAll (trk h H) e
  refine ⟨e', ?_⟩
  cases q : H b with
  | none => rfl
  | some x =>
    have hm : b ∈ trk h H := List.mem_filter.mpr ⟨List.mem_range.mpr (Heap.lt_size e'), by simp [q]⟩
    have z : (hidT h H).get? b = none := PySem.W.hideAll_none (trk h H) hm
    rw [z] at e; cases e

/-! ### OpenK's ledger, filled with every new object but one -/
def allNews (g h : Heap) (L : Addr) : List (Addr × Obj) := (List.range h.objs.size).filterMap fun a => if a = L ∨ (g.get? a).isSome = true then none else (h.get? a).map fun o => (a, o)
def rest (g h : Heap) (L d : Addr) : List (Addr × Obj) := (allNews g h L).filter fun p => decide (p.1 ≠ d)
end L2

namespace L2
open PySem PySem.Spec PyProof.Rows

/-- the module's facts, over the base: the heap at the law's entry without what is tracked there -/
structure Mod (K : PySem.W.Frag) (mg : Str → Option Value) (base : Heap) : Prop where
  kin : K.In base
  glob : base.Ns mainGlobals mg
  blt : ∃ mb, base.Ns builtinsNs mb ∧ ∀ x : Str, x ≠ "__name__" → mb x = bootBuiltins x
  nolimit : base.NoLimit

/-- the context: a def's body (or a comprehension's block) running. base: fixed through the whole law; s₀, H₀: the entry; outer: the frames whose slots others may change (a def's callers); stack: all frames that run;
   ex: iterators that were made ahead of the entry and are walked here (a comprehension's); fn: the names whose cells were made at the entry (a def: all; a comprehension's block: its own); calm: not within an except suite; pn: pins that every state bears; xe: what is wanted of an exception that leaves the code -/
structure Cx where
  prog : Program
  w : World
  K : PySem.W.Frag
  mg : Str → Option Value
  base : Heap
  A : Around
  N : List Str
  s₀ : Shared
  H₀ : Hp
  env : Env
  outer : List Env
  stack : List Env
  ex : List Addr
  fn : Str → Bool
  calm : Bool
  pn : List (Addr × Obj)
  xe : Value → Shared → Prop
/-- the callers' frames -/
def frs (l : List Env) : List Addr := l.filterMap (·.frame)
abbrev Cx.fs (X : Cx) : List Addr := frs X.outer

def Vis (sc : Scope) (x : Str) : Prop := sc.names.lookup x = some .local ∨ sc.names.lookup x = some .cell ∨ sc.names.lookup x = some .free
def Loc (sc : Scope) (x : Str) : Prop := sc.names.lookup x = some .local ∨ sc.names.lookup x = some .cell
def Look (env : Env) (h : Heap) (m : Str → Option Value) (x : Str) (u : Value) : Prop :=
  (env.kindOf x = some .local ∧ m x = some u) ∨ ((env.kindOf x = some .cell ∨ env.kindOf x = some .free) ∧ ∃ c, env.cells.lookup x = some c ∧ h.IsCell c (some u))

structure Cx.Ok (X : Cx) : Prop where
  mod : Mod X.K X.mg X.base
  kind : X.env.scope.kind = .function
  glob : X.env.globals = mainGlobals
  blt : X.env.builtins = builtinsNs
  above : X.s₀.heap.objs.size ≤ X.env.locals
  inj : ∀ x y c, X.env.cells.lookup x = some c → X.env.cells.lookup y = some c → x = y
  has : ∀ x, (X.env.kindOf x = some .cell ∨ X.env.kindOf x = some .free) → ∃ c, X.env.cells.lookup x = some c
  cab : ∀ x c, X.fn x = true → X.env.cells.lookup x = some c → X.s₀.heap.objs.size ≤ c
  hd : X.calm = true → X.A.handled = none
  frames : X.A.frames = some X.stack
  stk : X.stack = X.outer ∨ (X.stack = X.env :: X.outer ∧ X.env.frame = some X.env.locals)
  exf : ∀ b ∈ X.ex, b ≠ X.env.locals ∧ ∀ x c, X.env.cells.lookup x = some c → c ≠ b
  bs : ∀ b o, X.base.get? b = some o → X.s₀.heap.get? b = some o ∧ X.H₀ b = none
  bsz : X.base.objs.size ≤ X.s₀.heap.objs.size
  noex : ∀ b o, X.base.get? b = some o → b ∉ X.ex
  exfs : ∀ b ∈ X.ex, b ∉ X.fs
  funs : X.s₀.heap.FunFrames X.base X.outer
  frf : ∀ b ∈ X.fs, X.H₀ b = none

structure Inv (X : Cx) (pins : List (Addr × Obj)) (σ : List (Option V)) (H : Hp) (s : Shared) : Prop where
  ok : X.Ok
  os : s.os = X.s₀.os
  bare : AllBare s.gens
  base : Un X.fs X.ex X.H₀ H X.s₀.heap s.heap
  loc : ∃ m, s.heap.Ns X.env.locals m ∧ ∀ (i : Nat) (x : Str) (v : V), X.N[i]? = some x → σ[i]? = some (some v) → Vis X.env.scope x → ∃ u, RelV v u ∧ Look X.env s.heap m x u
  cell : ∀ x c, X.env.cells.lookup x = some c → ∃ v, s.heap.IsCell c v
  free : H X.env.locals = none
  freeC : ∀ x c, X.env.cells.lookup x = some c → H c = none
  pin : ∀ p ∈ X.pn ++ pins, s.heap.get? p.1 = some p.2 ∧ H p.1 = none ∧ p.1 ≠ X.env.locals ∧ p.1 ∉ X.fs ∧ ∀ v, p.2.data ≠ .cell v
  hok : HOk X.prog X.w H s.heap
  len : σ.length = X.N.length

section
variable {X : Cx} {pins : List (Addr × Obj)} {σ : List (Option V)} {H H' : Hp} {s : Shared} {h' : Heap}

theorem Cx.Ok.nofr (ok : X.Ok) {b : Addr} {o : Obj} (e : X.base.get? b = some o) : b ∉ X.fs := fun hb => by
  have := (ok.funs.mem hb).1
  rw [e] at this; cases this
theorem Inv.bs (I : Inv X pins σ H s) : ∀ b o, X.base.get? b = some o → s.heap.get? b = some o ∧ H b = none := fun b o e =>
  ⟨I.base.keep b o (I.ok.bs b o e).1 (I.ok.bs b o e).2 (I.ok.nofr e) (I.ok.noex b o e), I.base.free b o (I.ok.bs b o e).1 (I.ok.bs b o e).2 (I.ok.noex b o e)⟩
theorem Inv.bk (I : Inv X pins σ H s) : ∀ b o, X.base.get? b = some o → s.heap.get? b = some o := fun b o e => (I.bs b o e).1
theorem Inv.mod (I : Inv X pins σ H s) : Mod X.K X.mg X.base := I.ok.mod
theorem Inv.kIn (I : Inv X pins σ H s) : X.K.In s.heap := I.ok.mod.kin.keeps I.bk
/-- the frame over the base: for OpenK's rules (K.In X.base is I.mod.kin) -/
theorem Inv.fr (I : Inv X pins σ H s) : ∃ m, Fr X.base X.env.locals s.heap m :=
  let ⟨m, hn, _⟩ := I.loc
  ⟨m, hn, I.bk, Nat.le_trans I.ok.bsz I.ok.above⟩
theorem Inv.lt (I : Inv X pins σ H s) : X.env.locals < s.heap.objs.size := let ⟨_, hn, _⟩ := I.loc; hn.lt
theorem Inv.sz (I : Inv X pins σ H s) : X.s₀.heap.objs.size ≤ s.heap.objs.size := Nat.le_trans I.ok.above (Nat.le_of_lt I.lt)
theorem Inv.nofs (I : Inv X pins σ H s) {a : Addr} (h : s.heap.objs.size ≤ a) : a ∉ X.fs := fun hb => by
  obtain ⟨_, o, ho, _⟩ := I.ok.funs.mem hb
  exact absurd (Nat.lt_of_lt_of_le (Heap.lt_size ho) (Nat.le_trans I.sz h)) (Nat.lt_irrefl _)
theorem Inv.cne (I : Inv X pins σ H s) : ∀ x c, X.env.cells.lookup x = some c → c ≠ X.env.locals := fun x c e z => by
  obtain ⟨v, o, ho, hd⟩ := I.cell x c e
  obtain ⟨m, ⟨o', es, ep, ho', hd', _⟩, _⟩ := I.loc
  rw [z, ho'] at ho; cases ho; rw [hd'] at hd; cases hd
theorem Inv.funs (I : Inv X pins σ H s) : s.heap.FunFrames X.base X.outer := by
  have all : ∀ (l : List Env), (∀ b ∈ frs l, b ∈ X.fs) → X.s₀.heap.FunFrames X.base l → s.heap.FunFrames X.base l := by
    intro l
    induction l with
    | nil => intro _ _; trivial
    | cons env r ih =>
      intro hs hl
      obtain ⟨hk, ⟨L, o, hf, hn, ho, hd⟩, hr⟩ := hl
      have hL : L ∈ X.fs := hs L (by unfold frs; rw [List.filterMap_cons, hf]; exact List.mem_cons_self)
      obtain ⟨sl, e⟩ := I.base.slot L o ho (I.ok.frf L hL) hL fun z => I.ok.exfs L z hL
      exact ⟨hk, ⟨L, _, hf, hn, e, hd⟩, ih (fun b hb => hs b (by unfold frs; rw [List.filterMap_cons, hf]; exact List.mem_cons_of_mem _ hb)) hr⟩
  exact all X.outer (fun _ hb => hb) I.ok.funs

/-- the frames that run, for a call -/
theorem Inv.stack (I : Inv X pins σ H s) : s.heap.FunFrames X.base X.stack := by
  rcases I.ok.stk with e | ⟨e, hf⟩
  · rw [e]; exact I.funs
  · rw [e]
    obtain ⟨m, hn, _⟩ := I.loc
    refine .cons (by rw [I.ok.kind]; decide) hf hn ?_ I.funs
    exact Heap.get?_none_of_le (Nat.le_trans I.ok.bsz I.ok.above)
theorem Inv.stkSub (I : Inv X pins σ H s) : ∀ b ∈ frs X.stack, b ∈ X.env.locals :: X.fs := fun b hb => by
  rcases I.ok.stk with e | ⟨e, hf⟩
  · rw [e] at hb; exact List.mem_cons_of_mem _ hb
  · rw [e] at hb
    unfold frs at hb
    rw [List.filterMap_cons, hf] at hb
    exact hb
theorem Inv.stkFree (I : Inv X pins σ H s) : ∀ b ∈ frs X.stack, H b = none := fun b hb => by
  rcases List.mem_cons.mp (I.stkSub b hb) with e | hb
  · rw [e]; exact I.free
  · obtain ⟨_, o, ho, _⟩ := I.ok.funs.mem hb
    exact I.base.free b o ho (I.ok.frf b hb) fun z => I.ok.exfs b z hb

/-- THE STEP: the untracked objects but the frame and the records at ch are kept (the callers' frames up to slots), the frame's map is kept, the new abstract heap is held -/
theorem Inv.step {g' : Array GenState} {t' : Nat} {d' : Drawn} {ch : List Addr} (I : Inv X pins σ H s)
    (hch : ∀ b ∈ ch, (b ∈ X.ex ∨ X.s₀.heap.objs.size ≤ b) ∧ b ≠ X.env.locals ∧ (∀ x c, X.env.cells.lookup x = some c → c ≠ b) ∧ ∀ p ∈ X.pn ++ pins, p.1 ≠ b)
    (keep : ∀ b o, b ≠ X.env.locals → b ∉ X.fs → b ∉ ch → s.heap.get? b = some o → H b = none → h'.get? b = some o)
    (slot : ∀ b o, b ≠ X.env.locals → b ∈ X.fs → b ∉ ch → s.heap.get? b = some o → H b = none → ∃ sl, h'.get? b = some { o with slots := sl }) (free : ∀ b o, b ∉ ch → s.heap.get? b = some o → H b = none → H' b = none)
    (there : ∀ b o, b ∉ ch → s.heap.get? b = some o → ∃ o', h'.get? b = some o')
    (tups : ∀ b xs, H b = some (.tup xs) → H' b = some (.tup xs)) (frzs : ∀ b o u, H b = some (.frz o u) → H' b = some (.frz o u)) (tbls : ∀ b ps, H b = some (.tbl ps) → ∃ more, H' b = some (.tbl (ps ++ more)))
    (ns : ∀ m, s.heap.Ns X.env.locals m → h'.Ns X.env.locals m) (hok : HOk X.prog X.w H' h') (hg : AllBare g') :
    Inv X pins σ H' { s with heap := h', gens := g', drawn := d', toks := t' } := by
  have neL : ∀ b o, X.s₀.heap.get? b = some o → b ≠ X.env.locals := fun b o e => Nat.ne_of_lt (Nat.lt_of_lt_of_le (Heap.lt_size e) I.ok.above)
  have neC : ∀ b o, X.s₀.heap.get? b = some o → b ∉ X.ex → b ∉ ch := fun b o e hx hb => by
    rcases (hch b hb).1 with z | z
    · exact hx z
    · exact absurd (Nat.lt_of_lt_of_le (Heap.lt_size e) z) (Nat.lt_irrefl _)
  have cellK : ∀ x c, X.env.cells.lookup x = some c → ∀ v, s.heap.IsCell c v → h'.IsCell c v := fun x c e v ⟨o, ho, hd⟩ => by
    have nch : c ∉ ch := fun z => (hch c z).2.2.1 x c e rfl
    by_cases hc : c ∈ X.fs
    · obtain ⟨sl, q⟩ := slot c o (I.cne x c e) hc nch ho (I.freeC x c e)
      exact ⟨_, q, hd⟩
    · exact ⟨o, keep c o (I.cne x c e) hc nch ho (I.freeC x c e), hd⟩
  refine ⟨I.ok, I.os, hg, ⟨fun b o e n hb hx => ?_, fun b o e n hb hx => ?_, fun b o e n hx => ?_, fun b o e hx => ?_, fun b xs e => tups b xs (I.base.tups b xs e), fun b o xs e => frzs b o xs (I.base.frzs b o xs e), fun b ps e => ?_⟩, ?_, fun x c e => ?_, ?_, fun x c e => ?_, fun p hp => ?_, hok, I.len⟩
  · exact keep b o (neL b o e) hb (neC b o e hx) (I.base.keep b o e n hb hx) (I.base.free b o e n hx)
  · obtain ⟨sl, e1⟩ := I.base.slot b o e n hb hx
    obtain ⟨sl', e2⟩ := slot b _ (neL b o e) hb (neC b o e hx) e1 (I.base.free b o e n hx)
    exact ⟨sl', e2⟩
  · obtain ⟨o', e1⟩ := I.base.there b o e hx
    exact free b o' (neC b o e hx) e1 (I.base.free b o e n hx)
  · obtain ⟨o', e1⟩ := I.base.there b o e hx
    exact there b o' (neC b o e hx) e1
  · obtain ⟨m1, e1⟩ := I.base.tbls b ps e
    obtain ⟨m2, e2⟩ := tbls b _ e1
    exact ⟨m1 ++ m2, by rw [e2, Array.append_assoc]⟩
  · obtain ⟨m, hn, hl⟩ := I.loc
    refine ⟨m, ns m hn, fun i x v e1 e2 e3 => ?_⟩
    obtain ⟨u, r, l⟩ := hl i x v e1 e2 e3
    refine ⟨u, r, ?_⟩
    rcases l with l | ⟨k, c, e, z⟩
    · exact .inl l
    · exact .inr ⟨k, c, e, cellK x c e _ z⟩
  · obtain ⟨v, z⟩ := I.cell x c e
    exact ⟨v, cellK x c e v z⟩
  · obtain ⟨m, ⟨o, _, _, ho, _⟩, _⟩ := I.loc
    exact free _ o (fun z => (hch _ z).2.1 rfl) ho I.free
  · obtain ⟨v, o, ho, hd⟩ := I.cell x c e
    exact free c o (fun z => (hch c z).2.2.1 x c e rfl) ho (I.freeC x c e)
  · obtain ⟨e, n, ne, nf, d⟩ := I.pin p hp
    have nch : p.1 ∉ ch := fun z => (hch p.1 z).2.2.2 p hp rfl
    exact ⟨keep p.1 p.2 ne nf nch e n, free p.1 p.2 nch e n, ne, nf, d⟩
/-- .. where the frame's own object is kept too -/
theorem Inv.un {t' : Nat} (I : Inv X pins σ H s) (u : Un X.fs [] H H' s.heap h') (hok : HOk X.prog X.w H' h') : Inv X pins σ H' { s with heap := h', toks := t' } := by
  obtain ⟨m, ⟨o, es, ep, ho, r⟩, _⟩ := id I.loc
  obtain ⟨sl, hL⟩ := u.any ho I.free (by simp)
  exact I.step (g' := s.gens) (d' := s.drawn) (ch := []) (fun _ z => nomatch z) (fun b o _ hb _ e n => u.keep b o e n hb (by simp)) (fun b o _ hb _ e n => u.slot b o e n hb (by simp)) (fun b o _ e n => u.free b o e n (by simp)) (fun b o _ e => u.there b o e (by simp)) u.tups u.frzs u.tbls (fun m' hm => by
    obtain ⟨o', es', ep', ho', r'⟩ := hm
    rw [ho] at ho'; cases ho'
    exact ⟨_, es', ep', hL, r'⟩) hok I.bare
/-- behind a call (or a comprehension's block): the slots of this frame may have changed too, the records at ch may have turned -/
theorem Inv.call {g' : Array GenState} {t' : Nat} {d' : Drawn} {ch : List Addr} (I : Inv X pins σ H s) (u : Un (frs X.stack) ch H H' s.heap h') (hok : HOk X.prog X.w H' h') (hg : AllBare g')
    (hch : ∀ b ∈ ch, (b ∈ X.ex ∨ X.s₀.heap.objs.size ≤ b) ∧ b ≠ X.env.locals ∧ (∀ x c, X.env.cells.lookup x = some c → c ≠ b) ∧ ∀ p ∈ X.pn ++ pins, p.1 ≠ b) :
    Inv X pins σ H' { s with heap := h', gens := g', drawn := d', toks := t' } := by
  obtain ⟨m, ⟨o, es, ep, ho, r⟩, _⟩ := id I.loc
  obtain ⟨sl, hL⟩ := u.any ho I.free fun z => (hch _ z).2.1 rfl
  exact I.step (ch := ch) hch (fun b o hL hb hc e n => u.keep b o e n (fun z => (List.mem_cons.mp (I.stkSub b z)).elim hL hb) hc) (fun b o _ _ hc e n => u.any e n hc) (fun b o hc e n => u.free b o e n hc) (fun b o hc e => u.there b o e hc) u.tups u.frzs u.tbls (fun m' hm => by
    obtain ⟨o', es', ep', ho', r'⟩ := hm
    rw [ho] at ho'; cases ho'
    exact ⟨_, es', ep', hL, r'⟩) hok hg
/-- an untracked record of ours (an iterator) has turned -/
theorem Inv.turned {t' : Nat} {it : Addr} (I : Inv X pins σ H s) (k : ∀ b o, b ≠ it → s.heap.get? b = some o → h'.get? b = some o) (hn : H it = none) (hL : it ≠ X.env.locals)
    (h1 : it ∈ X.ex ∨ X.s₀.heap.objs.size ≤ it) (h2 : ∀ x c, X.env.cells.lookup x = some c → c ≠ it) (h3 : ∀ p ∈ X.pn ++ pins, p.1 ≠ it) : Inv X pins σ H { s with heap := h', toks := t' } := by
  have nit : ∀ b u, H b = some u → b ≠ it := fun b u e z => by rw [z, hn] at e; cases e
  refine I.step (g' := s.gens) (d' := s.drawn) (ch := [it]) (fun b hb => ?_) (fun b o _ _ hc e _ => k b o (fun z => hc (by simp [z])) e) (fun b o _ _ hc e _ => ⟨o.slots, k b o (fun z => hc (by simp [z])) e⟩) (fun _ _ _ _ n => n)
    (fun b o hc e => ⟨o, k b o (fun z => hc (by simp [z])) e⟩) (fun _ _ e => e) (fun _ _ _ e => e) (fun b ps e => ⟨#[], by rw [e]; simp⟩) (fun m hm => ?_) (fun b u e => ?_) I.bare
  · have e : b = it := by simpa using hb
    subst e
    exact ⟨h1, hL, h2, h3⟩
  · obtain ⟨o, es, ep, ho, r⟩ := hm
    exact ⟨o, es, ep, k _ o (Ne.symm hL) ho, r⟩
  · refine (I.hok b u e).stay (fun c v hc q => k c v ?_ q) (fun _ q => q) fun _ _ q => q
    rcases hc with z | z
    · rw [z]; exact nit b u e
    · exact nit c _ z
theorem Inv.tok (I : Inv X pins σ H s) (t : Nat) : Inv X pins σ H { s with toks := t } := I.un (h' := s.heap) (t' := t) Un.refl I.hok
/-- all objects kept -/
theorem Inv.kept {t' : Nat} (I : Inv X pins σ H s) (k : ∀ b u, s.heap.get? b = some u → h'.get? b = some u) : Inv X pins σ H { s with heap := h', toks := t' } := I.un (Un.kept k) (I.hok.kept k)
/-- a new object laid and tracked -/
theorem Inv.laid {a : Addr} {o : HO} {t' : Nat} (I : Inv X pins σ H s) (k : ∀ b u, s.heap.get? b = some u → h'.get? b = some u) (hp : s.heap.objs.size ≤ a) (new : ObjOk X.prog X.w (upd H a o) h' a o) :
    Inv X pins σ (upd H a o) { s with heap := h', toks := t' } := I.un (Un.laid k hp (I.hok.fresh hp)) (I.hok.laid k hp new)
/-- an object written -/
theorem Inv.write {x e : Addr} {o : HO} {t' : Nat} (I : Inv X pins σ H s) (mu : Mut (H x)) (he : e = x ∨ H e = some (.own x)) (k : ∀ b u, b ≠ e → s.heap.get? b = some u → h'.get? b = some u) (heo : ∃ u, h'.get? e = some u)
    (new : ObjOk X.prog X.w (upd H x o) h' x o) : Inv X pins σ (upd H x o) { s with heap := h', toks := t' } := I.un (Un.write mu he k heo) (I.hok.write mu he k heo new)
theorem Inv.pins_of {pins' : List (Addr × Obj)} (I : Inv X pins σ H s) (h : ∀ p ∈ pins', s.heap.get? p.1 = some p.2 ∧ H p.1 = none ∧ p.1 ≠ X.env.locals ∧ p.1 ∉ X.fs ∧ ∀ v, p.2.data ≠ .cell v) : Inv X pins' σ H s :=
  ⟨I.ok, I.os, I.bare, I.base, I.loc, I.cell, I.free, I.freeC, fun p hp => (List.mem_append.mp hp).elim (fun z => I.pin p (List.mem_append_left _ z)) (h p), I.hok, I.len⟩

theorem nodup_ix {N : List Str} (hN : N.Nodup) {i j : Nat} {x : Str} (a : N[i]? = some x) (b : N[j]? = some x) : i = j := by
  obtain ⟨h1, e1⟩ := List.getElem?_eq_some_iff.mp a
  obtain ⟨h2, e2⟩ := List.getElem?_eq_some_iff.mp b
  exact (List.getElem_inj hN).mp (e1.trans e2.symm)

/-- a name is stored; what changed -/
theorem store_ok2 {M : Model} {A : Around} {E : Value → Shared → Prop} {i : Nat} {x : Str} {v : V} {u : Value} {Q : Unit → Shared → Prop} (I : Inv X pins σ H s) (hN : X.N.Nodup) (hi : X.N[i]? = some x) (hx : Loc X.env.scope x) (r : RelV v u)
    (h : ∀ s', Inv X pins (σ.set i (some v)) H s' → (∃ a, Heap.SameBut a s.heap s'.heap ∧ (a = X.env.locals ∨ X.env.cells.lookup x = some a)) → Q () s') (hf : X.fn x = true ∨ X.env.scope.names.lookup x = some .local := by first | exact .inl rfl | exact .inr rfl | assumption) : wpAny M A (storeName X.env x u) Q E s := by
  obtain ⟨m, hn, hl⟩ := id I.loc
  have hcls : (X.env.scope.kind == .class || (X.env.scope.kind == .module && X.env.locals != X.env.globals)) = false := by rw [I.ok.kind]; rfl
  have hiσ : i < σ.length := by rw [I.len]; exact (List.getElem?_eq_some_iff.mp hi).1
  have cne := I.cne
  have tracked : ∀ {a : Addr} {h' : Heap}, (∃ o, s.heap.get? a = some o ∧ H a = none) → Heap.SameBut a s.heap h' → HOk X.prog X.w H h' := fun {a h'} ha hs b ob e => by
    obtain ⟨_, _, hfree⟩ := ha
    refine (I.hok b ob e).stay (fun c w' hc q => (hs.2 c ?_).trans q) (fun _ q => q) fun _ _ q => q
    rintro rfl
    rcases hc with rfl | hc
    · rw [hfree] at e; cases e
    · rw [hfree] at hc; cases hc
  rcases hx with hk | hk
  · refine wpAny_storeName_local hk hn (fun h' hn' hs => ?_) hcls
    obtain ⟨oL, _, _, hoL, _⟩ := id hn
    refine h _ ⟨I.ok, I.os, I.bare, ⟨fun b o e n hb hx => ?_, fun b o e n hb hx => ?_, I.base.free, fun b o e hx => ?_, I.base.tups, I.base.frzs, I.base.tbls⟩, ⟨_, hn', fun j y v' e1 e2 e3 => ?_⟩, fun y c e => ?_, I.free, I.freeC, fun p hp => ?_, tracked ⟨oL, hoL, I.free⟩ hs, by simpa using I.len⟩ ⟨_, hs, .inl rfl⟩
    · exact (hs.2 b (Nat.ne_of_lt (Nat.lt_of_lt_of_le (Heap.lt_size e) I.ok.above))).trans (I.base.keep b o e n hb hx)
    · obtain ⟨sl, e1⟩ := I.base.slot b o e n hb hx
      exact ⟨sl, (hs.2 b (Nat.ne_of_lt (Nat.lt_of_lt_of_le (Heap.lt_size e) I.ok.above))).trans e1⟩
    · obtain ⟨o', e1⟩ := I.base.there b o e hx
      exact ⟨o', (hs.2 b (Nat.ne_of_lt (Nat.lt_of_lt_of_le (Heap.lt_size e) I.ok.above))).trans e1⟩
    · by_cases hj : j = i
      · subst hj
        rw [hi] at e1; cases e1
        rw [List.getElem?_set_self hiσ] at e2
        cases e2
        exact ⟨u, r, .inl ⟨hk, by simp⟩⟩
      · rw [List.getElem?_set_ne (Ne.symm hj)] at e2
        obtain ⟨u', r', q⟩ := hl j y v' e1 e2 e3
        refine ⟨u', r', ?_⟩
        rcases q with ⟨k, e⟩ | ⟨k, c, e, z⟩
        · refine .inl ⟨k, ?_⟩
          have : y ≠ x := fun e => hj (nodup_ix hN e1 (e ▸ hi))
          simp [this, e]
        · exact .inr ⟨k, c, e, z.sameBut hs (cne y c e)⟩
    · obtain ⟨w', z⟩ := I.cell y c e
      exact ⟨w', z.sameBut hs (cne y c e)⟩
    · obtain ⟨e, n, ne, nf, d⟩ := I.pin p hp
      exact ⟨(hs.2 p.1 ne).trans e, n, ne, nf, d⟩
  · have hfn : X.fn x = true := by
      rcases hf with z | z
      · exact z
      · rw [z] at hk; cases hk
    obtain ⟨c, hc⟩ := I.ok.has x (.inl hk)
    obtain ⟨w', z⟩ := I.cell x c hc
    refine wpAny_storeName_cell I.ok.kind hk hc z (fun h' hc' hs => ?_)
    obtain ⟨oc, hoc, hocd⟩ := id z
    refine h { s with heap := h' } ⟨I.ok, I.os, I.bare, ⟨fun b o e n hb hx => ?_, fun b o e n hb hx => ?_, I.base.free, fun b o e hx => ?_, I.base.tups, I.base.frzs, I.base.tbls⟩, ⟨m, hn.sameBut hs (Ne.symm (cne x c hc)), fun j y v' e1 e2 e3 => ?_⟩, fun y c' e => ?_, I.free, I.freeC, fun p hp => ?_, tracked ⟨oc, hoc, I.freeC x c hc⟩ hs, by simpa using I.len⟩ ⟨c, hs, .inr hc⟩
    · exact (hs.2 b (Nat.ne_of_lt (Nat.lt_of_lt_of_le (Heap.lt_size e) (I.ok.cab x c hfn hc)))).trans (I.base.keep b o e n hb hx)
    · obtain ⟨sl, e1⟩ := I.base.slot b o e n hb hx
      exact ⟨sl, (hs.2 b (Nat.ne_of_lt (Nat.lt_of_lt_of_le (Heap.lt_size e) (I.ok.cab x c hfn hc)))).trans e1⟩
    · obtain ⟨o', e1⟩ := I.base.there b o e hx
      exact ⟨o', (hs.2 b (Nat.ne_of_lt (Nat.lt_of_lt_of_le (Heap.lt_size e) (I.ok.cab x c hfn hc)))).trans e1⟩
    · by_cases hj : j = i
      · subst hj
        rw [hi] at e1; cases e1
        rw [List.getElem?_set_self hiσ] at e2
        cases e2
        exact ⟨u, r, .inr ⟨.inl hk, c, hc, hc'⟩⟩
      · rw [List.getElem?_set_ne (Ne.symm hj)] at e2
        obtain ⟨u', r', q⟩ := hl j y v' e1 e2 e3
        refine ⟨u', r', ?_⟩
        rcases q with q | ⟨k, c', e, z'⟩
        · exact .inl q
        · refine .inr ⟨k, c', e, z'.sameBut hs ?_⟩
          rintro rfl
          exact hj (nodup_ix hN e1 (I.ok.inj _ _ _ e hc ▸ hi))
    · by_cases hcc : c' = c
      · subst hcc; exact ⟨_, hc'⟩
      · obtain ⟨w2, z2⟩ := I.cell y c' e
        exact ⟨w2, z2.sameBut hs hcc⟩
    · obtain ⟨e, n, ne, nf, d⟩ := I.pin p hp
      refine ⟨(hs.2 p.1 ?_).trans e, n, ne, nf, d⟩
      intro q
      rw [q, hoc] at e
      have q' : oc = p.2 := Option.some.inj e
      exact d w' (by rw [← q']; exact hocd)
theorem store_ok {M : Model} {A : Around} {E : Value → Shared → Prop} {i : Nat} {x : Str} {v : V} {u : Value} {Q : Unit → Shared → Prop} (I : Inv X pins σ H s) (hN : X.N.Nodup) (hi : X.N[i]? = some x) (hx : Loc X.env.scope x) (r : RelV v u)
    (h : ∀ s', Inv X pins (σ.set i (some v)) H s' → Q () s') (hf : X.fn x = true ∨ X.env.scope.names.lookup x = some .local := by first | exact .inl rfl | exact .inr rfl | assumption) : wpAny M A (storeName X.env x u) Q E s :=
  store_ok2 I hN hi hx r (fun s' I' _ => h s' I') hf
/-- behind a call or a block, the state as it is -/
theorem Inv.call' {s' : Shared} {ch : List Addr} (I : Inv X pins σ H s) (ho : s'.os = s.os) (u : Un (frs X.stack) ch H H' s.heap s'.heap) (hok : HOk X.prog X.w H' s'.heap) (hg : AllBare s'.gens)
    (hch : ∀ b ∈ ch, (b ∈ X.ex ∨ X.s₀.heap.objs.size ≤ b) ∧ b ≠ X.env.locals ∧ (∀ x c, X.env.cells.lookup x = some c → c ≠ b) ∧ ∀ p ∈ X.pn ++ pins, p.1 ≠ b) : Inv X pins σ H' s' := by
  obtain ⟨h', g', d', t', o'⟩ := s'
  have e : o' = s.os := ho
  subst e
  exact I.call (g' := g') (t' := t') (d' := d') u hok hg hch
end

/-! ### the judgements -/
/-- an exception: its class, its own dict's address (where it has one), the abstract heap behind it -/
abbrev XK := Value → Option Addr → Hp → Prop
abbrev St := List (Option V)
abbrev VK := V → Hp → Prop
/-- an expression's reading; a test's; an argument list's -/
abbrev TE := St → Hp → VK → Prop
abbrev TT := St → Hp → (Bool → Hp → Prop) → Prop
abbrev TA := St → Hp → (List V → Hp → Prop) → Prop
/-- what is wanted behind a statement -/
structure Ends where
  nx : St → Hp → Prop
  rt : VK
  bk : St → Hp → Prop := fun _ _ => False
  ct : St → Hp → Prop := fun _ _ => False
abbrev TS := Ends → St → Hp → Prop

def EP (X : Cx) (pins : List (Addr × Obj)) (σ : St) (Q : VK) (u : Value) (s' : Shared) : Prop := ∃ v H', Inv X pins σ H' s' ∧ RelV v u ∧ Q v H'
def TP (X : Cx) (pins : List (Addr × Obj)) (σ : St) (Q : Bool → Hp → Prop) (b : Bool) (s' : Shared) : Prop := ∃ H', Inv X pins σ H' s' ∧ Q b H'
def AP (X : Cx) (pins : List (Addr × Obj)) (σ : St) (Q : List V → Hp → Prop) (us : List Value) (s' : Shared) : Prop := ∃ vs H', Inv X pins σ H' s' ∧ Vals vs us ∧ Q vs H'
def SP (X : Cx) (pins : List (Addr × Obj)) (D : Ends) (f : Flow) (s' : Shared) : Prop :=
  match f with
  | .next => ∃ σ' H', Inv X pins σ' H' s' ∧ D.nx σ' H'
  | .brk => ∃ σ' H', Inv X pins σ' H' s' ∧ D.bk σ' H'
  | .cont => ∃ σ' H', Inv X pins σ' H' s' ∧ D.ct σ' H'
  | .ret u => ∃ v σ' H', Inv X pins σ' H' s' ∧ RelV v u ∧ D.rt v H'

def PE (X : Cx) (e : Expr) (t : TE) : Prop :=
  ∀ (pins : List (Addr × Obj)) (s : Shared) (σ : St) (H : Hp) (Q : VK), Inv X pins σ H s → t σ H Q → wpAny (model X.prog X.w) X.A (eval e X.env) (EP X pins σ Q) X.xe s
def PT (X : Cx) (e : Expr) (t : TT) : Prop :=
  ∀ (pins : List (Addr × Obj)) (s : Shared) (σ : St) (H : Hp) (Q : Bool → Hp → Prop), Inv X pins σ H s → t σ H Q → wpAny (model X.prog X.w) X.A (isTrue e X.env (eval e X.env)) (TP X pins σ Q) X.xe s
/-- a test whatever its 'whole' is (and, or) -/
def PW (X : Cx) (e : Expr) (t : TT) : Prop :=
  ∀ (whole : Sem Value) (pins : List (Addr × Obj)) (s : Shared) (σ : St) (H : Hp) (Q : Bool → Hp → Prop), Inv X pins σ H s → t σ H Q → wpAny (model X.prog X.w) X.A (isTrue e X.env whole) (TP X pins σ Q) X.xe s
theorem PW.pt {X : Cx} {e : Expr} {t : TT} (h : PW X e t) : PT X e t := h _
/-- an argument list (no star), from the left -/
def PA (X : Cx) (es : List Expr) (t : TA) : Prop :=
  ∀ (pos : Pos) (pins : List (Addr × Obj)) (s : Shared) (σ : St) (H : Hp) (Q : List V → Hp → Prop), Inv X pins σ H s → t σ H Q → wpAny (model X.prog X.w) X.A (spliced (backTo pos (starEach es X.env))) (AP X pins σ Q) X.xe s
def PS (X : Cx) (st : Stmt) (t : TS) : Prop :=
  ∀ (pins : List (Addr × Obj)) (s : Shared) (σ : St) (H : Hp) (D : Ends), Inv X pins σ H s → t D σ H → wpAny (model X.prog X.w) X.A (exec st X.env) (SP X pins D) X.xe s
def PSs (X : Cx) (st : List Stmt) (t : TS) : Prop :=
  ∀ (pins : List (Addr × Obj)) (s : Shared) (σ : St) (H : Hp) (D : Ends), Inv X pins σ H s → t D σ H → wpAny (model X.prog X.w) X.A (execs st X.env) (SP X pins D) X.xe s
/-- weaken the end -/
theorem thn {α : Type} {t : Sem α} {Q Q' : α → Shared → Prop} {M : Model} {A : Around} {E : Value → Shared → Prop} {s : Shared} (h : wpAny M A t Q E s) (hQ : ∀ a s, Q a s → Q' a s) : wpAny M A t Q' E s := wpAny_mono h hQ fun _ _ x => x
end L2

namespace L2
open PySem PySem.Spec PyProof.Rows
section
variable {X : Cx}

/-- two expressions in a row -/
theorem bin {a b : Expr} {ta tb : TE} (ha : PE X a ta) (hb : PE X b tb) {pins : List (Addr × Obj)} {s : Shared} {σ : St} {H : Hp} {R : V → V → Hp → Prop} (I : Inv X pins σ H s) (h : ta σ H fun x H1 => tb σ H1 fun y H2 => R x y H2)
    {α : Type} {Q : α → Shared → Prop} {f : Value → Value → Sem α}
    (hf : ∀ v u s2 x y H2, Inv X pins σ H2 s2 → RelV x v → RelV y u → R x y H2 → wpAny (model X.prog X.w) X.A (f v u) Q X.xe s2) :
    wpAny (model X.prog X.w) X.A (eval a X.env) (fun v s₁ => wpAny (model X.prog X.w) X.A (eval b X.env) (fun u s₂ => wpAny (model X.prog X.w) X.A (f v u) Q X.xe s₂) X.xe s₁) X.xe s := by
  refine thn (ha pins s σ H _ I h) fun v s1 ⟨x, H1, I1, r1, q1⟩ => ?_
  refine thn (hb pins s1 σ H1 _ I1 q1) fun u s2 ⟨y, H2, I2, r2, q2⟩ => ?_
  exact hf v u s2 x y H2 I2 r1 r2 q2

/-! ### names and constants -/
inductive VarR (i : Nat) (σ : St) (H : Hp) (Q : VK) : Prop
  | mk (v : V) (h : σ[i]? = some (some v)) (k : Q v H) : VarR i σ H Q
def tVar (i : Nat) : TE := fun σ H Q => VarR i σ H Q
def tC (v : V) : TE := fun _ H Q => Q v H
theorem pe_var {i : Nat} {x : Str} {pos : Pos} (hN : X.N[i]? = some x) (hv : Vis X.env.scope x) (hd : (x == ("__debug__" : Str)) = false := by decide) (hcd : (x == ("__classdict__" : Str)) = false := by decide) : PE X (.Name x pos) (tVar i) := by
  intro pins s σ H Q I h
  obtain ⟨v, e, h⟩ := h
  obtain ⟨m, hn, hl⟩ := I.loc
  obtain ⟨u, r, l⟩ := hl i x v hN e hv
  have fin : EP X pins σ Q u s := ⟨v, H, I, r, h⟩
  rcases l with ⟨hk, hm⟩ | ⟨hk, c, hc, hcell⟩
  · exact wpAny_Name (wpAny_loadName_local I.ok.kind hk hn hm fin) hd
  · rcases hk with hk | hk
    · exact wpAny_Name (wpAny_loadName_cell I.ok.kind hk hc hcell fin) hd
    · exact wpAny_Name (wpAny_loadName_free I.ok.kind hk hc hcell fin hcd) hd
theorem pe_int {i j pos} : PE X (.Constant (.int i) j pos) (tC (.int i)) := fun _ _ _ H _ I h => wpAny_Constant_int ⟨.int i, H, I.tok _, ⟨_, rfl⟩, h⟩
theorem pe_bl {b j pos} : PE X (.Constant (.bool b) j pos) (tC (.bl b)) := fun _ _ _ H _ I h => Constant_bool ⟨.bl b, H, I, rfl, h⟩
theorem pe_non {j pos} : PE X (.Constant .none j pos) (tC .non) := fun _ _ _ H _ I h => Constant_none ⟨.non, H, I, rfl, h⟩
theorem pe_str {x j pos} : PE X (.Constant (.str x) j pos) (tC (.str x)) := fun _ _ _ H _ I h => Calls.Constant_str ⟨.str x, H, I.tok _, ⟨_, rfl⟩, h⟩

/-- a global name of the def -/
def Gl (X : Cx) (x : Str) : Prop := X.env.kindOf x = some .globalImplicit
theorem ld_glob {E : Value → Shared → Prop} {pins : List (Addr × Obj)} {s : Shared} {σ : St} {H : Hp} {x : Str} {u : Value} {pos : Pos} {Q : Value → Shared → Prop} (I : Inv X pins σ H s) (hg : Gl X x) (hm : X.mg x = some u) (h : Q u s)
    (hd : (x == ("__debug__" : Str)) = false := by decide) : wpAny (model X.prog X.w) X.A (eval (.Name x pos) X.env) Q E s :=
  Calls.Name_function_global I.ok.kind hg (Calls.loadGlobal_global (by rw [I.ok.glob]; exact I.mod.glob.keeps I.bk) hm h) hd
theorem ld_blt {E : Value → Shared → Prop} {pins : List (Addr × Obj)} {s : Shared} {σ : St} {H : Hp} {x : Str} {u : Value} {pos : Pos} {Q : Value → Shared → Prop} (I : Inv X pins σ H s) (hg : Gl X x) (hm : X.mg x = none) (hv : bootBuiltins x = some u) (h : Q u s)
    (hn : x ≠ "__name__" := by decide) (hd : (x == ("__debug__" : Str)) = false := by decide) : wpAny (model X.prog X.w) X.A (eval (.Name x pos) X.env) Q E s := by
  obtain ⟨mb, h1, h2⟩ := I.mod.blt
  exact Calls.Name_function_global I.ok.kind hg (Calls.loadGlobal_builtin (by rw [I.ok.glob]; exact I.mod.glob.keeps I.bk) hm (by rw [I.ok.blt]; exact h1.keeps I.bk) ((h2 x hn).trans hv) h) hd
/-- a module's constant, a class, a function, as a value -/
theorem pe_glob {x : Str} {v : V} {u : Value} {pos : Pos} (hg : Gl X x) (hm : X.mg x = some u) (r : RelV v u) (hd : (x == ("__debug__" : Str)) = false := by decide) : PE X (.Name x pos) (tC v) :=
  fun _ _ _ H _ I h => ld_glob I hg hm ⟨v, H, I, r, h⟩ hd
theorem pe_bltn {x : Str} {v : V} {u : Value} {pos : Pos} (hg : Gl X x) (hm : X.mg x = none) (hv : bootBuiltins x = some u) (r : RelV v u) (hn : x ≠ "__name__" := by decide) (hd : (x == ("__debug__" : Str)) = false := by decide) : PE X (.Name x pos) (tC v) :=
  fun _ _ _ H _ I h => ld_blt I hg hm hv ⟨v, H, I, r, h⟩ hn hd

/-! ### arithmetic -/
variable {a b : Expr} {ta tb : TE} {pos : Pos}
/-! ### comparisons -/
def PC (X : Cx) (op : CmpOp) (a b : Expr) (t : TE) : Prop :=
  ∀ (pins : List (Addr × Obj)) (s : Shared) (σ : St) (H : Hp) (Q : VK), Inv X pins σ H s → t σ H Q →
    wpAny (model X.prog X.w) X.A (eval a X.env) (fun v s₁ => wpAny (model X.prog X.w) X.A (eval b X.env) (fun u s₂ => wpAny (model X.prog X.w) X.A (compareOp op v u) (EP X pins σ Q) X.xe s₂) X.xe s₁) X.xe s
theorem nobehind (b : Expr) {op : CmpOp} (h : op ≠ .In) (h2 : op ≠ .NotIn) : behindInMarks op b = false := by
  have e1 : (op == CmpOp.In) = false := by cases op <;> first | rfl | exact absurd rfl h
  have e2 : (op == CmpOp.NotIn) = false := by cases op <;> first | rfl | exact absurd rfl h2
  cases b <;> simp [behindInMarks, e1, e2]
/-- a comparison as a value, as a test -/
inductive BoolR (x : V) (H : Hp) (Q : Bool → Hp → Prop) : Prop
  | mk (c : Bool) (h : x = .bl c) (k : Q c H) : BoolR x H Q
def tB (t : TE) : TT := fun σ H Q => t σ H fun x H1 => BoolR x H1 Q
theorem pt_cmp {op : CmpOp} {t : TE} (h : PC X op a b t) (h1 : behindInMarks op b = false := by first | exact nobehind _ (by decide) (by decide) | rfl) : PT X (.Compare a [op] [b] pos) (tB t) := by
  intro pins s σ H Q I hw
  refine wpAny_isTrue_Compare1 (thn (h pins s σ H _ I hw) fun v s1 h1 => thn h1 fun u s2 h2 => thn h2 fun c s3 ⟨x, H1, I1, r1, q1⟩ => ?_) h1
  obtain ⟨d, rfl, q⟩ := q1
  cases r1
  exact wpAny_truthy_bool ⟨H1, I1, q⟩
/-- an expression whose value is a bool, as a test -/
theorem pt_val {e : Expr} {t : TE} (h : PE X e t) (he : ∀ whole, isTrue e X.env whole = (do let v ← whole; standAt e.pos; holding [v] (truthy v)) := by intro _; rfl) : PT X e (tB t) := by
  intro pins s σ H Q I hw
  refine isTrue_plain (thn (h pins s σ H _ I hw) fun v s1 ⟨x, H1, I1, r1, q1⟩ => ?_) (he _)
  obtain ⟨d, rfl, q⟩ := q1
  cases r1
  exact wpAny_truthy_bool ⟨H1, I1, q⟩

/-! ### and, or, not -/
variable {tA tB' : TT} {rest : List Expr}
def tAnd (t u : TT) : TT := fun σ H Q => t σ H fun c H1 => if c = true then u σ H1 Q else Q false H1
def tOr (t u : TT) : TT := fun σ H Q => t σ H fun c H1 => if c = true then Q true H1 else u σ H1 Q
def tNot (t : TT) : TT := fun σ H Q => t σ H fun c H1 => Q (!c) H1
theorem pw_and1 (ha : PT X a tA) : PW X (.BoolOp .And [a] pos) tA := by
  intro wh pins s σ H Q I h
  refine isTrue_and (thn (ha pins s σ H Q I h) fun c s1 e => ?_)
  cases c with
  | true => exact isTrue_and_nil e
  | false => exact e
theorem pw_or1 (ha : PT X a tA) : PW X (.BoolOp .Or [a] pos) tA := by
  intro wh pins s σ H Q I h
  refine isTrue_or (thn (ha pins s σ H Q I h) fun c s1 e => ?_)
  cases c with
  | false => exact isTrue_or_nil e
  | true => exact e
theorem pw_and (ha : PT X a tA) (hb : PW X (.BoolOp .And (b :: rest) pos) tB') : PW X (.BoolOp .And (a :: b :: rest) pos) (tAnd tA tB') := by
  intro wh pins s σ H Q I h
  refine isTrue_and (thn (ha pins s σ H _ I h) fun c s1 ⟨H1, I1, q1⟩ => ?_)
  cases c with
  | true => exact hb wh pins s1 σ H1 Q I1 q1
  | false => exact ⟨H1, I1, q1⟩
theorem pw_or (ha : PT X a tA) (hb : PW X (.BoolOp .Or (b :: rest) pos) tB') : PW X (.BoolOp .Or (a :: b :: rest) pos) (tOr tA tB') := by
  intro wh pins s σ H Q I h
  refine isTrue_or (thn (ha pins s σ H _ I h) fun c s1 ⟨H1, I1, q1⟩ => ?_)
  cases c with
  | true => exact ⟨H1, I1, q1⟩
  | false => exact hb wh pins s1 σ H1 Q I1 q1
theorem pt_not (ha : PT X a tA) : PT X (.UnaryOp .Not a pos) (tNot tA) := by
  intro pins s σ H Q I h
  exact isTrue_not (ha pins s σ H (fun c H1 => Q (!c) H1) I h)
/-- .. as values (bools) -/
def tAndV (ta tb : TE) : TE := fun σ H Q => ta σ H fun x H1 => ∃ c, x = .bl c ∧ if c = true then tb σ H1 Q else Q (.bl false) H1
def tNotV (ta : TE) : TE := fun σ H Q => ta σ H fun x H1 => ∃ c, x = .bl c ∧ Q (.bl (!c)) H1
theorem pe_one {op} {t : TE} (h : PE X a t) : PE X (.BoolOp op [a] pos) t := fun pins s σ H Q I hw => BoolOp_one (h pins s σ H Q I hw)
theorem pe_and (ha : PE X a ta) (hb : PE X (.BoolOp .And (b :: rest) pos) tb) : PE X (.BoolOp .And (a :: b :: rest) pos) (tAndV ta tb) := by
  intro pins s σ H Q I h
  refine BoolOp_and (thn (ha pins s σ H _ I h) fun v s1 ⟨x, H1, I1, r1, q1⟩ => ?_)
  obtain ⟨c, rfl, q1⟩ := q1
  cases r1
  refine wpAny_truthy_bool ?_
  cases c with
  | true => exact hb pins s1 σ H1 Q I1 q1
  | false => exact ⟨.bl false, H1, I1, rfl, q1⟩
theorem pe_not (ha : PE X a ta) : PE X (.UnaryOp .Not a pos) (tNotV ta) := by
  intro pins s σ H Q I h
  refine UnaryOp_ (thn (ha pins s σ H _ I h) fun v s1 ⟨x, H1, I1, r1, q1⟩ => ?_)
  obtain ⟨c, rfl, q1⟩ := q1
  cases r1
  exact not_of (wpAny_truthy_bool ⟨.bl (!c), H1, I1, rfl, q1⟩)
/-- a if t else b -/
def tIf (t : TT) (ta tb : TE) : TE := fun σ H Q => t σ H fun c H1 => if c = true then ta σ H1 Q else tb σ H1 Q
theorem pe_ifExp {c : Expr} (hc : PT X c tA) (ha : PE X a ta) (hb : PE X b tb) : PE X (.IfExp c a b pos) (tIf tA ta tb) := by
  intro pins s σ H Q I h
  refine wpAny_IfExp (thn (hc pins s σ H _ I h) fun d s1 ⟨H1, I1, q1⟩ => ?_)
  cases d with
  | true => exact ha pins s1 σ H1 Q I1 q1
  | false => exact hb pins s1 σ H1 Q I1 q1
end
end L2

namespace L2
open PySem PySem.Spec PyProof.Rows

/-! ### a list, a tuple that is read: tracked, frozen, or an object of the module -/
def SqL (K : PySem.W.Frag) (H : Hp) (a : Addr) (xs : List V) : Prop :=
  Rd H a (.lst xs) ∨
    ∃ (o : Obj) (its : Array Value) (n : Nat), K.lookup a = some o ∧ o.cls = .type "list" ∧ o.dict = none ∧ o.data = .seq its n ∧ its.size ≤ sizeLine ∧ Vals xs its.toList
def SqT (K : PySem.W.Frag) (H : Hp) (a : Addr) (xs : List V) : Prop :=
  Rd H a (.tup xs) ∨
    ∃ (o : Obj) (its : Array Value) (n : Nat), K.lookup a = some o ∧ o.cls = .type "tuple" ∧ o.data = .seq its n ∧ its.size ≤ sizeLine ∧ Vals xs its.toList
def absV : Value → Option V
  | .none => some .non
  | .bool b => some (.bl b)
  | .int i _ => some (.int i)
  | .str x _ => some (.str x)
  | .bytes b _ => some (.byt b)
  | .float b _ => some (.flt b)
  | .ref a => some (.ref a)
  | .type n => some (.ty n)
  | _ => none
theorem RelV.abs {x : V} {u : Value} (r : RelV x u) : absV u = some x := by
  cases x with
  | non => cases r; rfl
  | bl _ => cases r; rfl
  | int _ => obtain ⟨t, rfl⟩ := r; rfl
  | str _ => obtain ⟨t, rfl⟩ := r; rfl
  | byt _ => obtain ⟨t, rfl⟩ := r; rfl
  | flt _ => obtain ⟨t, rfl⟩ := r; rfl
  | ref _ => cases r; rfl
  | ty _ => cases r; rfl
theorem RelV.inj {x y : V} {u : Value} (r : RelV x u) (q : RelV y u) : x = y := Option.some.inj (r.abs.symm.trans q.abs)
theorem Vals.inj : ∀ {xs ys : List V} {us : List Value}, Vals xs us → Vals ys us → xs = ys
  | _, _, _, .nil, .nil => rfl
  | _, _, _, .cons r t, .cons r' t' => by rw [r.inj r', Vals.inj t t']
section
variable {X : Cx} {pins : List (Addr × Obj)} {σ : St} {H : Hp} {s : Shared} {a : Addr} {xs ys : List V}
theorem SqL.of {K : PySem.W.Frag} (h : H a = some (.lst xs)) : SqL K H a xs := .inl (.inl h)
theorem SqT.of {K : PySem.W.Frag} (h : H a = some (.tup xs)) : SqT K H a xs := .inl (.inl h)
theorem Inv.list (I : Inv X pins σ H s) (h : SqL X.K H a xs) : ∃ its : List Value, Vals xs its ∧ PlainL s.heap a its.toArray ∧ xs.length ≤ sizeLine := by
  rcases h with h | ⟨o, its, n, hk, hc, hd, hs, hz, r⟩
  · obtain ⟨z, its, n, r, e⟩ := h.ok I.hok
    exact ⟨its, r, ⟨_, n, e, rfl, rfl, rfl⟩, z⟩
  · refine ⟨its.toList, r, ⟨o, n, I.kIn a o hk, hc, hd, by simpa using hs⟩, ?_⟩
    have e := r.length
    simp only [Array.length_toList] at e
    omega
theorem Inv.tuple (I : Inv X pins σ H s) (h : SqT X.K H a xs) : ∃ its : List Value, Vals xs its ∧ IsTup s.heap a its.toArray ∧ xs.length ≤ sizeLine := by
  rcases h with h | ⟨o, its, n, hk, hc, hs, hz, r⟩
  · obtain ⟨z, its, r, p⟩ := h.ok I.hok
    exact ⟨its, r, p, z⟩
  · refine ⟨its.toList, r, ⟨o, I.kIn a o hk, hc, n, by simpa using hs⟩, ?_⟩
    have e := r.length
    simp only [Array.length_toList] at e
    omega
theorem Inv.list_inj (I : Inv X pins σ H s) (h : SqL X.K H a xs) (h' : SqL X.K H a ys) : xs = ys := by
  obtain ⟨its, r, ⟨o, n, e, _, _, d⟩, _⟩ := I.list h
  obtain ⟨its', r', ⟨o', n', e', _, _, d'⟩, _⟩ := I.list h'
  rw [e] at e'; cases e'
  rw [d] at d'
  injection d' with d1 _
  have : its = its' := by simpa using congrArg Array.toList d1
  subst this
  exact r.inj r'
end

/-! ### another wish about exceptions -/
abbrev Cx.wish (X : Cx) (E : Value → Shared → Prop) : Cx := { X with xe := E }
/-- no exception leaves -/
abbrev Cx.nox (X : Cx) : Cx := X.wish fun _ _ => False
theorem Cx.Ok.wish {X : Cx} (ok : X.Ok) (E : Value → Shared → Prop) : (X.wish E).Ok :=
  ⟨ok.mod, ok.kind, ok.glob, ok.blt, ok.above, ok.inj, ok.has, ok.cab, ok.hd, ok.frames, ok.stk, ok.exf, ok.bs, ok.bsz, ok.noex, ok.exfs, ok.funs, ok.frf⟩
theorem Cx.Ok.unwish {X : Cx} {E : Value → Shared → Prop} (ok : (X.wish E).Ok) : X.Ok :=
  ⟨ok.mod, ok.kind, ok.glob, ok.blt, ok.above, ok.inj, ok.has, ok.cab, ok.hd, ok.frames, ok.stk, ok.exf, ok.bs, ok.bsz, ok.noex, ok.exfs, ok.funs, ok.frf⟩
section
variable {X : Cx} {pins : List (Addr × Obj)} {σ : St} {H : Hp} {s : Shared} {E : Value → Shared → Prop}
theorem Inv.wish (I : Inv X pins σ H s) (E : Value → Shared → Prop) : Inv (X.wish E) pins σ H s := ⟨I.ok.wish E, I.os, I.bare, I.base, I.loc, I.cell, I.free, I.freeC, I.pin, I.hok, I.len⟩
theorem Inv.unwish (I : Inv (X.wish E) pins σ H s) : Inv X pins σ H s := ⟨I.ok.unwish, I.os, I.bare, I.base, I.loc, I.cell, I.free, I.freeC, I.pin, I.hok, I.len⟩
theorem SP.unwish {D : Ends} {f : Flow} {s' : Shared} (h : SP (X.wish E) pins D f s') : SP X pins D f s' := by
  cases f with
  | next => obtain ⟨σ', H', I, q⟩ := h; exact ⟨σ', H', I.unwish, q⟩
  | brk => obtain ⟨σ', H', I, q⟩ := h; exact ⟨σ', H', I.unwish, q⟩
  | cont => obtain ⟨σ', H', I, q⟩ := h; exact ⟨σ', H', I.unwish, q⟩
  | ret u => obtain ⟨v, σ', H', I, r, q⟩ := h; exact ⟨v, σ', H', I.unwish, r, q⟩
theorem PSs.nox {st : List Stmt} {t : TS} (h : PSs X.nox st t) : PSs X st t := fun pins s σ H D I hw =>
  wpAny_mono (h pins s σ H D (I.wish _) hw) (fun _ _ q => q.unwish) fun _ _ z => False.elim z
end

/-! ### blocks and small statements -/
section
variable {X : Cx} {st : Stmt} {rest : List Stmt} {t u : TS} {e : Expr} {te : TE} {pos : Pos}
def tNext : TS := fun D σ H => D.nx σ H
def tSeq (t u : TS) : TS := fun D σ H => t { D with nx := u D } σ H
theorem pss_nil : PSs X [] tNext := fun _ _ σ H _ I h => wpAny_execs_nil ⟨σ, H, I, h⟩
theorem pss_cons (h1 : PS X st t) (h2 : PSs X rest u) : PSs X (st :: rest) (tSeq t u) := by
  intro pins s σ H D I h
  refine wpAny_execs_cons (thn (h1 pins s σ H { D with nx := u D } I h) fun f s1 q => ?_)
  cases f with
  | next =>
    obtain ⟨σ', H', I', q⟩ := q
    exact h2 pins s1 σ' H' D I' q
  | ret v => exact q
  | brk => exact q
  | cont => exact q
theorem pss_one (h1 : PS X st t) : PSs X [st] t := by
  intro pins s σ H D I h
  refine wpAny_execs_cons (thn (h1 pins s σ H D I h) fun f s1 q => ?_)
  cases f with
  | next => exact wpAny_execs_nil q
  | ret v => exact q
  | brk => exact q
  | cont => exact q
/-- in a def's body nothing is shown -/
theorem Inv.quiet {pins : List (Addr × Obj)} {σ : St} {H : Hp} {s : Shared} (I : Inv X pins σ H s) : interactive X.env = false := by simp [interactive, I.ok.kind]
/-- an expression whose value is dropped -/
def tDrop (te : TE) : TS := fun D σ H => te σ H fun _ H1 => D.nx σ H1
theorem ps_expr (he : PE X e te) (hs : swapsWith e none pos.line X.env = pure false := by rfl) : PS X (.Expr e pos) (tDrop te) := by
  intro pins s σ H D I h
  exact wpAny_Expr_any (thn (he pins s σ H _ I h) fun v s1 ⟨x, H1, I1, r1, q1⟩ => ⟨σ, H1, I1, q1⟩) I.quiet hs
def tRet (te : TE) : TS := fun D σ H => te σ H D.rt
theorem ps_ret (he : PE X e te) : PS X (.Return (some e) pos) (tRet te) := by
  intro pins s σ H D I h
  exact wpAny_Return_some (thn (he pins s σ H _ I h) fun v s1 ⟨x, H1, I1, r1, q1⟩ => ⟨x, σ, H1, I1, r1, q1⟩)
def tIfS (c : TT) (t u : TS) : TS := fun D σ H => c σ H fun b H1 => if b = true then t D σ H1 else u D σ H1
theorem ps_if {c : Expr} {a b : List Stmt} {tc : TT} (hc : PT X c tc) (ha : PSs X a t) (hb : PSs X b u) : PS X (.If c a b pos) (tIfS tc t u) := by
  intro pins s σ H D I h
  refine wpAny_If (thn (hc pins s σ H _ I h) fun d s1 ⟨H1, I1, q1⟩ => ?_)
  cases d with
  | true => exact ha pins s1 σ H1 D I1 q1
  | false => exact hb pins s1 σ H1 D I1 q1
/-- code that the proof never comes to -/
def tNever : TS := fun _ _ _ => False
theorem ps_never : PS X st tNever := fun _ _ _ _ _ _ h => h.elim
end

/-! ### targets -/
abbrev TG := V → St → Hp → (St → Hp → Prop) → Prop
def PG (X : Cx) (target : Expr) (t : TG) : Prop :=
  ∀ (pins : List (Addr × Obj)) (s : Shared) (σ : St) (H : Hp) (v : V) (u : Value) (Q : St → Hp → Prop), Inv X pins σ H s → RelV v u → t v σ H Q →
    wpAny (model X.prog X.w) X.A (assign target X.env u) (fun _ s' => ∃ σ' H', Inv X pins σ' H' s' ∧ Q σ' H') X.xe s
section
variable {X : Cx} {pos : Pos}
def gName (i : Nat) : TG := fun v σ H Q => Q (σ.set i (some v)) H
theorem pg_name {i : Nat} {x : Str} (hN : X.N.Nodup) (hi : X.N[i]? = some x) (hx : Loc X.env.scope x) (hf : X.fn x = true ∨ X.env.scope.names.lookup x = some .local := by first | exact .inl rfl | exact .inr rfl | assumption) : PG X (.Name x pos) (gName i) := by
  intro pins s σ H v u Q I r h
  exact wpAny_assign_Name (store_ok I hN hi hx r (fun s' I' => ⟨_, H, I', h⟩) hf)
/-- target = value -/
def tAsg (te : TE) (g : TG) : TS := fun D σ H => te σ H fun x H1 => g x σ H1 D.nx
/-- name = value -/
theorem ps_set {i : Nat} {x : Str} {e : Expr} {te : TE} {pos' : Pos} (hN : X.N.Nodup) (hi : X.N[i]? = some x) (hx : Loc X.env.scope x) (he : PE X e te) (hs : swapsWith e (some (.Name x pos')) pos.line X.env = pure false := by rfl) (hf : X.fn x = true ∨ X.env.scope.names.lookup x = some .local := by first | exact .inl rfl | exact .inr rfl | assumption) :
    PS X (.Assign [.Name x pos'] e pos) (tAsg te (gName i)) := by
  intro pins s σ H D I h
  refine wpAny_Assign_Name (thn (he pins s σ H _ I h) fun v s1 ⟨y, H1, I1, r1, q1⟩ => ?_) hs
  exact store_ok I1 hN hi hx r1 (fun s2 I2 => ⟨_, H1, I2, q1⟩) hf
end

/-! ### while -/
section
variable {X : Cx} {pos : Pos}
/-- the invariant W with its measure -/
def tWhile (c : TT) (tb : TS) : TS := fun D σ H => ∃ W : Nat → St → Hp → Prop, (∃ m, W m σ H) ∧ ∀ m σ H, W m σ H →
  c σ H fun b H1 => if b = true then ∃ N : St → Hp → Prop, (∀ σ' H', N σ' H' → ∃ m', m' < m ∧ W m' σ' H') ∧ tb { D with nx := N, ct := N, bk := D.nx } σ H1 else D.nx σ H1
theorem ps_while {c : Expr} {body : List Stmt} {tc : TT} {tb : TS} (hp : PassesOwn (model X.prog X.w) X.A X.env X.xe) (hc : PT X c tc) (hb : PSs X body tb) : PS X (.While c body [] pos) (tWhile tc tb) := by
  intro pins s σ H D I h
  obtain ⟨W, ⟨m0, w0⟩, turn⟩ := h
  refine wpAny_While (codeAny_whileLoop (fun n s' => ∃ σ' H', Inv X pins σ' H' s' ∧ W n σ' H') ?_ m0 ⟨σ, H, I, w0⟩)
  rintro n s1 ⟨σ1, H1, I1, w1⟩
  refine wpAny_passesOwn hp (thn (hc pins s1 σ1 H1 _ I1 (turn n σ1 H1 w1)) fun b s2 ⟨H2, I2, q2⟩ => ?_)
  cases b with
  | true =>
    obtain ⟨N, hN, q2⟩ := q2
    rw [if_pos rfl]
    refine wpAny_passesOwn hp (thn (hb pins s2 σ1 H2 _ I2 q2) fun f s3 q3 => ?_)
    cases f with
    | next =>
      obtain ⟨σ3, H3, I3, n3⟩ := q3
      obtain ⟨m', hm, w3⟩ := hN σ3 H3 n3
      exact ⟨m', hm, σ3, H3, I3, w3⟩
    | cont =>
      obtain ⟨σ3, H3, I3, n3⟩ := q3
      obtain ⟨m', hm, w3⟩ := hN σ3 H3 n3
      exact ⟨m', hm, σ3, H3, I3, w3⟩
    | brk => exact q3
    | ret v => exact q3
  | false =>
    rw [if_neg Bool.false_ne_true]
    exact wpAny_execs_nil ⟨σ1, H2, I2, q2⟩
end

/-! ### what a loop or a comprehension walks -/
/-- at turn i: it yields x (the heap may grow), or it stops -/
structure It where
  go : Nat → Hp → Prop
  yld : Nat → Hp → V → Hp → Prop
  stop : Nat → Hp → Prop
/-- the iterator's own objects may turn: they are not the frame's, not pinned, younger than the entry (or a comprehension's own) -/
def FpOk (X : Cx) (pins : List (Addr × Obj)) (H : Hp) (b : Addr) : Prop :=
  H b = none ∧ b ≠ X.env.locals ∧ b ∉ X.fs ∧ (b ∈ X.ex ∨ X.s₀.heap.objs.size ≤ b) ∧ (∀ x c, X.env.cells.lookup x = some c → c ≠ b) ∧ ∀ p ∈ X.pn ++ pins, p.1 ≠ b
theorem Inv.fpOk {X : Cx} {pins : List (Addr × Obj)} {σ : St} {H H' : Hp} {s : Shared} {b : Addr} (I : Inv X pins σ H s) (hb : s.heap.objs.size ≤ b) (hn : H' b = none) : FpOk X pins H' b := by
  refine ⟨hn, Nat.ne_of_gt (Nat.lt_of_lt_of_le I.lt hb), I.nofs hb, .inr (Nat.le_trans I.sz hb), fun x c e z => ?_, fun p hp z => ?_⟩
  · obtain ⟨v, q⟩ := I.cell x c e
    exact absurd (Nat.lt_of_lt_of_le q.lt (by rw [z]; exact hb)) (Nat.lt_irrefl _)
  · exact absurd (Nat.lt_of_lt_of_le (Heap.lt_size (I.pin p hp).1) (by rw [z]; exact hb)) (Nat.lt_irrefl _)
structure Turn (P : Program) (w : World) (K : PySem.W.Frag) (tg : Expr) (J : It) (fp : List Addr) (it : Addr) (tn : Nat → Heap → Prop) : Prop where
  mem : it ∈ fp
  obj : ∀ i h, tn i h → ∀ b ∈ fp, ∃ o, h.get? b = some o ∧ ∀ v, o.data ≠ .cell v
  keep : ∀ i h h', tn i h → (∀ b ∈ fp, ∀ o, h.get? b = some o → h'.get? b = some o) → tn i h'
  item : ∀ (X : Cx), X.prog = P → X.w = w → X.K = K → X.calm = true → ∀ (i : Nat) (pins : List (Addr × Obj)) (s : Shared) (σ : St) (H : Hp) (E : Value → Shared → Prop), Inv X pins σ H s → (∀ b ∈ fp, FpOk X pins H b) → tn i s.heap → J.go i H →
    wpAny (model P w) X.A (pyNext (.ref it)) (fun r s1 => ∃ u, r = some u ∧
      wpAny (model P w) X.A (letOwnedTupleGo tg (.ref it) u) (fun _ s2 => ∃ x H', Inv X pins σ H' s2 ∧ RelV x u ∧ J.yld i H x H' ∧ tn (i + 1) s2.heap ∧ ∀ b ∈ fp, H' b = none) E s1) E s
  done : ∀ (X : Cx), X.prog = P → X.w = w → X.K = K → X.calm = true → ∀ (i : Nat) (pins : List (Addr × Obj)) (s : Shared) (σ : St) (H : Hp) (E : Value → Shared → Prop), Inv X pins σ H s → (∀ b ∈ fp, FpOk X pins H b) → tn i s.heap → J.stop i H →
    wpAny (model P w) X.A (pyNext (.ref it)) (fun r s1 => r = none ∧ Inv X pins σ H s1) E s
  self : ∀ (A : Around) (i : Nat) (s : Shared) (Q : Value → Shared → Prop) (E : Value → Shared → Prop), tn i s.heap → Q (.ref it) s → wpAny (model P w) A (pyIter (.ref it)) Q E s
abbrev TI := St → Hp → (It → Hp → Prop) → Prop
/-- an iterator has come -/
def PIE (X : Cx) (pins : List (Addr × Obj)) (σ : St) (tg : Expr) (R : It → Hp → Prop) (itv : Value) (s2 : Shared) : Prop :=
  ∃ (it : Addr) (fp : List Addr) (tn : Nat → Heap → Prop) (J : It) (H' : Hp), itv = .ref it ∧ Inv X pins σ H' s2 ∧ Turn X.prog X.w X.K tg J fp it tn ∧ tn 0 s2.heap ∧ (∀ b ∈ fp, FpOk X pins H' b) ∧ R J H'
def PI (X : Cx) (tg iter : Expr) (wi : TI) : Prop :=
  ∀ (pins : List (Addr × Obj)) (s : Shared) (σ : St) (H : Hp) (R : It → Hp → Prop), Inv X pins σ H s → wi σ H R →
    wpAny (model X.prog X.w) X.A (eval iter X.env) (fun v s1 => wpAny (model X.prog X.w) X.A (pyIter v) (PIE X pins σ tg R) X.xe s1) X.xe s

/-- the step ahead of the store is nothing for an iterator that keeps no tuple -/
theorem go_of {M : Model} {A : Around} {E : Value → Shared → Prop} {s : Shared} {tg : Expr} {it : Addr} {u : Value} {o : Obj} {n : String} {vs : Array Value} {Q : Unit → Shared → Prop} (ho : s.heap.get? it = some o) (hc : o.cls = .type n) (hd : o.data = .fields vs)
    (hn : ["enumerate", "zip", "dict_itemiterator", "dict_reverseitemiterator", "odict_iterator", "itertools.zip_longest", "itertools.pairwise"].contains n = false) (hQ : Q () s) : wpAny M A (letOwnedTupleGo tg (.ref it) u) Q E s := by
  unfold letOwnedTupleGo
  cases tg <;> first
    | exact wpAny_pure hQ
    | (cases u <;> first
        | exact wpAny_pure hQ
        | (refine wpAny_bind (wpAny_load ho ?_)
           rw [hc, hd]
           show wpAny M A (if (["enumerate", "zip", "dict_itemiterator", "dict_reverseitemiterator", "odict_iterator", "itertools.zip_longest", "itertools.pairwise"].contains n && vs[0]? == some (rawInt _)) = true then _ else _) Q E s
           rw [if_neg (by intro h; rw [hn, Bool.false_and] at h; cases h)]
           exact wpAny_pure hQ))

/-- the list at a, as it stands at each turn (a loop may append to it) -/
def Itl (K : PySem.W.Frag) (a : Addr) : It :=
  ⟨fun i H => ∃ xs x, SqL K H a xs ∧ xs[i]? = some x, fun i H x H' => H' = H ∧ ∀ xs, SqL K H a xs → xs[i]? = some x, fun i H => ∃ xs, SqL K H a xs ∧ xs.length ≤ i⟩
/-- lo, lo + 1, .. (n of them) -/
def Itr (lo : Int) (n : Nat) : It := ⟨fun i _ => i < n, fun i H x H' => H' = H ∧ x = .int (lo + i), fun i _ => n ≤ i⟩
theorem turn_list {P : Program} {w : World} {K : PySem.W.Frag} {tg : Expr} (a it : Addr) : Turn P w K tg (Itl K a) [it] it (fun i h => h.IsListIter it a i) where
  mem := by simp
  obj := fun i h st b hb => by
    have e : b = it := by simpa using hb
    subst e
    obtain ⟨o, e, c, d⟩ := st
    exact ⟨o, e, fun v z => by rw [d] at z; cases z⟩
  keep := fun i h h' st k => st.at fun o e => k it (by simp) o e
  item := by
    intro X hP hw hK hc i pins s σ H E I hf st hg
    subst hP hw hK
    obtain ⟨xs, x, hq, hx⟩ := hg
    obtain ⟨its, rv, p, hz⟩ := I.list hq
    obtain ⟨u, hu, ru⟩ := rv.get hx
    obtain ⟨f0, f1, f2, f3, f4, f5⟩ := hf it (by simp)
    refine wpAny_pyNext_list_item st p.isList (x := u) (by simpa using hu) fun h' st' sb => ?_
    have I1 : Inv X pins σ H { s with heap := h' } := I.turned (t' := s.toks) (fun b o hb e => (sb.2 b hb).trans e) f0 f1 f3 f4 f5
    obtain ⟨o, e, c, d⟩ := id st'
    exact ⟨u, rfl, go_of (s := { s with heap := h' }) e c d (by decide) ⟨x, H, I1, ru, ⟨rfl, fun ys hy => by rw [I.list_inj hy hq]; exact hx⟩, st', fun b hb => (hf b hb).1⟩⟩
  done := by
    intro X hP hw hK hc i pins s σ H E I hf st hg
    subst hP hw hK
    obtain ⟨xs, hq, hx⟩ := hg
    obtain ⟨its, rv, p, hz⟩ := I.list hq
    obtain ⟨f0, f1, f2, f3, f4, f5⟩ := hf it (by simp)
    have hl := rv.length
    exact wpAny_pyNext_list_end (I.ok.hd hc) st p.isList (by simp; omega) fun h' eb => ⟨rfl, I.turned (t' := s.toks) (fun b o hb e => eb b o hb e) f0 f1 f3 f4 f5⟩
  self := fun _ _ _ _ _ st h => wpAny_pyIter_listiter st h
theorem turn_range {P : Program} {w : World} {K : PySem.W.Frag} {tg : Expr} (it : Addr) (lo : Int) (n : Nat) : Turn P w K tg (Itr lo n) [it] it (fun i h => IsRangeIter h it (lo + (i : Nat) * 1) ((n : Int) - (i : Nat)) 1) where
  mem := by simp
  obj := fun i h st b hb => by
    have e : b = it := by simpa using hb
    subst e
    exact ⟨_, st, fun v z => by
      have z' : Data.fields _ = Data.cell v := z
      cases z'⟩
  keep := fun i h h' st k => k it (by simp) _ st
  item := by
    intro X hP hw hK hc i pins s σ H E I hf st hg
    subst hP hw hK
    obtain ⟨f0, f1, f2, f3, f4, f5⟩ := hf it (by simp)
    have W := Walks.range (prog := X.prog) (w := X.w) (I.ok.hd hc) it lo 1 n
    refine W.item i s _ _ hg st fun v h' tk hv st' kk => ?_
    obtain ⟨t, rfl⟩ := hv
    have I1 : Inv X pins σ H { s with heap := h', toks := tk } := I.turned (fun b o hb e => kk b o (by simpa using hb) e) f0 f1 f3 f4 f5
    refine ⟨_, rfl, go_of (s := { s with heap := h', toks := tk }) (n := "range_iterator") st' rfl rfl (by decide) ⟨.int (lo + i), H, I1, ⟨t, ?_⟩, ⟨rfl, rfl⟩, st', fun b hb => (hf b hb).1⟩⟩
    rw [Int.mul_one]
  done := by
    intro X hP hw hK hc i pins s σ H E I hf st hg
    subst hP hw hK
    obtain ⟨f0, f1, f2, f3, f4, f5⟩ := hf it (by simp)
    exact wpAny_pyNext_range_end (I.ok.hd hc) st (by have : n ≤ i := hg; omega) fun h' eb => ⟨rfl, I.turned (t' := s.toks) (fun b o hb e => eb b o hb e) f0 f1 f3 f4 f5⟩
  self := fun _ _ _ _ _ st h => wpAny_pyIter_rangeiter st h
end L2

namespace L2
open PySem PySem.Spec PyProof.Rows
section
variable {X : Cx} {tg : Expr}
inductive ItlR (K : PySem.W.Frag) (x : V) (H : Hp) (R : It → Hp → Prop) : Prop
  | mk (a : Addr) (h : x = .ref a) (h2 : ∃ xs, SqL K H a xs) (k : R (Itl K a) H) : ItlR K x H R
def iList (K : PySem.W.Frag) (tl : TE) : TI := fun σ H R => tl σ H fun x H1 => ItlR K x H1 R
theorem pi_list {l : Expr} {tl : TE} (hl : PE X l tl) : PI X tg l (iList X.K tl) := by
  intro pins s σ H R I h
  refine thn (hl pins s σ H _ I h) fun v s1 ⟨x, H1, I1, r1, q1⟩ => ?_
  obtain ⟨a, e, ⟨xs, hq⟩, q⟩ := q1
  subst e
  cases r1
  obtain ⟨its, rv, p, hz⟩ := I1.list hq
  refine wpAny_pyIter_list p.isList ?_
  refine ⟨s1.heap.objs.size, [s1.heap.objs.size], _, _, H1, rfl, I1.kept (t' := s1.toks) fun b o e => Heap.get?_push_of_some _ e, turn_list a _, ⟨_, Heap.get?_push_size _ rfl, rfl, rfl⟩, fun b hb => ?_, q⟩
  have e : b = s1.heap.objs.size := by simpa using hb
  subst e
  exact I1.fpOk (Nat.le_refl _) (I1.hok.fresh (Nat.le_refl _))
/-- a range object just made, walked -/
theorem range_it {pins : List (Addr × Obj)} {σ : St} {H : Hp} {s : Shared} {R : It → Hp → Prop} {E : Value → Shared → Prop} {lo hi : Int} {t u v : Tok} {tk : Nat} (I : Inv X pins σ H s) (h1 : -(2 ^ 62) ≤ lo) (h2 : lo < 2 ^ 62) (h3 : -(2 ^ 62) ≤ hi) (h4 : hi < 2 ^ 62)
    (q : R (Itr lo (hi - lo).toNat) H) : wpAny (model X.prog X.w) X.A (pyIter (.ref s.heap.objs.size)) (PIE X pins σ tg R) E { s with heap := s.heap.push { cls := .type "range", data := .fields #[.int lo t, .int hi u, .int 1 v] }, toks := tk } := by
  refine wpAny_pyIter_range (IsRange.new ..) (small_one h1 h2 h3 h4) ?_
  have I1 : Inv X pins σ H { s with heap := s.heap.push { cls := .type "range", data := .fields #[.int lo t, .int hi u, .int 1 v] }, toks := tk } := I.kept fun b o e => Heap.get?_push_of_some _ e
  refine ⟨(s.heap.push { cls := .type "range", data := .fields #[.int lo t, .int hi u, .int 1 v] }).objs.size, [(s.heap.push { cls := .type "range", data := .fields #[.int lo t, .int hi u, .int 1 v] }).objs.size], _, _, H, rfl,
    I1.kept (t' := tk) fun b o e => Heap.get?_push_of_some _ e, turn_range _ lo (hi - lo).toNat, ?_, fun b hb => ?_, q⟩
  · have e1 : lo + ((0 : Nat) : Int) * 1 = lo := by simp
    have e2 : (((hi - lo).toNat : Nat) : Int) - ((0 : Nat) : Int) = Builtin.Range.rangeSize lo hi 1 := by rw [rangeSize_one]; split <;> omega
    show IsRangeIter _ _ (lo + ((0 : Nat) : Int) * 1) ((((hi - lo).toNat : Nat) : Int) - ((0 : Nat) : Int)) 1
    rw [e1, e2]
    exact Heap.get?_push_size _ rfl
  · have e : b = (s.heap.push { cls := .type "range", data := .fields #[.int lo t, .int hi u, .int 1 v] }).objs.size := by simpa using hb
    subst e
    exact I1.fpOk (Nat.le_refl _) (I1.hok.fresh (Nat.le_refl _))
def iRng1 (ta : TA) : TI := fun σ H R => ta σ H fun vs H1 => ∃ j : Int, vs = [.int j] ∧ -(2 ^ 62) ≤ j ∧ j < 2 ^ 62 ∧ R (Itr 0 j.toNat) H1
theorem pi_range1 {a : Expr} {ta : TA} {p pos : Pos} (hg : Gl X "range") (hm : X.mg "range" = none) (ha : PA X [a] ta) (hs : starEach [a] X.env = [(false, eval a X.env)] := by rfl) : PI X tg (.Call (.Name "range" p) [a] [] pos) (iRng1 ta) := by
  intro pins s σ H R I h
  refine Call_ (ld_blt I hg hm boot_range (PyProof.Rows.callWith_type1 (thn (ha pos pins s σ H _ I h) fun us s1 ⟨vs, H1, I1, r1, q1⟩ => ?_) hs rfl))
  obtain ⟨j, e, q1, q2, q⟩ := q1
  subst e
  cases r1 with
  | cons r rr =>
    cases rr
    obtain ⟨t, rfl⟩ := r
    exact call_range_1 (range_it I1 (by omega) (by omega) q1 q2 (by simpa using q))
/-! ### for -/
/-- W: the invariant by the turn and a measure; N: what the body is to reach -/
def tFor (wi : TI) (g : TG) (tb : TS) : TS := fun D σ H => wi σ H fun J H1 => ∃ W : Nat → Nat → St → Hp → Prop, (∃ m, W 0 m σ H1) ∧ ∀ i m σ H, W i m σ H →
  (J.stop i H ∧ D.nx σ H) ∨ (J.go i H ∧ ∃ N : St → Hp → Prop, (∀ σ' H', N σ' H' → ∃ m', m' < m ∧ W (i + 1) m' σ' H') ∧ ∀ x H', J.yld i H x H' → g x σ H' fun σ2 H2 => tb { D with nx := N, ct := N, bk := D.nx } σ2 H2)
/-- the records at fp as they stand -/
def pinsAt (fp : List Addr) (h : Heap) : List (Addr × Obj) := fp.filterMap fun b => (h.get? b).map fun o => (b, o)
theorem mem_pinsAt {fp : List Addr} {h : Heap} {b : Addr} {o : Obj} (hb : b ∈ fp) (e : h.get? b = some o) : (b, o) ∈ pinsAt fp h := List.mem_filterMap.mpr ⟨b, hb, by rw [e]; rfl⟩
theorem of_pinsAt {fp : List Addr} {h : Heap} {p : Addr × Obj} (hp : p ∈ pinsAt fp h) : p.1 ∈ fp ∧ h.get? p.1 = some p.2 := by
  obtain ⟨b, hb, e⟩ := List.mem_filterMap.mp hp
  cases q : h.get? b with
  | none => rw [q] at e; cases e
  | some o =>
    rw [q] at e
    have e' : (b, o) = p := Option.some.inj e
    subst e'
    exact ⟨hb, q⟩
theorem Inv.pinned {pins : List (Addr × Obj)} {σ : St} {H : Hp} {s : Shared} {fp : List Addr} (I : Inv X pins σ H s) (hf : ∀ b ∈ fp, FpOk X pins H b) (ho : ∀ b ∈ fp, ∃ o, s.heap.get? b = some o ∧ ∀ v, o.data ≠ .cell v) : Inv X (pins ++ pinsAt fp s.heap) σ H s :=
  I.pins_of fun p hp => (List.mem_append.mp hp).elim (fun z => I.pin p (List.mem_append_right _ z)) fun z => by
    obtain ⟨hb, e⟩ := of_pinsAt z
    obtain ⟨f0, f1, f2, _⟩ := hf p.1 hb
    obtain ⟨o, e', d⟩ := ho p.1 hb
    rw [e] at e'; cases e'
    exact ⟨e, f0, f1, f2, d⟩
theorem Inv.unpinned {pins pl : List (Addr × Obj)} {σ : St} {H : Hp} {s : Shared} (I : Inv X (pins ++ pl) σ H s) : Inv X pins σ H s := I.pins_of fun p hp => I.pin p (List.mem_append_right _ (List.mem_append_left _ hp))
theorem ps_for {iter : Expr} {body : List Stmt} {wi : TI} {g : TG} {tb : TS} {pos : Pos} (hp : PassesOwn (model X.prog X.w) X.A X.env X.xe) (hc : X.calm = true) (hi : PI X tg iter wi) (hg : PG X tg g) (hb : PSs X body tb)
    (hs : ∀ x, foldedSetIterable iter X.env x = pure x := by intro _; rfl) : PS X (.For tg iter body [] pos) (tFor wi g tb) := by
  intro pins s σ H D I h
  refine wpAny_For (thn (hi pins s σ H _ I h) fun v s1 h1 => thn h1 fun itv s2 h2 => ?_) hs
  obtain ⟨it, fp, tn, J, H2, e, I2, T, st2, f2, W, ⟨m0, w0⟩, turn⟩ := h2
  subst e
  -- what stays true of the iterator's objects through the loop
  have stat : ∀ {H' : Hp}, (∀ b ∈ fp, H' b = none) → ∀ b ∈ fp, FpOk X pins H' b := fun hn b hb => ⟨hn b hb, (f2 b hb).2⟩
  refine codeAny_forLoop_any (fun n s' => ∃ i σ' H', Inv X pins σ' H' s' ∧ tn i s'.heap ∧ (∀ b ∈ fp, H' b = none) ∧ W i n σ' H') ?_ m0 ⟨0, σ, H2, I2, st2, fun b hb => (f2 b hb).1, w0⟩
  rintro n s3 ⟨i, σ3, H3, I3, st3, fr3, w3⟩
  rcases turn i n σ3 H3 w3 with ⟨stop, qn⟩ | ⟨go, N, hN, step⟩
  · refine wpAny_passesOwn hp (thn (T.done X rfl rfl rfl hc i pins s3 σ3 H3 X.xe I3 (stat fr3) st3 stop) fun r s4 ⟨hr, I4⟩ => ?_)
    subst hr
    exact wpAny_execs_nil ⟨σ3, H3, I4, qn⟩
  · refine wpAny_passesOwn hp (thn (T.item X rfl rfl rfl hc i pins s3 σ3 H3 X.xe I3 (stat fr3) st3 go) fun r s4 ⟨u, hr, h4⟩ => ?_)
    subst hr
    refine wpAny_passesOwn hp (thn h4 fun _ s5 ⟨x, H5, I5, r5, y5, st5, fr5⟩ => ?_)
    have I5' := I5.pinned (stat fr5) (T.obj _ _ st5)
    refine wpAny_passesOwn hp (thn (hg _ s5 σ3 H5 x u _ I5' r5 (step x H5 y5)) fun _ s6 ⟨σ6, H6, I6, q6⟩ => ?_)
    refine wpAny_passesOwn hp (thn (hb _ s6 σ6 H6 _ I6 q6) fun f s7 q7 => ?_)
    have again : ∀ {σ7 : St} {H7 : Hp}, Inv X (pins ++ pinsAt fp s5.heap) σ7 H7 s7 → N σ7 H7 → ∃ m, m < n ∧ ∃ i σ' H', Inv X pins σ' H' s7 ∧ tn i s7.heap ∧ (∀ b ∈ fp, H' b = none) ∧ W i m σ' H' := fun {σ7 H7} I7 n7 => by
      obtain ⟨m', hm, w7⟩ := hN σ7 H7 n7
      refine ⟨m', hm, i + 1, σ7, H7, I7.unpinned, T.keep _ _ _ st5 fun b hb o e => (I7.pin (b, o) (List.mem_append_right _ (List.mem_append_right _ (mem_pinsAt hb e)))).1, fun b hb => ?_, w7⟩
      obtain ⟨o, e, d⟩ := T.obj _ _ st5 b hb
      exact (I7.pin (b, o) (List.mem_append_right _ (List.mem_append_right _ (mem_pinsAt hb e)))).2.1
    cases f with
    | next => obtain ⟨σ7, H7, I7, n7⟩ := q7; exact again I7 n7
    | cont => obtain ⟨σ7, H7, I7, n7⟩ := q7; exact again I7 n7
    | brk => obtain ⟨σ7, H7, I7, q7⟩ := q7; exact ⟨σ7, H7, I7.unpinned, q7⟩
    | ret v => obtain ⟨x7, σ7, H7, I7, r7, q7⟩ := q7; exact ⟨x7, σ7, H7, I7.unpinned, r7, q7⟩
end

/-! ### the forms one uses -/
/-- over a list that the body leaves as it is -/
theorem for_list {K : PySem.W.Frag} {a : Addr} {xs : List V} {g : TG} {tb : TS} {D : Ends} {σ : St} {H : Hp} (Pv : Nat → St → Hp → Prop) (h0 : Pv 0 σ H) (hl : ∀ i σ H, i ≤ xs.length → Pv i σ H → SqL K H a xs)
    (hs : ∀ i x σ H, xs[i]? = some x → Pv i σ H → g x σ H fun σ2 H2 => tb { D with nx := Pv (i + 1), ct := Pv (i + 1), bk := D.nx } σ2 H2) (hd : ∀ σ H, Pv xs.length σ H → D.nx σ H) :
    ∃ W : Nat → Nat → St → Hp → Prop, (∃ m, W 0 m σ H) ∧ ∀ i m σ H, W i m σ H →
      ((Itl K a).stop i H ∧ D.nx σ H) ∨ ((Itl K a).go i H ∧ ∃ N : St → Hp → Prop, (∀ σ' H', N σ' H' → ∃ m', m' < m ∧ W (i + 1) m' σ' H') ∧ ∀ x H', (Itl K a).yld i H x H' → g x σ H' fun σ2 H2 => tb { D with nx := N, ct := N, bk := D.nx } σ2 H2) := by
  refine ⟨fun i m σ H => m = xs.length - i ∧ i ≤ xs.length ∧ Pv i σ H, ⟨xs.length, by simp, Nat.zero_le _, h0⟩, ?_⟩
  rintro i m σ H ⟨rfl, hi, p⟩
  have q := hl i σ H hi p
  by_cases hlt : i < xs.length
  · refine .inr ⟨⟨xs, xs[i], q, by simp [hlt]⟩, Pv (i + 1), fun σ' H' p' => ⟨xs.length - (i + 1), by omega, rfl, hlt, p'⟩, fun x H' y => ?_⟩
    obtain ⟨e, y⟩ := y
    subst e
    exact hs i x σ _ (y xs q) p
  · have e : i = xs.length := by omega
    subst e
    exact .inl ⟨⟨xs, q, Nat.le_refl _⟩, hd σ H p⟩
theorem for_range {lo : Int} {n : Nat} {g : TG} {tb : TS} {D : Ends} {σ : St} {H : Hp} (Pv : Nat → St → Hp → Prop) (h0 : Pv 0 σ H)
    (hs : ∀ i σ H, i < n → Pv i σ H → g (.int (lo + i)) σ H fun σ2 H2 => tb { D with nx := Pv (i + 1), ct := Pv (i + 1), bk := D.nx } σ2 H2) (hd : ∀ σ H, Pv n σ H → D.nx σ H) :
    ∃ W : Nat → Nat → St → Hp → Prop, (∃ m, W 0 m σ H) ∧ ∀ i m σ H, W i m σ H →
      ((Itr lo n).stop i H ∧ D.nx σ H) ∨ ((Itr lo n).go i H ∧ ∃ N : St → Hp → Prop, (∀ σ' H', N σ' H' → ∃ m', m' < m ∧ W (i + 1) m' σ' H') ∧ ∀ x H', (Itr lo n).yld i H x H' → g x σ H' fun σ2 H2 => tb { D with nx := N, ct := N, bk := D.nx } σ2 H2) := by
  refine ⟨fun i m σ H => m = n - i ∧ i ≤ n ∧ Pv i σ H, ⟨n, by simp, Nat.zero_le _, h0⟩, ?_⟩
  rintro i m σ H ⟨rfl, hi, p⟩
  by_cases hlt : i < n
  · refine .inr ⟨hlt, Pv (i + 1), fun σ' H' p' => ⟨n - (i + 1), by omega, rfl, hlt, p'⟩, fun x H' y => ?_⟩
    obtain ⟨e, y⟩ := y
    subst e y
    exact hs i σ _ hlt p
  · have e : i = n := by omega
    subst e
    exact .inl ⟨Nat.le_refl _, hd σ H p⟩
end L2

namespace L2
open PySem PySem.Spec PyProof.Rows

abbrev R2 := V → V → Hp → VK → Prop
/-- a two-place operation on values: f is binaryOp op, inplaceOp op or compareOp op -/
def OpR (X : Cx) (f : Value → Value → Sem Value) (r : R2) : Prop :=
  ∀ (pins : List (Addr × Obj)) (s : Shared) (σ : St) (H : Hp) (x y : V) (v u : Value) (Q : VK), Inv X pins σ H s → RelV x v → RelV y u → r x y H Q →
    wpAny (model X.prog X.w) X.A (f v u) (EP X pins σ Q) X.xe s
/-- a one-place operation -/
def UnR (X : Cx) (f : Value → Sem Value) (r : V → Hp → VK → Prop) : Prop :=
  ∀ (pins : List (Addr × Obj)) (s : Shared) (σ : St) (H : Hp) (x : V) (v : Value) (Q : VK), Inv X pins σ H s → RelV x v → r x H Q →
    wpAny (model X.prog X.w) X.A (f v) (EP X pins σ Q) X.xe s
/-- a call of a value that is known (a builtin, a type) with values -/
def CallR (X : Cx) (f : Value) (r : List V → Hp → VK → Prop) : Prop :=
  ∀ (pins : List (Addr × Obj)) (s : Shared) (σ : St) (H : Hp) (xs : List V) (us : List Value) (Q : VK), Inv X pins σ H s → Vals xs us → r xs H Q →
    wpAny (model X.prog X.w) X.A (call f us) (EP X pins σ Q) X.xe s
/-- a value's truth -/
def TruR (X : Cx) (r : V → Hp → (Bool → Hp → Prop) → Prop) : Prop :=
  ∀ (pins : List (Addr × Obj)) (s : Shared) (σ : St) (H : Hp) (x : V) (v : Value) (Q : Bool → Hp → Prop), Inv X pins σ H s → RelV x v → r x H Q →
    wpAny (model X.prog X.w) X.A (truthy v) (TP X pins σ Q) X.xe s

def tOp (r : R2) (ta tb : TE) : TE := fun σ H Q => ta σ H fun x H1 => tb σ H1 fun y H2 => r x y H2 Q
def tUn (r : V → Hp → VK → Prop) (ta : TE) : TE := fun σ H Q => ta σ H fun x H1 => r x H1 Q
/-- ints in, under C, and a value out -/
inductive rI_R (C : Int → Int → Prop) (g : Int → Int → V) (x : V) (y : V) (H : Hp) (Q : VK) : Prop
  | mk (i : _) (j : _) (h0 : x = .int i) (h1 : y = .int j) (h2 : C i j) (h3 : Q (g i j) H) : rI_R C g x y H Q
def rI (C : Int → Int → Prop) (g : Int → Int → V) : R2 := fun x y H Q => rI_R C g x y H Q
inductive rI0_R (g : Int → Int → V) (x : V) (y : V) (H : Hp) (Q : VK) : Prop
  | mk (i : _) (j : _) (h0 : x = .int i) (h1 : y = .int j) (h2 : Q (g i j) H) : rI0_R g x y H Q
def rI0 (g : Int → Int → V) : R2 := fun x y H Q => rI0_R g x y H Q
inductive rU_R (g : Int → V) (x : V) (H : Hp) (Q : VK) : Prop
  | mk (i : _) (h0 : x = .int i) (h1 : Q (g i) H) : rU_R g x H Q
def rU (g : Int → V) : V → Hp → VK → Prop := fun x H Q => rU_R g x H Q
section
variable {X : Cx} {a b c : Expr} {ta tb tc : TE} {pos : Pos}

theorem binT (ha : PE X a ta) (hb : PE X b tb) {pins : List (Addr × Obj)} {s : Shared} {σ : St} {H : Hp} {R : V → V → Hp → Prop} (I : Inv X pins σ H s)
    (h : ta σ H fun x H1 => tb σ H1 fun y H2 => R x y H2) {Q : Value → Shared → Prop} {f : Value → Value → Sem Value}
    (hf : ∀ v u s2 x y H2, Inv X pins σ H2 s2 → RelV x v → RelV y u → R x y H2 → wpAny (model X.prog X.w) X.A (f v u) Q X.xe s2) :
    wpAny (model X.prog X.w) X.A (eval a X.env) (fun v s₁ => wpAny (model X.prog X.w) X.A (eval b X.env) (fun u s₂ => wpAny (model X.prog X.w) X.A (f v u) Q X.xe s₂) X.xe s₁) X.xe s := by
  refine thn (ha pins s σ H _ I h) fun v s1 ⟨x, H1, I1, r1, q1⟩ => ?_
  refine thn (hb pins s1 σ H1 _ I1 q1) fun u s2 ⟨y, H2, I2, r2, q2⟩ => ?_
  exact hf v u s2 x y H2 I2 r1 r2 q2

theorem pe_op {op : Operator} {r : R2} (ho : OpR X (binaryOp op) r) (ha : PE X a ta) (hb : PE X b tb) : PE X (.BinOp a op b pos) (tOp r ta tb) := by
  intro pins s σ H Q I h
  exact wpAny_BinOp (binT ha hb I h fun v u s2 x y H2 I2 rx ry q => ho pins s2 σ H2 x y v u Q I2 rx ry q)
theorem pe_un {op : UnaryOp} {r : V → Hp → VK → Prop} (ho : UnR X (unaryOp op) r) (ha : PE X a ta) : PE X (.UnaryOp op a pos) (tUn r ta) := by
  intro pins s σ H Q I h
  exact UnaryOp_ (thn (ha pins s σ H _ I h) fun v s1 ⟨x, H1, I1, r1, q1⟩ => ho pins s1 σ H1 x v Q I1 r1 q1)
/-! ### ints -/
theorem opI {f : Value → Value → Sem Value} {C : Int → Int → Prop} {g : Int → Int → Int}
    (rule : ∀ (i j : Int) (t u : Tok) (s : Shared) (Q : Value → Shared → Prop) (E : Value → Shared → Prop), C i j → Q (.int (g i j) s.toks) { s with toks := s.toks + 1 } → wpAny (model X.prog X.w) X.A (f (.int i t) (.int j u)) Q E s) :
    OpR X f (rI C fun i j => .int (g i j)) := by
  intro pins s σ H x y v u Q I rx ry h
  obtain ⟨i, j, rfl, rfl, hc, q⟩ := h
  obtain ⟨t, rfl⟩ := rx
  obtain ⟨t', rfl⟩ := ry
  exact rule i j t t' s _ _ hc ⟨.int (g i j), H, I.tok _, ⟨_, rfl⟩, q⟩
theorem opI0 {f : Value → Value → Sem Value} {g : Int → Int → Int}
    (rule : ∀ (i j : Int) (t u : Tok) (s : Shared) (Q : Value → Shared → Prop) (E : Value → Shared → Prop), Q (.int (g i j) s.toks) { s with toks := s.toks + 1 } → wpAny (model X.prog X.w) X.A (f (.int i t) (.int j u)) Q E s) :
    OpR X f (rI0 fun i j => .int (g i j)) := by
  intro pins s σ H x y v u Q I rx ry h
  obtain ⟨i, j, rfl, rfl, q⟩ := h
  obtain ⟨t, rfl⟩ := rx
  obtain ⟨t', rfl⟩ := ry
  exact rule i j t t' s _ _ ⟨.int (g i j), H, I.tok _, ⟨_, rfl⟩, q⟩
theorem opB0 {f : Value → Value → Sem Value} {g : Int → Int → Bool}
    (rule : ∀ (i j : Int) (t u : Tok) (s : Shared) (Q : Value → Shared → Prop) (E : Value → Shared → Prop), Q (.bool (g i j)) s → wpAny (model X.prog X.w) X.A (f (.int i t) (.int j u)) Q E s) :
    OpR X f (rI0 fun i j => .bl (g i j)) := by
  intro pins s σ H x y v u Q I rx ry h
  obtain ⟨i, j, rfl, rfl, q⟩ := h
  obtain ⟨t, rfl⟩ := rx
  obtain ⟨t', rfl⟩ := ry
  exact rule i j t t' s _ _ ⟨.bl (g i j), H, I, rfl, q⟩

def CDiv (i j : Int) : Prop := 0 < j ∧ j < 1073741824
def CPow (i j : Int) : Prop := 0 ≤ j ∧ j ≤ 1000000 ∧ i.natAbs < 2 ^ 64
def CMul (i j : Int) : Prop := (-(2 ^ 64) < i ∧ i < 2 ^ 64) ∨ (-(2 ^ 64) < j ∧ j < 2 ^ 64)
theorem CMul.ok {i j : Int} (h : CMul i j) : IntMulOk i j := by
  rcases h with ⟨h1, h2⟩ | ⟨h1, h2⟩
  · exact .of_left (intBits_le_64 h1 h2)
  · exact .of_right (intBits_le_64 h1 h2)
theorem op_add : OpR X (binaryOp .Add) (rI0 fun i j => .int (i + j)) := opI0 fun _ _ _ _ _ _ _ q => add_int q
theorem op_sub : OpR X (binaryOp .Sub) (rI0 fun i j => .int (i - j)) := opI0 fun _ _ _ _ _ _ _ q => sub_int q
theorem op_mul : OpR X (binaryOp .Mult) (rI CMul fun i j => .int (i * j)) := opI fun _ _ _ _ _ _ _ hc q => mul_int q hc.ok
/-- // by a positive divisor -/
theorem op_fdiv : OpR X (binaryOp .FloorDiv) (rI CDiv fun i j => .int (i / j)) := opI fun i j _ _ _ _ _ hc q => by
  have h1 : (0 : Int) < j := hc.1
  have h2 : j < 1073741824 := hc.2
  exact floordiv_int (by omega) (by rw [Int.fdiv_eq_ediv_of_nonneg i (by omega)]; exact q) (.inl (PyProof.noPylong_small (by omega)))
/-- % by a positive divisor of any size -/
theorem op_mod : OpR X (binaryOp .Mod) (rI (fun _ j => 0 < j) fun i j => .int (i % j)) := opI fun i j _ _ _ _ _ hc q => by
  have h1 : (0 : Int) < j := hc
  exact mod_int' (by omega) (by rw [Int.fmod_eq_emod_of_nonneg i (by omega)]; exact q)
theorem op_pow : OpR X (binaryOp .Pow) (rI CPow fun i j => .int (i ^ j.toNat)) := opI fun _ _ _ _ _ _ _ hc q => pow_int_small hc.1 hc.2.1 hc.2.2 q
theorem unI {f : Value → Sem Value} {g : Int → Int}
    (rule : ∀ (i : Int) (t : Tok) (s : Shared) (Q : Value → Shared → Prop) (E : Value → Shared → Prop), Q (.int (g i) s.toks) { s with toks := s.toks + 1 } → wpAny (model X.prog X.w) X.A (f (.int i t)) Q E s) :
    UnR X f (rU fun i => .int (g i)) := by
  intro pins s σ H x v Q I rx h
  obtain ⟨i, rfl, q⟩ := h
  obtain ⟨t, rfl⟩ := rx
  exact rule i t s _ _ ⟨.int (g i), H, I.tok _, ⟨_, rfl⟩, q⟩
theorem un_neg : UnR X (unaryOp .USub) (rU fun i => .int (-i)) := unI fun _ _ _ _ _ q => neg_int q
/-! ### bools among ints: n += (a < b) -/
end

/-! ### comparisons -/
/-- the scalars that == tells apart as data does -/
def scal : V → V → Bool
  | .non, .non => true | .non, .int _ => true | .int _, .non => true | .non, .bl _ => true | .bl _, .non => true | .non, .str _ => true | .str _, .non => true
  | .int _, .int _ => true | .bl _, .bl _ => true | .str _, .str _ => true | .byt _, .byt _ => true
  | .int _, .str _ => true | .str _, .int _ => true | .bl _, .str _ => true | .str _, .bl _ => true
  | _, _ => false
inductive rEq_R (x y : V) (H : Hp) (Q : VK) : Prop
  | mk (h : scal x y = true) (k : Q (.bl (decide (x = y))) H) : rEq_R x y H Q
inductive rNe_R (x y : V) (H : Hp) (Q : VK) : Prop
  | mk (h : scal x y = true) (k : Q (.bl (!decide (x = y))) H) : rNe_R x y H Q
def rEq : R2 := fun x y H Q => rEq_R x y H Q
def rNe : R2 := fun x y H Q => rNe_R x y H Q

theorem dec_int {i j : Int} : decide (V.int i = V.int j) = (i == j) := by
  rw [Bool.eq_iff_iff]
  simp
theorem dec_bl {i j : Bool} : decide (V.bl i = V.bl j) = (i == j) := by
  rw [Bool.eq_iff_iff]
  simp
theorem dec_str {i j : Str} : decide (V.str i = V.str j) = (i == j) := by
  rw [Bool.eq_iff_iff]
  simp
theorem dec_byt {i j : Array UInt8} : decide (V.byt i = V.byt j) = (i.toList == j.toList) := by
  rw [Bool.eq_iff_iff]
  cases i
  cases j
  simp

section
variable {X : Cx} {a b c : Expr} {ta tb tc : TE} {pos : Pos}
theorem fin_bl {pins : List (Addr × Obj)} {σ : St} {H : Hp} {s : Shared} {Q : VK} {k k' : Bool} (I : Inv X pins σ H s) (q : Q (.bl k) H) (e : k = k') : EP X pins σ Q (.bool k') s := by
  subst e
  exact ⟨.bl k, H, I, rfl, q⟩
theorem op_eq : OpR X (compareOp .Eq) rEq := by
  intro pins s σ H x y v u Q I rx ry h
  obtain ⟨hs, q⟩ := h
  cases x with
  | non =>
    cases rx
    cases y with
    | non => cases ry; exact PySem.EqNone.eq_none_none (fin_bl I q (by simp))
    | bl j => cases ry; exact PySem.EqNone.eq_none_bool (fin_bl I q (by simp))
    | int j => obtain ⟨t', rfl⟩ := ry; exact PySem.EqNone.eq_none_int (fin_bl I q (by simp))
    | str j => obtain ⟨t', rfl⟩ := ry; exact PySem.EqNone.eq_none_str (fin_bl I q (by simp))
    | _ => exact absurd (show false = true from hs) Bool.false_ne_true
  | bl i =>
    cases rx
    cases y with
    | non => cases ry; exact PySem.EqNone.eq_bool_none (fin_bl I q (by simp))
    | bl j => cases ry; exact eq_bool (fin_bl I q dec_bl)
    | str j => obtain ⟨t', rfl⟩ := ry; exact PySem.EqMixed.eq_bool_str (fin_bl I q (by simp))
    | _ => exact absurd (show false = true from hs) Bool.false_ne_true
  | int i =>
    obtain ⟨t, rfl⟩ := rx
    cases y with
    | non => cases ry; exact PySem.EqNone.eq_int_none (fin_bl I q (by simp))
    | int j => obtain ⟨t', rfl⟩ := ry; exact eq_int (fin_bl I q dec_int)
    | str j => obtain ⟨t', rfl⟩ := ry; exact PySem.EqMixed.eq_int_str (fin_bl I q (by simp))
    | _ => exact absurd (show false = true from hs) Bool.false_ne_true
  | str i =>
    obtain ⟨t, rfl⟩ := rx
    cases y with
    | non => cases ry; exact PySem.EqNone.eq_str_none (fin_bl I q (by simp))
    | bl j => cases ry; exact PySem.EqMixed.eq_str_bool (fin_bl I q (by simp))
    | int j => obtain ⟨t', rfl⟩ := ry; exact PySem.EqMixed.eq_str_int (fin_bl I q (by simp))
    | str j => obtain ⟨t', rfl⟩ := ry; exact eq_str (fin_bl I q dec_str)
    | _ => exact absurd (show false = true from hs) Bool.false_ne_true
  | byt i =>
    obtain ⟨t, rfl⟩ := rx
    cases y with
    | byt j => obtain ⟨t', rfl⟩ := ry; exact PySem.W.eq_bytes (fin_bl I q dec_byt)
    | _ => exact absurd (show false = true from hs) Bool.false_ne_true
  | _ => cases y <;> exact absurd (show false = true from hs) Bool.false_ne_true
theorem op_ne : OpR X (compareOp .NotEq) rNe := by
  intro pins s σ H x y v u Q I rx ry h
  obtain ⟨hs, q⟩ := h
  cases x with
  | non =>
    cases rx
    cases y with
    | non => cases ry; exact PySem.EqNone.ne_none_none (fin_bl I q (by simp))
    | bl j => cases ry; exact PySem.EqNone.ne_none_bool (fin_bl I q (by simp))
    | int j => obtain ⟨t', rfl⟩ := ry; exact PySem.EqNone.ne_none_int (fin_bl I q (by simp))
    | str j => obtain ⟨t', rfl⟩ := ry; exact PySem.EqNone.ne_none_str (fin_bl I q (by simp))
    | _ => exact absurd (show false = true from hs) Bool.false_ne_true
  | bl i =>
    cases rx
    cases y with
    | non => cases ry; exact PySem.EqNone.ne_bool_none (fin_bl I q (by simp))
    | bl j => cases ry; exact ne_bool (fin_bl I q (congrArg not dec_bl))
    | str j => obtain ⟨t', rfl⟩ := ry; exact PySem.EqMixed.ne_bool_str (fin_bl I q (by simp))
    | _ => exact absurd (show false = true from hs) Bool.false_ne_true
  | int i =>
    obtain ⟨t, rfl⟩ := rx
    cases y with
    | non => cases ry; exact PySem.EqNone.ne_int_none (fin_bl I q (by simp))
    | int j => obtain ⟨t', rfl⟩ := ry; exact ne_int (fin_bl I q (congrArg not dec_int))
    | str j => obtain ⟨t', rfl⟩ := ry; exact PySem.EqMixed.ne_int_str (fin_bl I q (by simp))
    | _ => exact absurd (show false = true from hs) Bool.false_ne_true
  | str i =>
    obtain ⟨t, rfl⟩ := rx
    cases y with
    | non => cases ry; exact PySem.EqNone.ne_str_none (fin_bl I q (by simp))
    | bl j => cases ry; exact PySem.EqMixed.ne_str_bool (fin_bl I q (by simp))
    | int j => obtain ⟨t', rfl⟩ := ry; exact PySem.EqMixed.ne_str_int (fin_bl I q (by simp))
    | str j => obtain ⟨t', rfl⟩ := ry; exact ne_str (fin_bl I q (congrArg not dec_str))
    | _ => exact absurd (show false = true from hs) Bool.false_ne_true
  | byt i =>
    obtain ⟨t, rfl⟩ := rx
    cases y with
    | byt j => obtain ⟨t', rfl⟩ := ry; exact PySem.W.ne_bytes (fin_bl I q (congrArg not dec_byt))
    | _ => exact absurd (show false = true from hs) Bool.false_ne_true
  | _ => cases y <;> exact absurd (show false = true from hs) Bool.false_ne_true

theorem op_lt : OpR X (compareOp .Lt) (rI0 fun i j => .bl (decide (i < j))) := opB0 fun _ _ _ _ _ _ _ q => lt_int q
theorem op_le : OpR X (compareOp .LtE) (rI0 fun i j => .bl (decide (i ≤ j))) := opB0 fun _ _ _ _ _ _ _ q => le_int q
theorem op_gt : OpR X (compareOp .Gt) (rI0 fun i j => .bl (decide (j < i))) := opB0 fun _ _ _ _ _ _ _ q => gt_int q
theorem op_ge : OpR X (compareOp .GtE) (rI0 fun i j => .bl (decide (j ≤ i))) := opB0 fun _ _ _ _ _ _ _ q => ge_int q
/-- the one string within the other -/
theorem op_in_str : OpR X (compareOp .In) (fun x y H Q => ∃ i j, x = .str i ∧ y = .str j ∧ Q (.bl (!(Builtin.Str.occurrences j i 0 j.length 1).isEmpty)) H) := by
  intro pins s σ H x y v u Q I rx ry h
  obtain ⟨i, j, rfl, rfl, q⟩ := h
  obtain ⟨t, rfl⟩ := rx
  obtain ⟨t', rfl⟩ := ry
  exact in_str (fin_bl I q rfl)

theorem nomark (b : Expr) {op : CmpOp} (h : op ≠ .In := by decide) (h2 : op ≠ .NotIn := by decide) : behindInMarks op b = false := by
  have e1 : (op == CmpOp.In) = false := by cases op <;> first | rfl | exact absurd rfl h
  have e2 : (op == CmpOp.NotIn) = false := by cases op <;> first | rfl | exact absurd rfl h2
  cases b <;> simp [behindInMarks, e1, e2]
/-- a comparison as a value; hm: nomark b, or (for in, not in) by with_unfolding_all rfl -/
theorem pe_cmpR {op : CmpOp} {r : R2} (ho : OpR X (compareOp op) r) (ha : PE X a ta) (hb : PE X b tb) (hm : behindInMarks op b = false) : PE X (.Compare a [op] [b] pos) (tOp r ta tb) := by
  intro pins s σ H Q I h
  exact wpAny_Compare1 (binT ha hb I h fun v u s2 x y H2 I2 rx ry q => ho pins s2 σ H2 x y v u Q I2 rx ry q) hm
/-- a reading of a value as a test -/
def tTest (t : TE) : TT := fun σ H Q => t σ H fun x H' => BoolR x H' Q
theorem pt_cmpR {op : CmpOp} {r : R2} (ho : OpR X (compareOp op) r) (ha : PE X a ta) (hb : PE X b tb) (hm : behindInMarks op b = false) : PT X (.Compare a [op] [b] pos) (tTest (tOp r ta tb)) := by
  intro pins s σ H Q I h
  refine wpAny_isTrue_Compare1 (thn (ha pins s σ H _ I h) fun v s1 ⟨x, H1, I1, r1, q1⟩ => thn (hb pins s1 σ H1 _ I1 q1) fun u s2 ⟨y, H2, I2, r2, q2⟩ =>
    thn (ho pins s2 σ H2 x y v u _ I2 r1 r2 q2) fun c s3 ⟨z, H3, I3, r3, k, e, q3⟩ => ?_) hm
  subst e
  cases r3
  exact wpAny_truthy_bool ⟨H3, I3, q3⟩
/-- a op1 b op2 c -/
def tChain (r r' : R2) (ta tb tc : TE) : TE := fun σ H Q => ta σ H fun x H1 => tb σ H1 fun y H2 => r x y H2 fun z H3 => ∃ k, z = .bl k ∧
  (if k = true then tc σ H3 fun w' H4 => r' y w' H4 Q else Q (.bl false) H3)
theorem pe_chain {op op' : CmpOp} {r r' : R2} (ho : OpR X (compareOp op) r) (ho' : OpR X (compareOp op') r') (ha : PE X a ta) (hb : PE X b tb) (hc : PE X c tc)
    (hm : lastMarks [op, op'] [b, c] = false := by with_unfolding_all rfl) : PE X (.Compare a [op, op'] [b, c] pos) (tChain r r' ta tb tc) := by
  intro pins s σ H Q I h
  refine Compare_chain (thn (ha pins s σ H _ I h) fun v s1 ⟨x, H1, I1, r1, q1⟩ => chain_link (thn (hb pins s1 σ H1 _ I1 q1) fun u s2 ⟨y, H2, I2, r2, q2⟩ =>
    thn (ho pins s2 σ H2 x y v u _ I2 r1 r2 q2) fun d s3 ⟨z, H3, I3, r3, k, e, q3⟩ => ?_)) hm
  subst e
  cases r3
  refine wpAny_truthy_bool ?_
  cases k with
  | false => exact ite_ff ⟨.bl false, H3, I3, rfl, q3⟩
  | true => exact ite_tt (chain_last (thn (hc pins s3 σ H3 _ I3 q3) fun w' s4 ⟨z', H4, I4, r4, q4⟩ => ho' pins s4 σ H4 y z' u w' Q I4 r2 r4 q4))
theorem pt_chain {op op' : CmpOp} {r r' : R2} (ho : OpR X (compareOp op) r) (ho' : OpR X (compareOp op') r') (ha : PE X a ta) (hb : PE X b tb) (hc : PE X c tc)
    (hm : lastMarks [op, op'] [b, c] = false := by with_unfolding_all rfl) : PT X (.Compare a [op, op'] [b, c] pos) (tTest (tChain r r' ta tb tc)) := by
  intro pins s σ H Q I h
  refine isTrue_chain (thn (ha pins s σ H _ I h) fun v s1 ⟨x, H1, I1, r1, q1⟩ => test_link (thn (hb pins s1 σ H1 _ I1 q1) fun u s2 ⟨y, H2, I2, r2, q2⟩ =>
    thn (ho pins s2 σ H2 x y v u _ I2 r1 r2 q2) fun d s3 ⟨z, H3, I3, r3, k, e, q3⟩ => ?_)) hm
  subst e
  cases r3
  refine wpAny_truthy_bool ?_
  cases k with
  | false =>
    obtain ⟨k', e', q'⟩ := q3
    cases e'
    exact ite_ff ⟨H3, I3, q'⟩
  | true =>
    refine ite_tt (test_last (thn (hc pins s3 σ H3 _ I3 q3) fun w' s4 ⟨z', H4, I4, r4, q4⟩ => thn (ho' pins s4 σ H4 y z' u w' _ I4 r2 r4 q4) fun d' s5 ⟨z2, H5, I5, r5, k2, e2, q5⟩ => ?_))
    subst e2
    cases r5
    exact wpAny_truthy_bool ⟨H5, I5, q5⟩

/-! ### truth -/
/-- a value's truth by the abstract heap -/
def TruV (K : PySem.W.Frag) (x : V) (H : Hp) (k : Bool) : Prop :=
  match x with
  | .non => k = false
  | .bl b => k = b
  | .int i => k = (i != 0)
  | .str y => y.length ≤ sizeLine ∧ k = ((y.length : Int) != 0)
  | .byt y => y.size ≤ sizeLine ∧ k = ((y.size : Int) != 0)
  | .ref p => (∃ xs, SqL K H p xs ∧ k = !xs.isEmpty) ∨ (∃ xs, SqT K H p xs ∧ k = !xs.isEmpty) ∨ ∃ kvs, H p = some (.dK kvs) ∧ k = !kvs.isEmpty
  | _ => False
theorem isEmpty_kv {κ : Type} {kvs : List (κ × V)} {vs : List (κ × Value)} (r : KV kvs vs) : (!vs.isEmpty) = !kvs.isEmpty := by
  cases r <;> rfl
theorem isEmpty_of {xs : List V} {its : List Value} (r : Vals xs its) : (!its.toArray.isEmpty) = !xs.isEmpty := by
  cases r <;> simp
theorem line63 : (sizeLine : Nat) < 2 ^ 63 := by rw [sizeLine_eq]; decide
theorem tru_ok : TruR X (fun x H Q => ∃ k, TruV X.K x H k ∧ Q k H) := by
  intro pins s σ H x v Q I rx h
  obtain ⟨k, e, q⟩ := h
  have hl := line63
  have hs : sizeLine = 16777216 := sizeLine_eq
  cases x with
  | non =>
    cases rx
    have e' : k = false := e
    subst e'
    exact truthy_none ⟨H, I, q⟩
  | bl b =>
    cases rx
    have e' : k = b := e
    subst e'
    exact wpAny_truthy_bool ⟨H, I, q⟩
  | int i =>
    obtain ⟨t, rfl⟩ := rx
    have e' : k = (i != 0) := e
    subst e'
    exact PySem.P.truthy_int ⟨H, I, q⟩
  | str y =>
    obtain ⟨t, rfl⟩ := rx
    obtain ⟨hy, e'⟩ : y.length ≤ sizeLine ∧ k = ((y.length : Int) != 0) := e
    subst e'
    exact PySem.P.truthy_str (by omega) ⟨H, I.tok _, q⟩
  | byt y =>
    obtain ⟨t, rfl⟩ := rx
    obtain ⟨hy, e'⟩ : y.size ≤ sizeLine ∧ k = ((y.size : Int) != 0) := e
    subst e'
    exact PySem.W.truthy_bytes (by omega) ⟨H, I.tok _, q⟩
  | ref p =>
    cases rx
    have e' : (∃ xs, SqL X.K H p xs ∧ k = !xs.isEmpty) ∨ (∃ xs, SqT X.K H p xs ∧ k = !xs.isEmpty) ∨ ∃ kvs, H p = some (.dK kvs) ∧ k = !kvs.isEmpty := e
    rcases e' with ⟨xs, hx, e'⟩ | ⟨xs, hx, e'⟩ | ⟨kvs, hx, e'⟩
    · subst e'
      obtain ⟨its, r, pl, hz⟩ := I.list hx
      have hlen := r.length
      exact wpAny_truthy_list pl.isList (by simp only [List.size_toArray]; omega) ⟨H, I.tok _, by rw [isEmpty_of r]; exact q⟩
    · subst e'
      obtain ⟨its, r, pl, hz⟩ := I.tuple hx
      have hlen := r.length
      exact truthy_tuple pl (by simp only [List.size_toArray]; omega) ⟨H, I.tok _, by rw [isEmpty_of r]; exact q⟩
    · subst e'
      obtain ⟨hz, hS, vs, r, m⟩ : kvs.length ≤ sizeLine ∧ (p == sysModules) = false ∧ ∃ vs, KV kvs vs ∧ s.heap.DictOf (mixKind X.prog X.w) p vs := I.hok p _ hx
      have hlen : kvs.length = vs.length := Paired.length r
      exact wpAny_truthy_dict hS m (by omega) ⟨H, I.tok _, by rw [isEmpty_kv r]; exact q⟩
  | _ => exact (show False from e).elim
/-- any expression whose test is its value's truth (a name, a call, a subscript, a field ..: he by fun _ => rfl) -/
theorem pt_truth (ha : PE X a ta) (he : ∀ whole, isTrue a X.env whole = (do let v ← whole; standAt a.pos; holding [v] (truthy v))) :
    PT X a (fun σ H Q => ta σ H fun x H' => ∃ k, TruV X.K x H' k ∧ Q k H') := by
  intro pins s σ H Q I h
  exact isTrue_plain (thn (ha pins s σ H _ I h) fun v s1 ⟨x, H1, I1, r1, q1⟩ => tru_ok pins s1 σ H1 x v Q I1 r1 q1) (he _)

/-! ### strs and bytes -/
theorem op_add_str : OpR X (binaryOp .Add) (fun x y H Q => ∃ i j, x = .str i ∧ y = .str j ∧ i.length + j.length ≤ sizeLine ∧ Q (.str (i ++ j)) H) := by
  intro pins s σ H x y v u Q I rx ry h
  obtain ⟨i, j, rfl, rfl, hz, q⟩ := h
  obtain ⟨t, rfl⟩ := rx
  obtain ⟨t', rfl⟩ := ry
  exact add_str (fun t' tk => ⟨.str (i ++ j), H, I.tok _, ⟨_, rfl⟩, q⟩) hz
/-! ### scalar builtins, by CallR -/
theorem vals1 {x : V} {us : List Value} (r : Vals [x] us) : ∃ u, us = [u] ∧ RelV x u := by
  cases r with
  | cons r1 r2 => cases r2; exact ⟨_, rfl, r1⟩
theorem vals2 {x y : V} {us : List Value} (r : Vals [x, y] us) : ∃ u w', us = [u, w'] ∧ RelV x u ∧ RelV y w' := by
  cases r with
  | cons r1 r2 =>
    cases r2 with
    | cons r3 r4 => cases r4; exact ⟨_, _, rfl, r1, r3⟩
theorem call_int1 : CallR X (.type "int") (fun xs H Q => (∃ i, xs = [.int i] ∧ Q (.int i) H) ∨ ∃ k, xs = [.bl k] ∧ Q (.int (if k then 1 else 0)) H) := by
  intro pins s σ H xs us Q I r h
  rcases h with ⟨i, rfl, q⟩ | ⟨k, rfl, q⟩
  · obtain ⟨u, rfl, t, rfl⟩ := vals1 r
    exact call_int_int ⟨.int i, H, I, ⟨_, rfl⟩, q⟩
  · obtain ⟨u, rfl, r1⟩ := vals1 r
    cases r1
    exact call_int_bool ⟨.int (if k then 1 else 0), H, I.tok _, ⟨_, rfl⟩, q⟩
theorem call_str_int : CallR X (.type "str") (fun xs H Q => ∃ i, xs = [.int i] ∧ i.natAbs.log2 < 1920 ∧ Q (.str (toString i)) H) := by
  intro pins s σ H xs us Q I r h
  obtain ⟨i, rfl, hz, q⟩ := h
  obtain ⟨u, rfl, t, rfl⟩ := vals1 r
  exact PySem.P.str_of_int hz ⟨.str _, H, I.tok _, ⟨_, rfl⟩, q⟩
end
end L2

namespace L2
open PySem PySem.Spec PyProof.Rows

/-! ### an instance, its attributes a map -/
structure ObjM (h : Heap) (x dx C : Addr) (mA : Str → Option Value) : Prop where
  obj : h.get? x = some (PySem.W.instObj C dx)
  ns : h.Ns1 dx mA
  ne : dx ≠ x

theorem lookIn_ns {h : Heap} {dx : Addr} {mA : Str → Option Value} (n : h.Ns1 dx mA) : ∃ od, h.get? dx = some od ∧ ∀ name, PySem.W.lookIn name od = some (mA name) := by
  obtain ⟨o, es, ep, ho, hd, hk, _, hm⟩ := n
  refine ⟨o, ho, fun name => ?_⟩
  have e := hm name
  unfold nsFind findBy at e
  rw [← Array.find?_toList] at e
  unfold PySem.W.lookIn
  rw [hd]
  dsimp only
  split
  · rename_i y q
    rw [q] at e
    exact congrArg some e
  · rename_i q
    rw [q] at e
    have a : es.toList.any (·.refKey) = false := by
      rw [List.any_eq_false]
      intro y hy
      obtain ⟨z, t, hkey⟩ := hk y (Array.mem_toList_iff.mp hy)
      simp [DictEntry.refKey, hkey]
    have a' : ¬ es.toList.any (·.refKey) = true := by rw [a]; exact Bool.false_ne_true
    rw [if_neg a']
    exact congrArg some e

theorem ObjM.look {h : Heap} {x dx C : Addr} {mA : Str → Option Value} (I : ObjM h x dx C mA) : ∃ od, PySem.W.InstAt h x (PySem.W.instObj C dx) C (some od) ∧ ∀ name, PySem.W.lookIn name od = some (mA name) :=
  let ⟨od, ho, hl⟩ := lookIn_ns I.ns
  ⟨od, ⟨I.obj, rfl, rfl, ho⟩, hl⟩

section
variable {prog : Program} {w : World} {A : Around} {E : Value → Shared → Prop} {s : Shared} {K : PySem.W.Frag} {x dx C f : Addr} {mA : Str → Option Value} {name : Str} {v : Value}

theorem get_map {expr : Bool} {Q : Value → Shared → Prop} (X : K.In s.heap) (I : ObjM s.heap x dx C mA) (hg : PySem.W.plainGet K C name = true) (hh : PySem.W.hasDictIn K C = true)
    (ha : PySem.W.findIn K (.ref C) name = some none) (hv : mA name = some v) (hv' : PySem.W.handedIn v = true) (h : Q v { s with toks := s.toks + 1 }) :
    wpAny (model prog w) A (getAttr (.ref x) name expr) Q E s := by
  obtain ⟨od, J, hl⟩ := I.look
  exact PySem.W.get_value X J (PySem.W.plainGet_of hg).1 (PySem.W.findObj_own hh ha rfl (by rw [hl, hv])) hv' h

theorem get_meth {pl : Sem Bool} {Q : Value × List Value → Shared → Prop} (X : K.In s.heap) (I : ObjM s.heap x dx C mA) (hg : PySem.W.plainGet K C name = true)
    (hf : PySem.W.findIn K (.ref C) name = some (some (.ref f))) (ht : PySem.W.isFn K (.ref f) = true) (hv : mA name = none) (h : Q (.ref f, [.ref x]) s) :
    wpAny (model prog w) A (getMethod (.ref x) name pl) Q E s := by
  obtain ⟨od, J, hl⟩ := I.look
  exact PySem.W.method_fn X J (PySem.W.plainGet_of hg).1 (PySem.W.plainGet_of hg).2 hf (beq_iff_eq.mp ht) (by show (PySem.W.lookIn name od).map (·.isSome) = some false; rw [hl, hv]; rfl) h

theorem set_map {ns : List Str} {Q : Unit → Shared → Prop} (X : K.In s.heap) (I : ObjM s.heap x dx C mA)
    (hs : PySem.W.findIn K (.ref C) "__setattr__" = some (some (.builtin "object.__setattr__"))) (hp : PySem.W.plainOver K C = true) (ht : PySem.W.takerIn K C name = some none) (hh : PySem.W.hasDictIn K C = true)
    (hw : PySem.Within mA ns) (hsz : ns.length ≤ sizeLine)
    (h : ∀ h', ObjM h' x dx C (fun y => if y = name then some v else mA y) → Heap.SameBut dx s.heap h' → Q () { s with heap := h', toks := s.toks + 2 }) :
    wpAny (model prog w) A (setAttr (.ref x) name v) Q E s := by
  obtain ⟨od, J, hl⟩ := I.look
  refine PySem.W.set_plain X J hs (PySem.W.osa_open (s := { s with toks := s.toks + 1 }) (r := none) X J hp ht fun b => ?_)
  obtain ⟨cd, hc, hd'⟩ := PySem.W.any_some hh
  have hx : s.heap.get? x = some ⟨.ref C, some dx, .plain, #[]⟩ := I.obj
  refine wpAny_bind (wpAny_pure (wpAny_bind (wpAny_bind (wpAny_loadPart hx (wpAny_bind (PySem.W.Looks.here (s := { s with toks := s.toks + 1 }) (PySem.W.looks_clsIn X hc) ?_))))))
  rw [hd']
  refine wpAny_pure (a := some dx) (wpAny_bind (wpAny_pure (wpAny_bind ?_)))
  refine wpAny_nsSet1 (s := { s with toks := s.toks + 1 }) I.ns fun h' hn2 hs2 => ?_
  obtain ⟨oD, esD, epD, hoD, hdD, hcD⟩ := hn2.count (PySem.Within.cons name v hw)
  refine wpAny_bind (wpAny_lookBehind hoD (by rw [hdD]; exact pastItsLine_dict (Nat.le_trans hcD (by rw [List.length_cons]; omega))) ?_)
  exact wpAny_pure (h _ ⟨(hs2.2 _ (Ne.symm I.ne)).trans I.obj, hn2, I.ne⟩ hs2)

/-- C(..): the dict at the heap's end, the instance behind it; then its __init__ -/
theorem make_map {R : Result → Shared → Prop} {vs : List Value} {kw : List (Str × Value)} (X : K.In s.heap) (hm : PySem.W.makesIn K C = true)
    (hi : PySem.W.findIn K (.ref C) "__init__" = some (some (.ref f))) (hf : PySem.W.typeIn K (.ref f) = some (.type "function"))
    (h : codeAny (model prog w) (A.under (.builtin "type.__call__" ⟨.ref C :: vs, kw⟩)) (.call (.ref f) ⟨.ref (s.heap.objs.size + 1) :: vs, kw⟩) (PySem.W.InitBack (s.heap.objs.size + 1) R)
      { s with heap := (s.heap.push PySem.W.emptyDict).push (PySem.W.instObj C s.heap.objs.size) }) :
    codeAny (model prog w) A (.call (.ref C) ⟨vs, kw⟩) R s := by
  obtain ⟨hh, g, d, t, os⟩ := s
  exact PySem.W.make_core (PySem.W.makes_of X hm) (PySem.W.looks_findIn X hi) (fun self => PySem.W.bind_fn X self hf) (.inl rfl) h
end

/-! ### the attributes as a list of pairs -/
def putF (f : Str) (v : V) : List (Str × V) → List (Str × V)
  | [] => [(f, v)]
  | (g, x) :: r => if g = f then (g, v) :: r else (g, x) :: putF f v r
theorem lookup_putF (f g : Str) (v : V) : ∀ fs : List (Str × V), (putF f v fs).lookup g = if g = f then some v else fs.lookup g
  | [] => by
    show List.lookup g [(f, v)] = _
    by_cases h : g = f
    · have hb : (g == f) = true := beq_iff_eq.mpr h
      simp only [List.lookup, hb, if_pos h]
    · have hb : (g == f) = false := beq_eq_false_iff_ne.mpr h
      simp only [List.lookup, hb, if_neg h]
  | (k, x) :: r => by
    have ih := lookup_putF f g v r
    rw [show putF f v ((k, x) :: r) = (if k = f then (k, v) :: r else (k, x) :: putF f v r) from rfl]
    by_cases hk : k = f
    · rw [if_pos hk]
      by_cases h : g = k
      · have hb : (g == k) = true := beq_iff_eq.mpr h
        simp only [List.lookup, hb, if_pos (h.trans hk)]
      · have hb : (g == k) = false := beq_eq_false_iff_ne.mpr h
        simp only [List.lookup, hb, if_neg (fun e : g = f => h (e.trans hk.symm))]
    · rw [if_neg hk]
      by_cases h : g = k
      · have hb : (g == k) = true := beq_iff_eq.mpr h
        simp only [List.lookup, hb, if_neg (fun e : g = f => hk (h.symm.trans e))]
      · have hb : (g == k) = false := beq_eq_false_iff_ne.mpr h
        simp only [List.lookup, hb]
        exact ih
theorem keys_putF (f : Str) (v : V) : ∀ fs : List (Str × V), f ∈ (putF f v fs).map (·.1) ∧ ∀ g, g ∈ fs.map (·.1) → g ∈ (putF f v fs).map (·.1)
  | [] => ⟨by simp [putF], fun g h => by simp at h⟩
  | (k, x) :: r => by
    obtain ⟨i1, i2⟩ := keys_putF f v r
    rw [show putF f v ((k, x) :: r) = (if k = f then (k, v) :: r else (k, x) :: putF f v r) from rfl]
    by_cases hk : k = f
    · rw [if_pos hk]
      subst hk
      exact ⟨by simp, fun g h => by simpa using h⟩
    · rw [if_neg hk]
      refine ⟨?_, fun g h => ?_⟩
      · rw [List.map_cons]
        exact List.mem_cons_of_mem _ i1
      · rw [List.map_cons] at h ⊢
        rcases List.mem_cons.mp h with e | e
        · exact List.mem_cons.mpr (.inl e)
        · exact List.mem_cons_of_mem _ (i2 g e)
theorem length_putF (f : Str) (v : V) : ∀ fs : List (Str × V), (putF f v fs).length ≤ fs.length + 1
  | [] => by simp [putF]
  | (k, x) :: r => by
    have ih := length_putF f v r
    rw [show putF f v ((k, x) :: r) = (if k = f then (k, v) :: r else (k, x) :: putF f v r) from rfl]
    by_cases hk : k = f
    · rw [if_pos hk, List.length_cons, List.length_cons]; omega
    · rw [if_neg hk, List.length_cons, List.length_cons]; omega

theorem RelO.some_of {v : V} {o : Option Value} (r : RelO (some v) o) : ∃ u, o = some u ∧ RelV v u := by
  cases o with
  | none => exact (show False from r).elim
  | some u => exact ⟨u, rfl, r⟩
theorem RelO.none_of {o : Option Value} (r : RelO none o) : o = none := by
  cases o with
  | none => rfl
  | some u => exact (show False from r).elim
theorem handed_of {v : V} {u : Value} (r : RelV v u) : PySem.W.handedIn u = true := by
  cases v with
  | non => cases (show u = Value.none from r); rfl
  | bl b => cases (show u = Value.bool b from r); rfl
  | int i => obtain ⟨t, e⟩ := (show ∃ t, u = Value.int i t from r); cases e; rfl
  | str x => obtain ⟨t, e⟩ := (show ∃ t, u = Value.str x t from r); cases e; rfl
  | byt b => obtain ⟨t, e⟩ := (show ∃ t, u = Value.bytes b t from r); cases e; rfl
  | flt b => obtain ⟨t, e⟩ := (show ∃ t, u = Value.float b t from r); cases e; rfl
  | ref a => cases (show u = Value.ref a from r); rfl
  | ty n => cases (show u = Value.type n from r); rfl

section
variable {P : Program} {w : World} {H H' : Hp} {h h' : Heap} {a C dx : Addr} {fs fs' : List (Str × V)}
theorem ins_get (hok : HOk P w H h) (e : H a = some (.ins C dx fs)) : ∃ mA, ObjM h a dx C mA ∧ (∀ f, RelO (fs.lookup f) (mA f)) ∧ PySem.Within mA (fs.map (·.1)) ∧ fs.length ≤ 1000 ∧ H dx = some (.own a) := by
  obtain ⟨d, z, ne, ob, mA, n, r, q⟩ := (show ObjOk P w H h a (.ins C dx fs) from hok a _ e)
  exact ⟨mA, ⟨ob, n, ne⟩, r, q, z, d⟩
end

/-! ### what of the text a class must have -/
structure Cls (K : PySem.W.Frag) (C : Addr) : Prop where
  pg : PySem.W.plainGet K C Str.empty = true
  hd : PySem.W.hasDictIn K C = true
  po : PySem.W.plainOver K C = true
  sa : PySem.W.findIn K (.ref C) "__setattr__" = some (some (.builtin "object.__setattr__"))
theorem Cls.get {K : PySem.W.Frag} {C : Addr} (c : Cls K C) (f : Str) : PySem.W.plainGet K C f = true := c.pg
/-- no class of it has the name -/
def NoAttr (K : PySem.W.Frag) (C : Addr) (f : Str) : Prop := PySem.W.findIn K (.ref C) f = some none
theorem NoAttr.taker {K : PySem.W.Frag} {C : Addr} {f : Str} (n : NoAttr K C f) : PySem.W.takerIn K C f = some none := by
  unfold PySem.W.takerIn
  rw [show PySem.W.findIn K (.ref C) f = some none from n]
  rfl
/-- a constant of the class -/
structure Con (K : PySem.W.Frag) (C : Addr) (f : Str) (v : V) (u : Value) : Prop where
  at_ : PySem.W.findIn K (.ref C) f = some (some u)
  rel : RelV v u
  get : PySem.W.specialIn K u "__get__" = some none
  cp : PySem.W.copiedNames.contains f = false
/-- a method: a plain def of the class or of one above it -/
structure Meth (K : PySem.W.Frag) (C : Addr) (m : Str) (f : Addr) : Prop where
  at_ : PySem.W.findIn K (.ref C) m = some (some (.ref f))
  fn : PySem.W.isFn K (.ref f) = true
  kp : PySem.W.keepIn K (.ref f) = true

section
variable {X : Cx} {pins : List (Addr × Obj)} {σ : St} {H : Hp} {s : Shared} {a C dx : Addr} {fs : List (Str × V)} {f : Str} {v : V} {A : Around} {E : Value → Shared → Prop}

theorem getattr_ok {b : Bool} {Q : Value → Shared → Prop} (I : Inv X pins σ H s) (e : H a = some (.ins C dx fs)) (c : Cls X.K C) (n : NoAttr X.K C f) (l : fs.lookup f = some v)
    (h : ∀ u s', Inv X pins σ H s' → RelV v u → Q u s') : wpAny (model X.prog X.w) A (getAttr (.ref a) f b) Q E s := by
  obtain ⟨mA, O, r, _, _, _⟩ := ins_get I.hok e
  obtain ⟨u, hu, ru⟩ := RelO.some_of (v := v) (o := mA f) (by rw [← l]; exact r f)
  exact get_map I.kIn O (c.get f) c.hd n hu (handed_of ru) (h u _ (I.tok _) ru)

theorem getmeth_ok {m : Str} {g : Addr} {pl : Sem Bool} {Q : Value × List Value → Shared → Prop} (I : Inv X pins σ H s) (e : H a = some (.ins C dx fs)) (c : Cls X.K C) (k : Meth X.K C m g) (l : fs.lookup m = none)
    (h : Q (.ref g, [.ref a]) s) : wpAny (model X.prog X.w) A (getMethod (.ref a) m pl) Q E s := by
  obtain ⟨mA, O, r, _, _, _⟩ := ins_get I.hok e
  have hn : mA m = none := RelO.none_of (by rw [← l]; exact r m)
  exact get_meth I.kIn O (c.get m) k.at_ k.fn hn h

theorem setattr_ok {y : V} {u : Value} {Q : Unit → Shared → Prop} (I : Inv X pins σ H s) (e : H a = some (.ins C dx fs)) (c : Cls X.K C) (n : NoAttr X.K C f) (hl : fs.length < 1000) (ry : RelV y u)
    (h : ∀ s', Inv X pins σ (upd H a (.ins C dx (putF f y fs))) s' → Q () s') : wpAny (model X.prog X.w) A (setAttr (.ref a) f u) Q E s := by
  obtain ⟨mA, O, r, wi, _, ho⟩ := ins_get I.hok e
  have hz : (fs.map (·.1)).length ≤ sizeLine := by rw [List.length_map, sizeLine_eq]; omega
  refine set_map I.kIn O c.sa c.po n.taker c.hd wi hz fun h' O' sb => h _ ?_
  have hd : ∃ o, h'.get? dx = some o := let ⟨o, _, _, e', _⟩ := O'.ns; ⟨o, e'⟩
  refine I.write (x := a) (e := dx) (by rw [e]; exact True.intro) (.inr ho) (fun b q hb z => (sb.2 b hb).trans z) hd ?_
  refine ⟨by rw [upd_ne O.ne]; exact ho, ?_, O.ne, O'.obj, _, O'.ns, fun g => ?_, fun g hg => ?_⟩
  · have := length_putF f y fs; omega
  · show RelO ((putF f y fs).lookup g) (if g = f then some u else mA g)
    rw [lookup_putF]
    by_cases q : g = f
    · rw [if_pos q, if_pos q]; exact ry
    · rw [if_neg q, if_neg q]; exact r g
  · by_cases q : g = f
    · rw [q]; exact (keys_putF f y fs).1
    · refine (keys_putF f y fs).2 g (wi g fun z => hg ?_)
      show (if g = f then some u else mA g) = none
      rw [if_neg q]; exact z

/-- a new instance, tracked, without attributes -/
theorem Inv.made (I : Inv X pins σ H s) : Inv X pins σ (upd (upd H s.heap.objs.size (.own (s.heap.objs.size + 1))) (s.heap.objs.size + 1) (.ins C s.heap.objs.size []))
    { s with heap := (s.heap.push PySem.W.emptyDict).push (PySem.W.instObj C s.heap.objs.size) } := by
  have e1 : (s.heap.push PySem.W.emptyDict).get? s.heap.objs.size = some PySem.W.emptyDict := Heap.get?_push_size s.heap rfl
  have e2 : ((s.heap.push PySem.W.emptyDict).push (PySem.W.instObj C s.heap.objs.size)).get? (s.heap.objs.size + 1) = some (PySem.W.instObj C s.heap.objs.size) := by
    have := Heap.get?_push_size (s.heap.push PySem.W.emptyDict) (o := PySem.W.instObj C s.heap.objs.size) rfl
    rwa [Heap.size_push] at this
  have e3 : (s.heap.push PySem.W.emptyDict).Ns s.heap.objs.size (fun _ => none) := ⟨PySem.W.emptyDict, #[], _, e1, rfl, (fun e he => absurd he (by simp)), fun _ => rfl⟩
  have I1 := I.laid (a := s.heap.objs.size) (o := .own (s.heap.objs.size + 1)) (h' := s.heap.push PySem.W.emptyDict) (t' := s.toks) (fun b u q => Heap.get?_push_of_some _ q) (Nat.le_refl _) ⟨_, e1⟩
  refine I1.laid (a := s.heap.objs.size + 1) (o := .ins C s.heap.objs.size []) (t' := s.toks) (fun b u q => Heap.get?_push_of_some _ q) (Nat.le_of_eq (Heap.size_push _ _)) ?_
  have ne : s.heap.objs.size ≠ s.heap.objs.size + 1 := Nat.ne_of_lt (Nat.lt_succ_self _)
  refine ⟨by rw [upd_ne ne, upd_same], Nat.zero_le _, ne, e2, fun _ => none, (Heap.Ns1.of_empty e3).at fun o q => Heap.get?_push_of_some _ q, fun _ => True.intro, fun y hy => absurd rfl hy⟩

/-- e.f where nothing but the object is asked: through attributeBase (super) and the last hold -/
theorem attr_of {prog : Program} {w : World} {env : Env} {e : Expr} {f : Str} {pos : Pos} {s : Shared} {Q : Value → Shared → Prop} (hb : attributeBase e f env (eval e env) = eval e env)
    (h : wpAny (model prog w) A (eval e env) (fun o s₁ => wpAny (model prog w) A (getAttr o f true) Q E s₁) E s) : wpAny (model prog w) A (eval (.Attribute e f pos) env) Q E s :=
  Attribute_any_ h (by rw [arm_eval_Attribute, hb])
end

/-! ### readings and rules -/
/-- e.f, an attribute of the instance -/
inductive FldR (K : PySem.W.Frag) (f : Str) (x : V) (H : Hp) (Q : VK) : Prop
  | mk (a C dx : Addr) (fs : List (Str × V)) (v : V) (h1 : x = .ref a) (h2 : H a = some (.ins C dx fs)) (h3 : Cls K C) (h4 : NoAttr K C f) (h5 : fs.lookup f = some v) (k : Q v H) : FldR K f x H Q
def tFld (K : PySem.W.Frag) (ta : TE) (f : Str) : TE := fun σ H Q => ta σ H fun x H1 => FldR K f x H1 Q
/-- e.f = value -/
def sFld (K : PySem.W.Frag) (ta tv : TE) (f : Str) : TS := fun D σ H => tv σ H fun y H1 => ta σ H1 fun x H2 => ∃ a C dx fs, x = .ref a ∧ H2 a = some (.ins C dx fs) ∧ Cls K C ∧ NoAttr K C f ∧ fs.length < 1000 ∧
  D.nx σ (upd H2 a (.ins C dx (putF f y fs)))
section
variable {X : Cx} {o e value : Expr} {f : Str} {pos pos' tpos : Pos} {ta tv : TE}
theorem pe_fld (he : PE X e ta) (hb : attributeBase e f X.env (eval e X.env) = eval e X.env) : PE X (.Attribute e f pos) (tFld X.K ta f) := by
  intro pins s σ H Q I h
  refine attr_of hb (thn (he pins s σ H _ I h) fun u s1 ⟨x, H1, I1, rx, a, C, dx, fs, v, ex, ea, c, n, l, q⟩ => ?_)
  subst ex
  obtain rfl : u = Value.ref a := rx
  exact getattr_ok I1 ea c n l fun u' s2 I2 ru => ⟨v, H1, I2, ru, q⟩
theorem ps_fld (ha : PE X o ta) (hv : PE X value tv) (hs : swapsWith value (some (.Attribute o f pos')) pos.line X.env = pure false) : PS X (.Assign [.Attribute o f pos'] value pos) (sFld X.K ta tv f) := by
  intro pins s σ H D I h
  refine plainObj_wpAny_Assign_Attribute (thn (hv pins s σ H _ I h) fun u s1 ⟨y, H1, I1, ry, q⟩ => thn (ha pins s1 σ H1 _ I1 q) fun ov s2 ⟨x, H2, I2, rx, a, C, dx, fs, ex, ea, c, n, l, q2⟩ => ?_) hs
  subst ex
  obtain rfl : ov = Value.ref a := rx
  exact setattr_ok I2 ea c n l ry fun s3 I3 => ⟨σ, _, I3, q2⟩
/-- what is between an instance and its method: the tree of a method call -/
theorem methcall_of {pl : Sem Bool} {m : Str} {apos : Pos} {args : List Expr} {pins : List (Addr × Obj)} {s : Shared} {σ : St} {H : Hp} {Q : Value → Shared → Prop} {te : TE} (he : PE X e te) (I : Inv X pins σ H s)
    (h : te σ H fun x H1 => ∃ a C dx fs g, x = .ref a ∧ H1 a = some (.ins C dx fs) ∧ Cls X.K C ∧ Meth X.K C m g ∧ fs.lookup m = none ∧
      ∀ s1, Inv X pins σ H1 s1 → wpAny (model X.prog X.w) X.A (callWith pos (.ref g) [.ref a] (backTo pos (starEach args X.env)) (backToKw pos (keywordEach [] X.env))) Q X.xe s1)
    (ht : eval (.Call (.Attribute e m apos) args [] pos) X.env = (do
      let ov ← eval e X.env
      standAt apos.atName
      let (f, first) ← holding [ov] (getMethod ov m pl)
      callWith pos f first (backTo pos (starEach args X.env)) (backToKw pos (keywordEach [] X.env)))) :
    wpAny (model X.prog X.w) X.A (eval (.Call (.Attribute e m apos) args [] pos) X.env) Q X.xe s := by
  refine PySem.W.methodCall_KW (pl := pl) (thn (he pins s σ H _ I h) fun u s1 ⟨x, H1, I1, rx, a, C, dx, fs, g, ex, ea, c, k, l, q⟩ => ?_) ht
  subst ex
  obtain rfl : u = Value.ref a := rx
  exact getmeth_ok I1 ea c k l (q s1 I1)
end

/-! ### isinstance -/
section
variable {X : Cx} {pins : List (Addr × Obj)} {σ : St} {H : Hp} {s : Shared} {A : Around} {E : Value → Shared → Prop} {Q : Value → Shared → Prop} {c : Value} {b : Bool}
/-- the type of a value, as the fragment's deciders take it; for an instance its class -/
inductive TyOf (K : PySem.W.Frag) (H : Hp) : V → Value → Prop where
  | non : TyOf K H .non (.type "NoneType")
  | bl (x : Bool) : TyOf K H (.bl x) (.type "bool")
  | int (i : Int) : TyOf K H (.int i) (.type "int")
  | str (x : Str) : TyOf K H (.str x) (.type "str")
  | flt (x : UInt64) : TyOf K H (.flt x) (.type "float")
  | lst {a : Addr} {xs : List V} (e : H a = some (.lst xs)) : TyOf K H (.ref a) (.type "list")
  | frz {a : Addr} {o : Obj} {xs : List V} (e : H a = some (.frz o (.lst xs))) : TyOf K H (.ref a) (.type "list")
  | tup {a : Addr} {xs : List V} (e : H a = some (.tup xs)) : TyOf K H (.ref a) (.type "tuple")
  | dK {a : Addr} {kvs : List (Key × V)} (e : H a = some (.dK kvs)) : TyOf K H (.ref a) (.type "dict")
  | dT {a : Addr} {kvs : List (List Key × V)} (e : H a = some (.dT kvs)) : TyOf K H (.ref a) (.type "dict")
  | ins {a C dx : Addr} {fs : List (Str × V)} (e : H a = some (.ins C dx fs)) (cl : Cls K C) (ha : PySem.W.findIn K (.ref C) "__class__" = some (some (.builtin "object.__class__")))
      (hn : PySem.W.specialIn K (.builtin "object.__class__") "__get__" = some (some (.builtin "getset_descriptor.__get__"))) (htk : PySem.W.takesIn K (.builtin "object.__class__") = some true)
      (hm : PySem.W.mroIn K C (.type "object") = some true) : TyOf K H (.ref a) (.ref C)
/-- isinstance(x, c) for one class c, a built-in or an own one: kitOne's answer -/
theorem isinst_ok {x : V} {u t : Value} (I : Inv X pins σ H s) (rx : RelV x u) (ty : TyOf X.K H x t) (e : PySem.W.kitOne X.K t c = some b) (h : ∀ tk, Q (.bool b) { s with toks := tk }) :
    wpAny (model X.prog X.w) A (call (.builtin "isinstance") [u, c]) Q E s := by
  cases ty with
  | non => cases (show u = Value.none from rx); exact PySem.W.kia_one PySem.W.kitx_none I.kIn True.intro e (fun z => nomatch z) h
  | bl y => cases (show u = Value.bool y from rx); exact PySem.W.kia_one PySem.W.kitx_bool I.kIn True.intro e (fun z => nomatch z) h
  | int i => obtain ⟨t, q⟩ := (show ∃ t, u = Value.int i t from rx); cases q; exact PySem.W.kia_one PySem.W.kitx_int I.kIn True.intro e (fun z => nomatch z) h
  | str y => obtain ⟨t, q⟩ := (show ∃ t, u = Value.str y t from rx); cases q; exact PySem.W.kia_one PySem.W.kitx_str I.kIn True.intro e (fun z => nomatch z) h
  | flt y => obtain ⟨t, q⟩ := (show ∃ t, u = Value.float y t from rx); cases q; exact PySem.W.kia_one PySem.W.kitx_float I.kIn True.intro e (fun z => nomatch z) h
  | @lst a xs ea =>
    cases (show u = Value.ref a from rx)
    obtain ⟨_, _, n, _, h1⟩ := (show ObjOk X.prog X.w H s.heap a (.lst xs) from I.hok a _ ea)
    exact PySem.W.kia_one PySem.W.kitx_list I.kIn ⟨_, h1, rfl⟩ e (fun z => nomatch z) h
  | @frz a ob xs ea =>
    cases (show u = Value.ref a from rx)
    obtain ⟨_, _, _, n, _, h1⟩ := (show ObjOk X.prog X.w H s.heap a (.frz ob (.lst xs)) from I.hok a _ ea)
    exact PySem.W.kia_one PySem.W.kitx_list I.kIn ⟨_, h1, rfl⟩ e (fun z => nomatch z) h
  | @tup a xs ea =>
    cases (show u = Value.ref a from rx)
    obtain ⟨_, _, _, p⟩ := (show ObjOk X.prog X.w H s.heap a (.tup xs) from I.hok a _ ea)
    obtain ⟨o, h1, h2, _⟩ := p
    exact PySem.W.kia_one PySem.W.kitx_tuple I.kIn ⟨o, h1, h2⟩ e (fun z => nomatch z) h
  | @dK a kvs ea =>
    cases (show u = Value.ref a from rx)
    obtain ⟨_, _, vs, _, p⟩ := (show ObjOk X.prog X.w H s.heap a (.dK kvs) from I.hok a _ ea)
    obtain ⟨o, es, ep, h1, h2, _⟩ := p
    exact PySem.W.kia_one PySem.W.kitx_dict I.kIn ⟨o, h1, h2.1⟩ e (fun z => nomatch z) h
  | @dT a kvs ea =>
    cases (show u = Value.ref a from rx)
    obtain ⟨_, _, xs, _, o, es, ep, h1, h2, _⟩ := (show ObjOk X.prog X.w H s.heap a (.dT kvs) from I.hok a _ ea)
    exact PySem.W.kia_one PySem.W.kitx_dict I.kIn ⟨o, h1, h2.1⟩ e (fun z => nomatch z) h
  | @ins a C dx fs ea cl ha hn htk hm =>
    cases (show u = Value.ref a from rx)
    obtain ⟨mA, O, _⟩ := ins_get I.hok ea
    obtain ⟨od, J, _⟩ := O.look
    exact PySem.W.kia_one (PySem.W.kitx_own (cl.get _) cl.hd ha hn htk hm) I.kIn J e (fun z => nomatch z) h
end
end L2

namespace L2
open PySem PySem.Spec PyProof.Rows

/-! ### room -/
structure Room (k : Nat) (A : Around) : Prop where
  hd : A.handled = none
  dp : A.depth + 3 * k + 5 < recursionLimit
  un : A.units + 16 * k + 200 < cLine
theorem Room.mono {j k : Nat} {A : Around} (r : Room k A) (h : j ≤ k) : Room j A := ⟨r.hd, by have := r.dp; omega, by have := r.un; omega⟩
theorem Room.deeper {k : Nat} {A : Around} (r : Room (k + 1) A) (env : Env) : Room k (A.deeper env) :=
  ⟨r.hd, by have := r.dp; show A.depth + 1 + 3 * k + 5 < _; omega, by have := r.un; show A.units + 3 + 16 * k + 200 < _; omega⟩
theorem make_depth {A : Around} {C : Addr} {us : List Value} {kw : List (Str × Value)} : (A.under (.builtin "type.__call__" ⟨.ref C :: us, kw⟩)).depth = A.depth + 1 := by
  first | rfl | simp [Around.under, Code.weight, Code.isCreation, Code.isGuard, Code.isCaller, Code.frames, Code.isFrame, guardIds]
theorem make_units {A : Around} {C : Addr} {us : List Value} {kw : List (Str × Value)} : (A.under (.builtin "type.__call__" ⟨.ref C :: us, kw⟩)).units = A.units + 1 := by
  first | rfl | simp [Around.under, Code.cUnits, Code.frames, Code.isFrame]
theorem Room.make {k : Nat} {A : Around} (r : Room (k + 1) A) (C : Addr) (us : List Value) (kw : List (Str × Value)) : Room k (A.under (.builtin "type.__call__" ⟨.ref C :: us, kw⟩)) :=
  ⟨r.hd, by have := r.dp; rw [make_depth]; omega, by have := r.un; rw [make_units]; omega⟩
theorem Room.depth {k : Nat} {A : Around} (r : Room k A) : A.depth < recursionLimit := by have := r.dp; omega
theorem Room.units {k : Nat} {A : Around} (r : Room k A) : A.units + 64 < cLine := by have := r.un; omega
/-! ### argument lists and displays -/
def tNil : TA := fun _ H Q => Q [] H
def tCons (ta : TE) (tr : TA) : TA := fun σ H Q => ta σ H fun x H1 => tr σ H1 fun xs H2 => Q (x :: xs) H2
section
variable {X : Cx} {e : Expr} {es : List Expr} {te : TE} {t : TA} {pos : Pos}
theorem pa_nil : PA X [] tNil := fun _ _ _ _ H Q I h => Calls.spliced_nil ⟨[], H, I, .nil, h⟩
theorem pa_cons (ha : PE X e te) (hr : PA X es t) (hs : starEach (e :: es) X.env = (false, eval e X.env) :: starEach es X.env := by rfl) : PA X (e :: es) (tCons te t) := by
  intro pos pins s σ H Q I h
  rw [hs]
  show wpAny _ _ (spliced ((false, eval e X.env) :: backTo pos (starEach es X.env))) _ _ s
  refine Calls.spliced_cons (thn (ha pins s σ H _ I h) fun u s1 ⟨x, H1, I1, r1, q1⟩ => ?_)
  exact thn (hr pos pins s1 σ H1 _ I1 q1) fun us s2 ⟨xs, H2, I2, r2, q2⟩ => ⟨x :: xs, H2, I2, .cons r1 r2, q2⟩

/-- a tuple, a list of written items -/
inductive NewR (xs : List V) (o : HO) (H : Hp) (Q : VK) : Prop
  | mk (z : xs.length ≤ sizeLine) (k : ∀ p, H p = none → Q (.ref p) (upd H p o)) : NewR xs o H Q
def tTup (t : TA) : TE := fun σ H Q => t σ H fun xs H1 => NewR xs (.tup xs) H1 Q
def tLst (t : TA) : TE := fun σ H Q => t σ H fun xs H1 => NewR xs (.lst xs) H1 Q
theorem pe_tup {x1} (h : PA X es t) : PE X (.Tuple es x1 pos) (tTup t) := by
  intro pins s σ H Q I hq
  refine wpAny_Tuple_spliced (thn (h pos pins s σ H _ I hq) fun us s1 ⟨xs, H1, I1, r, z, q⟩ => ⟨by rw [← r.length]; exact z, ?_⟩)
  have hf : H1 s1.heap.objs.size = none := I1.hok.fresh (Nat.le_refl _)
  refine ⟨.ref s1.heap.objs.size, upd H1 s1.heap.objs.size (.tup xs), I1.laid (t' := s1.toks) (fun b u e => Heap.get?_push_of_some _ e) (Nat.le_refl _) ?_, rfl, q _ hf⟩
  exact ⟨z, us, r, ⟨_, Heap.get?_push_size _ rfl, rfl, _, rfl⟩⟩
theorem pe_lst (h : PA X es t) : PE X (.List es pos) (tLst t) := by
  intro pins s σ H Q I hq
  refine wpAny_List_spliced (thn (h pos pins s σ H _ I hq) fun us s1 ⟨xs, H1, I1, r, z, q⟩ => ⟨by rw [← r.length]; exact z, ?_⟩)
  have hf : H1 s1.heap.objs.size = none := I1.hok.fresh (Nat.le_refl _)
  refine ⟨.ref s1.heap.objs.size, upd H1 s1.heap.objs.size (.lst xs), I1.laid (t' := s1.toks) (fun b u e => Heap.get?_push_of_some _ e) (Nat.le_refl _) ?_, rfl, q _ hf⟩
  exact ⟨z, us, 0, r, Heap.get?_push_size _ rfl⟩
end

/-! ### what a def promises -/
/-- a def's promise: the bound arguments in the parameters' order, the heap, the wanted end, the wanted exception -/
abbrev Sp := List V → Hp → VK → XK → Prop
/-- how an exception lies behind a call (file 08 gives it): the callers' frames, abstract heap and state ahead of the call, the wish, the exception, the state -/
abbrev CXT := List Env → Hp → Shared → XK → Value → Shared → Prop

/-- the state at a call -/
structure Env0 (P : Program) (w : World) (K : PySem.W.Frag) (mg : Str → Option Value) (base : Heap) (A : Around) (outer : List Env) (s : Shared) (H : Hp) : Prop where
  frames : A.frames = some outer
  mod : Mod K mg base
  bs : ∀ b o, base.get? b = some o → s.heap.get? b = some o ∧ H b = none
  bsz : base.objs.size ≤ s.heap.objs.size
  funs : s.heap.FunFrames base outer
  frf : ∀ b ∈ frs outer, H b = none
  hok : HOk P w H s.heap
  bare : AllBare s.gens
/-- a call's end -/
def CE (outer : List Env) (P : Program) (w : World) (H : Hp) (s : Shared) (Q : VK) (u : Value) (s' : Shared) : Prop :=
  ∃ v H', s'.os = s.os ∧ AllBare s'.gens ∧ Un (frs outer) [] H H' s.heap s'.heap ∧ HOk P w H' s'.heap ∧ RelV v u ∧ Q v H'
def CR (CX : CXT) (outer : List Env) (P : Program) (w : World) (H : Hp) (s : Shared) (Q : VK) (E : XK) (r : Result) (s' : Shared) : Prop :=
  match r with
  | .ok (.ret u) => CE outer P w H s Q u s'
  | .ok _ => False
  | .error e => CX outer H s E e s'
structure FnOk (P : Program) (w : World) (K : PySem.W.Frag) (mg : Str → Option Value) (base : Heap) (CX : CXT) (k : Nat) (f : Addr) (fd : FuncData) (ps : List Str) (sp : Sp) : Prop where
  len : ∀ vs H Q E, sp vs H Q E → vs.length = ps.length
  run : ∀ (A : Around) (outer : List Env) (s : Shared) (H : Hp) (args : Args) (us : List Value) (vs : List V) (Q : VK) (E : XK), Room k A → Env0 P w K mg base A outer s H → BindsTo s fd args (ps.zip us) → Vals vs us → sp vs H Q E →
    codeAny (model P w) A (.call (.ref f) args) (CR CX outer P w H s Q E) s
theorem Env0.make {P : Program} {w : World} {K : PySem.W.Frag} {mg : Str → Option Value} {base : Heap} {A : Around} {outer : List Env} {s : Shared} {H : Hp} (e : Env0 P w K mg base A outer s H) (C : Addr) (us : List Value) (kw : List (Str × Value)) :
    Env0 P w K mg base (A.under (.builtin "type.__call__" ⟨.ref C :: us, kw⟩)) outer s H := ⟨by first | exact e.frames | (simpa [Around.under, Code.envs, Code.isFrame, pushEnvs] using e.frames), e.mod, e.bs, e.bsz, e.funs, e.frf, e.hok, e.bare⟩
section
variable {X : Cx} {pins : List (Addr × Obj)} {σ : St} {H : Hp} {s s' : Shared}
/-- from a body: what a callee wants -/
theorem Inv.env0 (I : Inv X pins σ H s) : Env0 X.prog X.w X.K X.mg X.base X.A X.stack s H :=
  ⟨I.ok.frames, I.ok.mod, I.bs, Nat.le_trans I.ok.bsz I.sz, I.stack, I.stkFree, I.hok, I.bare⟩
/-- behind a call -/
theorem Inv.after {Q : VK} {u : Value} (I : Inv X pins σ H s) (h : CE X.stack X.prog X.w H s Q u s') : EP X pins σ Q u s' := by
  obtain ⟨v, H', os, bare, un, hok, r, q⟩ := h
  obtain ⟨hh, g, d, t, os'⟩ := s'
  obtain rfl : os' = s.os := os
  exact ⟨v, H', I.call (h' := hh) (g' := g) (d' := d) (t' := t) (ch := []) un hok bare (fun b z => absurd z (by simp)), r, q⟩
end

/-! ### calls -/
/-- f(..): the written arguments, then the defaults dvs; E: what is wanted of an exception -/
def tCall (sp : Sp) (dvs : List V) (E : XK) (t : TA) : TE := fun σ H Q => t σ H fun vs H1 => sp (vs ++ dvs) H1 Q E
/-- o.m(..) of an instance of the class at C -/
inductive MethR (C : Addr) (m : Str) (x : V) (H : Hp) (B : Prop) : Prop
  | mk (a dx : Addr) (fs : List (Str × V)) (h1 : x = .ref a) (h2 : H a = some (.ins C dx fs)) (h3 : fs.lookup m = none) (k : B) : MethR C m x H B
def tMeth (C : Addr) (m : Str) (sp : Sp) (dvs : List V) (E : XK) (ta : TE) (t : TA) : TE := fun σ H Q => ta σ H fun x H1 => MethR C m x H1 (t σ H1 fun vs H2 => sp (x :: (vs ++ dvs)) H2 Q E)
/-- C(..): a new instance and its dict, then __init__ -/
def tMake (C : Addr) (sp : Sp) (dvs : List V) (E : XK) (t : TA) : TE := fun σ H Q => t σ H fun vs H1 => ∀ x dx, H1 x = none → H1 dx = none → dx ≠ x →
  sp (.ref x :: (vs ++ dvs)) (upd (upd H1 dx (.own x)) x (.ins C dx [])) (fun v H2 => v = .non ∧ Q (.ref x) H2) E

/-- how the parameters are bound: us the positional arguments, kw the keywords' values by name, ds the defaults that fill up -/
def Binds (K : PySem.W.Frag) (fd : FuncData) (ps : List Str) (ds : List Value) : Prop :=
  ∀ (s : Shared) (us : List Value), K.In s.heap → (us ++ ds).length = ps.length → BindsTo s fd ⟨us, []⟩ (ps.zip (us ++ ds))
/-- every parameter is given -/
theorem Binds.all {K : PySem.W.Frag} {fd : FuncData} {ps : List Str} (h : ∀ us : List Value, us.length = ps.length → bindArgs fd ⟨us, []⟩ = pure (ps.zip us)) : Binds K fd ps [] := fun s us _ hl => by
  rw [List.append_nil] at hl ⊢
  exact .of_eq (h us hl)

/-- an exception of a callee reaches what this body wants of exceptions -/
def Passes (CX : CXT) (X : Cx) (E : XK) : Prop := ∀ (pins : List (Addr × Obj)) (σ : St) (H : Hp) (s : Shared) (e : Value) (s' : Shared), Inv X pins σ H s → CX X.stack H s E e s' → X.xe e s'

section
variable {X : Cx} {CX : CXT} {k : Nat} {f C : Addr} {fd : FuncData} {ps : List Str} {sp : Sp} {dvs : List V} {ds : List Value} {E : XK} {x m : Str} {p pos apos : Pos} {e o : Expr} {es : List Expr} {ta : TE} {t : TA}

/-- the callee runs -/
theorem run_fn {pins : List (Addr × Obj)} {σ : St} {H : Hp} {s : Shared} {Q : VK} {us : List Value} {vs : List V} (F : FnOk X.prog X.w X.K X.mg X.base CX k f fd ps sp) (hr : Room k X.A) (hb : Binds X.K fd ps ds) (hd : Vals dvs ds) (hx : Passes CX X E)
    (I : Inv X pins σ H s) (r : Vals vs us) (h : sp (vs ++ dvs) H Q E) : wpAny (model X.prog X.w) X.A (call (.ref f) us) (EP X pins σ Q) X.xe s := by
  have r2 : Vals (vs ++ dvs) (us ++ ds) := r.append hd
  have hl : (us ++ ds).length = ps.length := by rw [← r2.length]; exact F.len _ _ _ _ h
  refine wpAny_call (codeAny_mono (F.run X.A X.stack s H ⟨us, []⟩ (us ++ ds) (vs ++ dvs) Q E hr I.env0 (hb s us I.kIn hl) r2 h) fun r s' hq => ?_)
  cases r with
  | error e => exact hx pins σ H s e s' I hq
  | ok fl =>
    cases fl with
    | ret u => exact I.after hq
    | next => exact False.elim hq
    | brk => exact False.elim hq
    | cont => exact False.elim hq

theorem pe_call (F : FnOk X.prog X.w X.K X.mg X.base CX k f fd ps sp) (hr : Room k X.A) (hg : Gl X x) (hm : X.mg x = some (.ref f)) (hk : PySem.W.keepIn X.K (.ref f) = true) (hb : Binds X.K fd ps ds) (hd : Vals dvs ds) (hx : Passes CX X E)
    (ha : PA X (e :: es) t) (hdb : (x == ("__debug__" : Str)) = false := by decide) (he : starEach (e :: es) X.env = (false, eval e X.env) :: starEach es X.env := by rfl) (hpl : (backTo pos (starEach es X.env)).any (·.1) = false := by rfl) :
    PE X (.Call (.Name x p) (e :: es) [] pos) (tCall sp dvs E t) := by
  intro pins s σ H Q I h
  refine wpAny_Call_Name_kw (ld_glob I hg hm ?_ hdb)
  refine PySem.W.callWith_K (h₀ := X.base) I.ok.mod.kin hk (thn (ha pos pins s σ H _ I h) fun us s1 ⟨vs, H1, I1, r, q⟩ => ⟨I1.kIn, ?_⟩) he hpl
  exact run_fn F hr hb hd hx I1 r q
/-- o.m(e, ..) -/
theorem pe_meth {pl : Sem Bool} (he : PE X o ta) (c : Cls X.K C) (hm : Meth X.K C m f) (F : FnOk X.prog X.w X.K X.mg X.base CX k f fd ps sp) (hr : Room k X.A) (hb : Binds X.K fd ps ds) (hd : Vals dvs ds) (hx : Passes CX X E) (ha : PA X (e :: es) t)
    (hst : starEach (e :: es) X.env = (false, eval e X.env) :: starEach es X.env := by rfl) (hpl : (backTo pos (starEach es X.env)).any (·.1) = false := by rfl)
    (ht : eval (.Call (.Attribute o m apos) (e :: es) [] pos) X.env = (do
      let ov ← eval o X.env
      standAt apos.atName
      let (f, first) ← holding [ov] (getMethod ov m pl)
      callWith pos f first (backTo pos (starEach (e :: es) X.env)) (backToKw pos (keywordEach [] X.env))) := by rfl) :
    PE X (.Call (.Attribute o m apos) (e :: es) [] pos) (tMeth C m sp dvs E ta t) := by
  intro pins s σ H Q I h
  refine PySem.W.methodCall_KW (pl := pl) (thn (he pins s σ H _ I h) fun u s1 ⟨x, H1, I1, rx, a, dx, fs, ex, ea, l, q⟩ => ?_) ht
  subst ex
  obtain rfl : u = Value.ref a := rx
  refine getmeth_ok I1 ea c hm l ?_
  refine PySem.W.callWith_K (first := [.ref a]) (h₀ := X.base) I.ok.mod.kin hm.kp (thn (ha pos pins s1 σ H1 _ I1 q) fun us s2 ⟨vs, H2, I2, r, q2⟩ => ⟨I2.kIn, ?_⟩) hst hpl
  exact run_fn (us := .ref a :: us) (vs := .ref a :: vs) F hr hb hd hx I2 (.cons rfl r) q2
/-- o.m() -/
theorem pe_meth0 {pl : Sem Bool} (he : PE X o ta) (c : Cls X.K C) (hm : Meth X.K C m f) (F : FnOk X.prog X.w X.K X.mg X.base CX k f fd ps sp) (hr : Room k X.A) (hb : Binds X.K fd ps ds) (hd : Vals dvs ds) (hx : Passes CX X E)
    (ht : eval (.Call (.Attribute o m apos) [] [] pos) X.env = (do
      let ov ← eval o X.env
      standAt apos.atName
      let (f, first) ← holding [ov] (getMethod ov m pl)
      callWith pos f first (backTo pos (starEach [] X.env)) (backToKw pos (keywordEach [] X.env))) := by rfl) :
    PE X (.Call (.Attribute o m apos) [] [] pos) (tMeth C m sp dvs E ta tNil) := by
  intro pins s σ H Q I h
  refine PySem.W.methodCall_KW (pl := pl) (thn (he pins s σ H _ I h) fun u s1 ⟨x, H1, I1, rx, a, dx, fs, ex, ea, l, q⟩ => ?_) ht
  subst ex
  obtain rfl : u = Value.ref a := rx
  refine getmeth_ok I1 ea c hm l ?_
  exact PySem.W.callWith_K0 (first := [.ref a]) I1.kIn hm.kp (run_fn (us := [.ref a]) (vs := [.ref a]) F hr hb hd hx I1 (.cons rfl .nil) q)

/-- what a class must have to be made -/
structure Mk (K : PySem.W.Frag) (C f : Addr) : Prop where
  makes : PySem.W.makesIn K C = true
  init : PySem.W.findIn K (.ref C) "__init__" = some (some (.ref f))
  fn : PySem.W.isFn K (.ref f) = true
  kp : PySem.W.keepIn K (.ref C) = true

theorem run_make {pins : List (Addr × Obj)} {σ : St} {H : Hp} {s : Shared} {Q : VK} {us : List Value} {vs : List V} (M : Mk X.K C f) (F : FnOk X.prog X.w X.K X.mg X.base CX k f fd ps sp) (hr : Room (k + 1) X.A) (hb : Binds X.K fd ps ds) (hd : Vals dvs ds)
    (hx : Passes CX X E) (I : Inv X pins σ H s) (r : Vals vs us)
    (h : ∀ x dx, H x = none → H dx = none → dx ≠ x → sp (.ref x :: (vs ++ dvs)) (upd (upd H dx (.own x)) x (.ins C dx [])) (fun v H2 => v = .non ∧ Q (.ref x) H2) E) :
    wpAny (model X.prog X.w) X.A (call (.ref C) us) (EP X pins σ Q) X.xe s := by
  have hq := h (s.heap.objs.size + 1) s.heap.objs.size (I.hok.fresh (Nat.le_succ _)) (I.hok.fresh (Nat.le_refl _)) (Nat.ne_of_lt (Nat.lt_succ_self _))
  have I2 := Inv.made (C := C) I
  have r2 : Vals (V.ref (s.heap.objs.size + 1) :: (vs ++ dvs)) (Value.ref (s.heap.objs.size + 1) :: (us ++ ds)) := .cons rfl (r.append hd)
  have hl : (Value.ref (s.heap.objs.size + 1) :: us ++ ds).length = ps.length := by
    have e := r2.length
    rw [F.len _ _ _ _ hq] at e
    exact e.symm
  refine wpAny_call (make_map (f := f) I.kIn M.makes M.init (beq_iff_eq.mp M.fn) (codeAny_mono (F.run _ X.stack _ _ ⟨Value.ref (s.heap.objs.size + 1) :: us, []⟩ (Value.ref (s.heap.objs.size + 1) :: (us ++ ds)) _ _ E (hr.make C us [])
    (I2.env0.make C us []) (hb _ (Value.ref (s.heap.objs.size + 1) :: us) I2.kIn hl) r2 hq) fun r s' hq' => ?_))
  cases r with
  | error e => exact hx pins σ _ _ e s' I2 hq'
  | ok fl =>
    cases fl with
    | ret u =>
      obtain ⟨v, H', I3, rv, ev, q3⟩ := I2.after hq'
      subst ev
      exact ⟨rv, ⟨V.ref (s.heap.objs.size + 1), H', I3, rfl, q3⟩⟩
    | next => exact False.elim hq'
    | brk => exact False.elim hq'
    | cont => exact False.elim hq'
theorem pe_make0 (M : Mk X.K C f) (F : FnOk X.prog X.w X.K X.mg X.base CX k f fd ps sp) (hr : Room (k + 1) X.A) (hg : Gl X x) (hm : X.mg x = some (.ref C)) (hb : Binds X.K fd ps ds) (hd : Vals dvs ds) (hx : Passes CX X E)
    (hdb : (x == ("__debug__" : Str)) = false := by decide) : PE X (.Call (.Name x p) [] [] pos) (tMake C sp dvs E tNil) := by
  intro pins s σ H Q I h
  refine wpAny_Call_Name_kw (ld_glob I hg hm ?_ hdb)
  exact PySem.W.callWith_K0 I.kIn M.kp (run_make (us := []) M F hr hb hd hx I .nil h)
end

/-! ### keywords -/
section
variable {X : Cx} {CX : CXT} {k : Nat} {f C : Addr} {fd : FuncData} {ps ks : List Str} {sp : Sp} {E : XK} {x m : Str} {p pos apos kpos : Pos} {e o : Expr} {es : List Expr} {kws : List Keyword} {te ta : TE} {t tk : TA} {nm : Option Str}
/-- how a call with keywords binds: g puts the positional values us and the keywords' values ws (names ks) in the parameters' order, defaults among them -/
structure KBinds (K : PySem.W.Frag) (fd : FuncData) (ps ks : List Str) (g : List Value → List Value → List Value) (gV : List V → List V → List V) : Prop where
  to : ∀ (s : Shared) (us ws : List Value), K.In s.heap → (g us ws).length = ps.length → BindsTo s fd ⟨us, ks.zip ws⟩ (ps.zip (g us ws))
  rel : ∀ {vs : List V} {us : List Value} {zs : List V} {ws : List Value}, Vals vs us → Vals zs ws → Vals (gV vs zs) (g us ws)
variable {g : List Value → List Value → List Value} {gV : List V → List V → List V}
end

/-! ### a def's body keeps its promise -/
/-- names: the parameters first -/
structure FnScope (N P : List Str) (sc : Scope) : Prop where
  kind : sc.kind = .function
  co : sc.isCoroutine = false
  gen : sc.isGenerator = false
  nd : N.Nodup
  pre : N.take P.length = P
  par : ∀ x ∈ P, sc.names.lookup x = some .local ∨ sc.names.lookup x = some .cell
  nofree : ∀ y ∈ sc.names, y.2 ≠ .free

theorem bindL_out {kindOf : Str → Option NameKind} {x : Str} : ∀ {binds : List (Str × Value)} {m : Str → Option Value}, (∀ v, (x, v) ∉ binds) → bindL kindOf binds m x = m x
  | [], _, _ => rfl
  | (n, v) :: r, m, h => by
    unfold bindL
    rw [bindL_out fun w hw => h w (List.mem_cons_of_mem _ hw)]
    split
    · have : x ≠ n := by rintro rfl; exact h v List.mem_cons_self
      simp [this]
    · rfl
theorem bindC_out {kindOf : Str → Option NameKind} {x : Str} : ∀ {binds : List (Str × Value)} {m : Str → Option Value}, (∀ v, (x, v) ∉ binds) → bindC kindOf binds m x = m x
  | [], _, _ => rfl
  | (n, v) :: r, m, h => by
    unfold bindC
    rw [bindC_out fun w hw => h w (List.mem_cons_of_mem _ hw)]
    split
    · rfl
    · have : x ≠ n := by rintro rfl; exact h v List.mem_cons_self
      simp [this]
theorem bindL_get {kindOf : Str → Option NameKind} {x : Str} {v : Value} : ∀ {P : List Str} {vs : List Value} {i : Nat} {m : Str → Option Value}, P.Nodup → P[i]? = some x → vs[i]? = some v → kindOf x = some .local →
    bindL kindOf (P.zip vs) m x = some v
  | [], _, _, _, _, h, _, _ => by simp at h
  | _ :: _, [], _, _, _, _, h, _ => by simp at h
  | p :: P, w :: vs, 0, m, nd, h1, h2, hk => by
    simp at h1 h2; subst h1; subst h2
    show bindL kindOf ((p, w) :: P.zip vs) m p = _
    unfold bindL
    rw [bindL_out fun v hv => (List.nodup_cons.mp nd).1 (List.of_mem_zip hv).1, if_pos hk]
    simp
  | p :: P, w :: vs, i + 1, m, nd, h1, h2, hk => by
    show bindL kindOf ((p, w) :: P.zip vs) m x = _
    unfold bindL
    exact bindL_get (i := i) (List.nodup_cons.mp nd).2 (by simpa using h1) (by simpa using h2) hk
theorem bindC_get {kindOf : Str → Option NameKind} {x : Str} {v : Value} : ∀ {P : List Str} {vs : List Value} {i : Nat} {m : Str → Option Value}, P.Nodup → P[i]? = some x → vs[i]? = some v → kindOf x ≠ some .local →
    bindC kindOf (P.zip vs) m x = some v
  | [], _, _, _, _, h, _, _ => by simp at h
  | _ :: _, [], _, _, _, _, h, _ => by simp at h
  | p :: P, w :: vs, 0, m, nd, h1, h2, hk => by
    simp at h1 h2; subst h1; subst h2
    show bindC kindOf ((p, w) :: P.zip vs) m p = _
    unfold bindC
    rw [bindC_out fun v hv => (List.nodup_cons.mp nd).1 (List.of_mem_zip hv).1, if_neg hk]
    simp
  | p :: P, w :: vs, i + 1, m, nd, h1, h2, hk => by
    show bindC kindOf ((p, w) :: P.zip vs) m x = _
    unfold bindC
    exact bindC_get (i := i) (List.nodup_cons.mp nd).2 (by simpa using h1) (by simpa using h2) hk

/-- the names' values at the entry -/
def start (N : List Str) (vs : List V) : St := vs.map some ++ List.replicate (N.length - vs.length) none

/-- the context of a def's body, at its entry; an exception leaves the frame, then lies as CX says -/
def cxOf (CX : CXT) (P : Program) (w : World) (K : PySem.W.Frag) (mg : Str → Option Value) (base : Heap) (N : List Str) (qual : Str) (scope : Scope) (f : Addr) (cd : Value) (A : Around) (outer : List Env) (s : Shared) (H : Hp) (E : XK) : Cx where
  prog := P
  w := w
  K := K
  mg := mg
  base := base
  A := A.deeper (envOfC qual scope s.heap.objs.size f cd)
  N := N
  s₀ := s
  H₀ := H
  env := envOfC qual scope s.heap.objs.size f cd
  outer := outer
  stack := envOfC qual scope s.heap.objs.size f cd :: outer
  ex := []
  calm := true
  fn := fun _ => true
  pn := []
  xe := fun e s' => wpAny (model P w) (A.deeper (envOfC qual scope s.heap.objs.size f cd)) (leaving (envOfC qual scope s.heap.objs.size f cd) e) (fun _ s'' => CX outer H s E e s'') (fun e' s'' => CX outer H s E e' s'') s'

theorem cell_has {sc : Scope} {n : Nat} {x : Str} (h : sc.names.lookup x = some .cell) : ∃ c, (cellsFrom n sc.names []).lookup x = some c := by
  have q := PySem.W.cellsFrom_some sc.names n [] (.inl h)
  exact Option.isSome_iff_exists.mp q

theorem inv_start {CX : CXT} {P : Program} {w : World} {K : PySem.W.Frag} {mg : Str → Option Value} {base : Heap} {N ps : List Str} {qual : Str} {scope : Scope} {f : Addr} {cd : Value} {A : Around} {outer : List Env} {s s1 : Shared} {H : Hp} {E : XK} {us : List Value} {vs : List V}
    (S : FnScope N ps scope) (hd : A.handled = none) (e0 : Env0 P w K mg base A outer s H) (hl : vs.length = ps.length) (r : Vals vs us)
    (x : InCallC s s.heap.objs.size (bindL (envOfC qual scope s.heap.objs.size f cd).kindOf (ps.zip us) fun _ => none) (cellsFrom (s.heap.objs.size + 1) scope.names []) (bindC (envOfC qual scope s.heap.objs.size f cd).kindOf (ps.zip us) fun _ => none) s1) :
    Inv (cxOf CX P w K mg base N qual scope f cd A outer s H E) [] (start N vs) H s1 := by
  have hpl : ps.length ≤ N.length := by have := congrArg List.length S.pre; rw [List.length_take] at this; omega
  obtain ⟨h1, tk, rfl, hk⟩ := x.done
  have noA : ∀ b : Addr, b ∉ (cxOf CX P w K mg base N qual scope f cd A outer s H E).ex := fun b z => absurd (show b ∈ ([] : List Addr) from z) (by simp)
  refine ⟨⟨e0.mod, S.kind, rfl, rfl, Nat.le_refl _, fun y z c h1 h2 => ?_, fun y hy => ?_, fun y c _ h => ?_, fun _ => hd, Around.frames_deeper e0.frames, .inr ⟨rfl, rfl⟩, fun b z => absurd z (noA b), e0.bs, e0.bsz, fun b _ _ => noA b, fun b z => absurd z (noA b), e0.funs, e0.frf⟩,
    rfl, e0.bare, Un.kept hk, ⟨_, x.toInCall.ns, fun i y v h1 h2 h3 => ?_⟩, fun y c h => ⟨_, x.cell y c h⟩, e0.hok.fresh (Nat.le_refl _), fun y c h => ?_, fun p hp => absurd (show p ∈ ([] : List (Addr × Obj)) from hp) (by simp), e0.hok.kept hk, ?_⟩
  · exact name_of_addr x.apart (PySem.mem_of_lookup h1) (PySem.mem_of_lookup h2)
  · have hy : scope.names.lookup y = some .cell ∨ scope.names.lookup y = some .free := hy
    rcases hy with hy | hy
    · exact cell_has hy
    · exact absurd rfl (S.nofree _ (PySem.mem_of_lookup hy))
  · exact Nat.le_of_lt (x.above y c (PySem.mem_of_lookup h))
  · have hi : i < vs.length := by
      unfold start at h2
      by_cases hi : i < vs.length
      · exact hi
      · rw [List.getElem?_append_right (by simpa using hi)] at h2
        rw [List.getElem?_replicate] at h2
        split at h2 <;> cases h2
    have ha : vs[i]? = some v := by
      unfold start at h2
      rw [List.getElem?_append_left (by simpa using hi), List.getElem?_map] at h2
      cases e : vs[i]? with
      | none => rw [e] at h2; cases h2
      | some a => rw [e] at h2; cases h2; rfl
    obtain ⟨u, hu, rv⟩ := r.get ha
    have hp : ps[i]? = some y := by
      rw [← S.pre, List.getElem?_take_of_lt (by omega)]; exact h1
    have ndP : ps.Nodup := by rw [← S.pre]; exact S.nd.sublist (List.take_sublist _ _)
    refine ⟨u, rv, ?_⟩
    rcases S.par y (List.mem_of_getElem? hp) with k | k
    · exact .inl ⟨k, bindL_get ndP hp hu k⟩
    · obtain ⟨c, e⟩ := cell_has (n := s.heap.objs.size + 1) k
      refine .inr ⟨.inl k, c, e, ?_⟩
      have q := x.cell y c e
      rw [bindC_get ndP hp hu (by show scope.names.lookup y ≠ _; rw [k]; decide)] at q
      exact q
  · exact e0.hok.fresh (Nat.le_of_lt (x.above y c (PySem.mem_of_lookup h)))
  · unfold start
    show _ = N.length
    rw [List.length_append, List.length_map, List.length_replicate]
    omega

/-- THE RULE: a def (or a method) of the text, by its body. The body's reading t is chosen for each entry; it is run at the parameters' values -/
theorem fn_of {CX : CXT} {P : Program} {w : World} {K : PySem.W.Frag} {mg : Str → Option Value} {base : Heap} {k : Nat} {f : Addr} {name qual : Str} {params : Arguments} {body : List Stmt} {scope : Scope} {dV kV doc pm cdv ct oc : Value} {an od : Option Addr}
    {osl : Array (Option Value)} {N ps : List Str} {sp : Sp} (lk : K.lookup f = some ⟨oc, od, .func (PySem.W.fnOf name qual params body scope dV kV doc pm an cdv ct), osl⟩) (hcd : PySem.W.codeIn K cdv qual = true) (S : FnScope N ps scope)
    (len : ∀ vs H Q E, sp vs H Q E → vs.length = ps.length)
    (hbody : ∀ (A : Around) (outer : List Env) (s : Shared) (H : Hp) (vs : List V) (Q : VK) (E : XK), Room k (A.deeper (envOfC qual scope s.heap.objs.size f cdv)) → sp vs H Q E →
      ∃ t, PSs (cxOf CX P w K mg base N qual scope f cdv A outer s H E) body t ∧ t { nx := fun _ H' => Q .non H', rt := Q } (start N vs) H) :
    FnOk P w K mg base CX (k + 1) f (PySem.W.fnOf name qual params body scope dV kV doc pm an cdv ct) ps sp := by
  refine ⟨len, fun A outer s H args us vs Q E hr e0 hb r hsp => ?_⟩
  have hl := len _ _ _ _ hsp
  have KX : K.In s.heap := e0.mod.kin.keeps fun b o e => (e0.bs b o e).1
  have lim : s.heap.NoLimit := e0.mod.nolimit.keeps fun b o e => (e0.bs b o e).1
  have hkind : ∀ y ∈ ps.zip us, scope.names.lookup y.1 = some .local ∨ (scope.names.lookup y.1 = some .cell ∧ ((cellsFrom (s.heap.objs.size + 1) scope.names []).lookup y.1).isSome = true) := fun ⟨n, v⟩ hy => by
    rcases S.par n (List.of_mem_zip hy).1 with q | q
    · exact .inl q
    · exact .inr ⟨q, PySem.W.cellsFrom_some _ _ _ (.inl q)⟩
  refine codeAny_call_function hr.depth (KX _ _ lk) rfl S.co S.gen rfl (PySem.W.codeRec_of KX hcd) (hb _ _ _ _ ?_)
  refine wpAny_newFunctionEnv_cells S.kind hkind fun env he s1 x => ?_
  subst he
  refine ⟨lim.keeps x.toInCall.keep, codeAny_func ?_⟩
  obtain ⟨t, ht, hq⟩ := hbody A outer s H vs Q E (hr.deeper _) hsp
  have I : Inv (cxOf CX P w K mg base N qual scope f cdv A outer s H E) [] (start N vs) H s1 := inv_start S hr.hd e0 hl r x
  refine wpAny_mono (ht [] s1 (start N vs) H _ I hq) (fun fl s' hs => ?_) fun e s' hs => hs
  have fin : ∀ {σ' : St} {H' : Hp} {v : V} {u : Value}, Inv (cxOf CX P w K mg base N qual scope f cdv A outer s H E) [] σ' H' s' → RelV v u → Q v H' → CE outer P w H s Q u s' :=
    fun {σ' H' v u} J rv q => ⟨v, H', J.os, J.bare, J.base, J.hok, rv, q⟩
  cases fl with
  | ret u =>
    obtain ⟨v, σ', H', J, rv, q⟩ := hs
    exact fin J rv q
  | next =>
    obtain ⟨σ', H', J, q⟩ := hs
    exact fin (v := V.non) (u := Value.none) J rfl q
  | brk =>
    obtain ⟨_, _, _, q⟩ := hs
    exact False.elim q
  | cont =>
    obtain ⟨_, _, _, q⟩ := hs
    exact False.elim q
end L2

namespace L2
open PySem PySem.Spec PyProof.Rows
section
variable {X : Cx} {x : Str} {p pos : Pos} {e : Expr} {es : List Expr} {t : TA} {id T : String} {r : List V → Hp → VK → Prop}

def tCB (r : List V → Hp → VK → Prop) (t : TA) : TE := fun σ H Q => t σ H fun vs H1 => r vs H1 Q
/-- f(e, ..), f a built-in function -/
theorem pe_callB (hc : CallR X (.builtin id) r) (hg : Gl X x) (hm : X.mg x = none) (hv : bootBuiltins x = some (.builtin id)) (ha : PA X (e :: es) t) (hn : x ≠ "__name__" := by decide) (hdb : (x == ("__debug__" : Str)) = false := by decide)
    (he : starEach (e :: es) X.env = (false, eval e X.env) :: starEach es X.env := by rfl) (hpl : (backTo pos (starEach es X.env)).any (·.1) = false := by rfl) : PE X (.Call (.Name x p) (e :: es) [] pos) (tCB r t) := by
  intro pins s σ H Q I h
  refine wpAny_Call_Name_kw (ld_blt I hg hm hv ?_ hn hdb)
  exact PyProof.Rows.callWith_builtin1 (thn (ha pos pins s σ H _ I h) fun us s1 ⟨vs, H1, I1, r1, q1⟩ => hc pins s1 σ H1 vs us Q I1 r1 q1) he hpl
/-- T(e, ..), T a built-in type -/
theorem pe_callTy (hc : CallR X (.type T) r) (hg : Gl X x) (hm : X.mg x = none) (hv : bootBuiltins x = some (.type T)) (ha : PA X (e :: es) t) (hn : x ≠ "__name__" := by decide) (hdb : (x == ("__debug__" : Str)) = false := by decide)
    (he : starEach (e :: es) X.env = (false, eval e X.env) :: starEach es X.env := by rfl) (hpl : (backTo pos (starEach es X.env)).any (·.1) = false := by rfl) : PE X (.Call (.Name x p) (e :: es) [] pos) (tCB r t) := by
  intro pins s σ H Q I h
  refine wpAny_Call_Name_kw (ld_blt I hg hm hv ?_ hn hdb)
  exact PyProof.Rows.callWith_type1 (thn (ha pos pins s σ H _ I h) fun us s1 ⟨vs, H1, I1, r1, q1⟩ => hc pins s1 σ H1 vs us Q I1 r1 q1) he hpl
end
end L2

namespace HT
open PySem PyProof.Rows

section
open PySem.SeqAt
open PySem.AutoSeq1 (wpAny_loadPart')
open PySem.MeetsSeq PySem.MeetsSeq2 PySem.MeetsSeq3

end

section
variable {prog : Program} {w : World} {A : Around} {E : Value → Shared → Prop} {s : Shared}

/-- t + u, t not empty -/
theorem cat_tup {t b : Addr} {vs ws : List Value} {Q : Value → Shared → Prop} (ht : IsTup s.heap t vs.toArray) (hb : IsTup s.heap b ws.toArray) (hv : vs ≠ [])
    (h1 : ws = [] → Q (.ref t) s) (h2 : ws ≠ [] → Q (.ref s.heap.objs.size) { s with heap := s.heap.push { cls := .type "tuple", data := .seq (vs ++ ws).toArray } })
    (hsz : vs.length + ws.length ≤ sizeLine) : wpAny (model prog w) A (binaryOp .Add (.ref t) (.ref b)) Q E s := by
  obtain ⟨⟨cls, dd, data, sl⟩, ho, hc, n, hd⟩ := id ht
  obtain ⟨⟨cls2, dd2, data2, sl2⟩, ho2, hc2, n2, hd2⟩ := id hb
  simp only at hc hd hc2 hd2
  subst hc hd hc2 hd2
  have e : vs.toArray ++ ws.toArray = (vs ++ ws).toArray := by simp
  by_cases hw : ws = []
  · exact concat_meets ⟨_, ho, rfl⟩ ⟨_, ho2, rfl⟩ noFill_tuple_add seq_tuple_add PySem.F.slot_tuple_add PySem.F.entry_tuple_add (PySem.F.args_tuple_add_2 _ _)
      (tuple_addW1 t b vs.toArray ws.toArray n n2 dd dd2 sl sl2 (by simpa using hv) (by simp [hw])) ⟨ho, ho2, h1 hw⟩
  · refine concat_meets ⟨_, ho, rfl⟩ ⟨_, ho2, rfl⟩ noFill_tuple_add seq_tuple_add PySem.F.slot_tuple_add PySem.F.entry_tuple_add (PySem.F.args_tuple_add_2 _ _)
      (tuple_addW2 t b vs.toArray ws.toArray n n2 dd dd2 sl sl2 (by simpa using hv) (by simpa using hw) (by rw [List.size_toArray, List.size_toArray]; exact hsz)) ⟨ho, ho2, ?_⟩
    rw [e]
    exact h2 hw

/-! ### t[a:b], not the whole -/
/-- a slice's bound as a place among n (d where it is left out) -/
def sIx (n d : Nat) : Option Int → Nat
  | none => d
  | some v => if v < 0 then (v + (n : Int)).toNat else min v.toNat n
theorem sIx_none (n d : Nat) : sIx n d none = d := rfl
theorem sIx_nat (n d k : Nat) : sIx n d (some (k : Int)) = min k n := by
  show (if (k : Int) < 0 then ((k : Int) + (n : Int)).toNat else min (k : Int).toNat n) = min k n
  rw [if_neg (by omega), Int.toNat_natCast]
theorem sIx_le (n d : Nat) (hd : d ≤ n) (o : Option Int) : sIx n d o ≤ n := by
  cases o with
  | none => exact hd
  | some v =>
    show (if v < 0 then (v + (n : Int)).toNat else min v.toNat n) ≤ n
    by_cases hv : v < 0
    · rw [if_pos hv]; omega
    · rw [if_neg hv]; exact Nat.min_le_right _ _
theorem clip_eq (v : Int) (n d : Nat) : (if v < 0 then max (v + (n : Int)) 0 else min v (n : Int)) = ((sIx n d (some v) : Nat) : Int) := by
  show (if v < 0 then max (v + (n : Int)) 0 else min v (n : Int)) = (((if v < 0 then (v + (n : Int)).toNat else min v.toNat n) : Nat) : Int)
  by_cases hv : v < 0
  · simp only [if_pos hv]; omega
  · simp only [if_neg hv]; omega
theorem adjust_gen (lo hi : Option Int) (n : Nat) : Builtin.Slice.sliceAdjust lo hi 1 (n : Int) = (((sIx n 0 lo : Nat) : Int), ((sIx n n hi : Nat) : Int)) := by
  have h1 : ¬ ((1 : Int) < 0) := by omega
  unfold Builtin.Slice.sliceAdjust
  simp only [h1, if_false]
  refine Prod.ext ?_ ?_
  · cases lo with
    | none => rfl
    | some v => exact clip_eq v n 0
  · cases hi with
    | none => rfl
    | some v => exact clip_eq v n n
theorem places_gen (i j : Nat) : Builtin.Slice.slicePlaces (i : Int) (j : Int) 1 = j - i := by
  unfold Builtin.Slice.slicePlaces
  have h1 : (1 : Int) > 0 := by omega
  simp only [h1, if_true, Int.ediv_one]
  split <;> omega
theorem slicePart_ {v : Value} {o : Option Int} {Q : Option Int → Shared → Prop} (p : IsPart v o) (h : Q o s) : wpAny (model prog w) A (Builtin.Slice.slicePartIndex v) Q E s := by
  cases p with
  | none => exact slicePart_none h
  | int i t => exact slicePart_int h
theorem sliceApplied_gen {sl : Addr} {vl vu : Value} {lo hi : Option Int} {n : Nat} {Q : Int × Int × Nat → Shared → Prop} (hs : s.heap.IsSliceOf sl vl vu .none) (pl : IsPart vl lo) (pu : IsPart vu hi)
    (h : Q (((sIx n 0 lo : Nat) : Int), 1, sIx n n hi - sIx n 0 lo) s) : wpAny (model prog w) A (Builtin.Slice.sliceApplied (.ref sl) (pure (n : Int))) Q E s := by
  obtain ⟨os, hos, hcs, hds⟩ := id hs
  unfold Builtin.Slice.sliceApplied Builtin.Slice.sliceFields
  refine wpAny_bind (wpAny_bind (wpAny_field hos hds (x := vl) rfl (wpAny_bind (wpAny_field hos hds (x := vu) rfl (wpAny_bind (wpAny_field hos hds (x := .none) rfl (wpAny_pure ?_)))))))
  refine wpAny_bind (slicePart_none ?_)
  show wpAny _ _ (if ((1 : Int) == 0) = true then _ else _) _ _ s
  rw [if_neg (by decide)]
  refine wpAny_bind (slicePart_ pl (wpAny_bind (slicePart_ pu (wpAny_bind (wpAny_pure ?_)))))
  show wpAny _ _ (match Builtin.Slice.sliceAdjust lo hi 1 (n : Int) with | (lo, hi) => pure (lo, (1 : Int), Builtin.Slice.slicePlaces lo hi 1)) _ _ s
  rw [adjust_gen lo hi n]
  show wpAny _ _ (pure (((sIx n 0 lo : Nat) : Int), (1 : Int), Builtin.Slice.slicePlaces ((sIx n 0 lo : Nat) : Int) ((sIx n n hi : Nat) : Int) 1)) _ _ s
  rw [places_gen]
  exact wpAny_pure h
theorem pick_gen (xs : Array Value) (i k : Nat) : ((List.range k).filterMap fun (m : Nat) => xs[((i : Int) + (m : Int) * 1).toNat]?).toArray = ((xs.toList.drop i).take k).toArray := by
  have e : (fun (m : Nat) => xs[((i : Int) + (m : Int) * 1).toNat]?) = fun m => xs[i + m]? := by
    funext m
    have : ((i : Int) + (m : Int) * 1).toNat = i + m := by omega
    rw [this]
  rw [e]
  have := pick_run xs i k
  rw [List.filterMap_map] at this
  have e2 : ((fun x => xs[x]?) ∘ fun x => i + x) = fun m => xs[i + m]? := rfl
  rw [e2] at this
  rw [this]

theorem getItem_tuple_cut {t sl : Addr} {items : Array Value} {vl vu : Value} {lo hi : Option Int} {Q : Value → Shared → Prop} (ht : IsTup s.heap t items) (hs : s.heap.IsSliceOf sl vl vu .none) (pl : IsPart vl lo) (pu : IsPart vu hi)
    (hw : ¬ (sIx items.size 0 lo = 0 ∧ sIx items.size items.size hi = items.size))
    (h : Q (.ref s.heap.objs.size) { s with heap := s.heap.push { cls := .type "tuple", data := .seq ((items.toList.drop (sIx items.size 0 lo)).take (sIx items.size items.size hi - sIx items.size 0 lo)).toArray } })
    (hsz : items.size ≤ sizeLine) : wpAny (model prog w) A (getItem (.ref t) (.ref sl)) Q E s := by
  have htake : sizeOk (.seq ((items.toList.drop (sIx items.size 0 lo)).take (sIx items.size items.size hi - sIx items.size 0 lo)).toArray) := by
    show ((items.toList.drop (sIx items.size 0 lo)).take (sIx items.size items.size hi - sIx items.size 0 lo)).toArray.size ≤ sizeLine
    rw [List.size_toArray, List.length_take, List.length_drop, Array.length_toList]
    omega
  have hj : sIx items.size items.size hi ≤ items.size := sIx_le _ _ (Nat.le_refl _) hi
  obtain ⟨os, hos, hcs, hds⟩ := id hs
  have hTs : s.TypeIs (.ref sl) "slice" := ⟨os, hos, hcs⟩
  unfold getItem
  try with_reducible refine wpAny_holding ?_
  first | refine wpAny_bind (wpAny_pure ?_) | skip
  refine wpAny_bind (wpAny_sequenceKey ht.typeIs (by decide) ?_)
  refine wpAny_bind (wpAny_callSpecial?_slot (name := Str.ofString "__getitem__") ht.typeIs PyProof.Rows.slot_tuple_getitem
    (wpAny_call_entry PyProof.Rows.slot_tuple_getitem ht.typeIs entry_tuple_getitem ?_ (args_tuple_getitem _ _)))
  show wpAny _ _ (Builtin.Tuple.tupleItemsOf (.ref t) >>= _) _ _ s
  refine wpAny_bind (tupleItemsOf_ ht ?_)
  refine wpAny_bind (wpAny_typeOf hTs ?_)
  rw [if_pos (by decide)]
  refine wpAny_bind (sliceApplied_gen hs pl pu ?_)
  have hno : ¬ ((((sIx items.size 0 lo : Nat) : Int) == 0 && (1 : Int) == 1 && (sIx items.size items.size hi - sIx items.size 0 lo) == items.size) = true) := by
    intro q
    rw [Bool.and_eq_true, Bool.and_eq_true] at q
    have q1 : ((sIx items.size 0 lo : Nat) : Int) = 0 := eq_of_beq q.1.1
    have q2 : sIx items.size items.size hi - sIx items.size 0 lo = items.size := eq_of_beq q.2
    exact hw ⟨by omega, by omega⟩
  show wpAny _ _ (if (((sIx items.size 0 lo : Nat) : Int) == 0 && (1 : Int) == 1 && (sIx items.size items.size hi - sIx items.size 0 lo) == items.size) = true then _ else _) _ _ s
  rw [if_neg hno, pick_gen]
  first
    | exact wpAny_bind (m := Builtin.Tuple.tupleExact _) (wpAny_newObj_type (wpAny_pure ⟨_, rfl, wpAny_pure h⟩) htake)
    | exact wpAny_bind (m := Builtin.Tuple.tupleExact _) (wpAny_newObj_type (wpAny_bind (wpAny_pure (wpAny_pure ⟨_, rfl, wpAny_pure h⟩))) htake)
    | exact wpAny_bind (wpAny_bind (m := Builtin.Tuple.tupleExact _) (wpAny_newObj_type (wpAny_pure (wpAny_pure ⟨_, rfl, wpAny_pure h⟩)) htake))
    | exact wpAny_bind (wpAny_bind (m := Builtin.Tuple.tupleExact _) (wpAny_newObj_type (wpAny_pure ⟨_, rfl, wpAny_pure h⟩) htake))
end
end HT

namespace L2
open PySem PySem.Spec PyProof.Rows

/-! ### the parts of a slice -/
abbrev TO := St → Hp → (Option Int → Hp → Prop) → Prop
/-- a slice's part (left out, or an int) -/
def PO (X : Cx) (e : Option Expr) (t : TO) : Prop :=
  ∀ (pins : List (Addr × Obj)) (s : Shared) (σ : St) (H : Hp) (Q : Option Int → Hp → Prop), Inv X pins σ H s → t σ H Q →
    wpAny (model X.prog X.w) X.A (evalPart e X.env) (fun u s' => ∃ o H', Inv X pins σ H' s' ∧ IsPart u o ∧ Q o H') X.xe s
def tNoPart : TO := fun _ H Q => Q none H
inductive PartR (x : V) (H : Hp) (Q : Option Int → Hp → Prop) : Prop
  | mk (i : Int) (h : x = .int i) (k : Q (some i) H) : PartR x H Q
def tPart (t : TE) : TO := fun σ H Q => t σ H fun x H1 => PartR x H1 Q

section
variable {X : Cx} {e : Expr} {te : TE} {lo hi : Option Expr} {tl th : TO} {pos p2 : Pos}

theorem po_none : PO X none tNoPart := by
  intro pins s σ H Q I h
  rw [evalPart_none]
  exact wpAny_pure ⟨none, H, I, .none, h⟩
theorem po_some (h : PE X e te) : PO X (some e) (tPart te) := by
  intro pins s σ H Q I hw
  rw [evalPart_some]
  refine thn (h pins s σ H _ I hw) fun u s1 ⟨x, H1, I1, r1, q1⟩ => ?_
  obtain ⟨i, rfl, q⟩ := q1
  obtain ⟨t, rfl⟩ := r1
  exact ⟨some i, H1, I1, .int i t, q⟩

/-- what a slice of a value is, by values: the slice object stands at sl -/
def SlR (X : Cx) (r : V → Option Int → Option Int → Hp → VK → Prop) : Prop :=
  ∀ (pins : List (Addr × Obj)) (s : Shared) (σ : St) (H : Hp) (x : V) (v vl vu : Value) (lo hi : Option Int) (sl : Addr) (Q : VK), Inv X pins σ H s → RelV x v → s.heap.IsSliceOf sl vl vu .none → IsPart vl lo → IsPart vu hi → r x lo hi H Q →
    ∃ T id, typeLookup (.type T) "__getitem__" = pure (some (.builtin id)) ∧ s.TypeIs v T ∧ wpAny (model X.prog X.w) X.A (getItem v (.ref sl)) (EP X pins σ Q) X.xe s
def tSl (r : V → Option Int → Option Int → Hp → VK → Prop) (te : TE) (tl th : TO) : TE := fun σ H Q => te σ H fun x H1 => tl σ H1 fun l H2 => th σ H2 fun u H3 => r x l u H3 Q
/-- a[lo:hi], any a -/
theorem pe_slice {r : V → Option Int → Option Int → Hp → VK → Prop} (hr : SlR X r) (he : PE X e te) (hl : PO X lo tl) (hu : PO X hi th) : PE X (.Subscript e (.Slice lo hi none p2) pos) (tSl r te tl th) := by
  intro pins s σ H Q I h
  refine Subscript_ (thn (he pins s σ H _ I h) fun v s1 ⟨x, H1, I1, r1, q1⟩ => ?_)
  refine wpAny_Slice (thn (hl pins s1 σ H1 _ I1 q1) fun vl s2 ⟨l, H2, I2, pl, q2⟩ => thn (hu pins s2 σ H2 _ I2 q2) fun vu s3 ⟨u, H3, I3, pu, q3⟩ => ?_)
  rw [evalPart_none]
  refine wpAny_pure ?_
  have I4 : Inv X pins σ H3 { s3 with heap := s3.heap.push { cls := .type "slice", data := .fields #[vl, vu, .none] } } := I3.kept (t' := s3.toks) fun b ob q => Heap.get?_push_of_some _ q
  obtain ⟨T, id, hT, ht, hg⟩ := hr pins { s3 with heap := s3.heap.push { cls := .type "slice", data := .fields #[vl, vu, .none] } } σ H3 x v vl vu l u s3.heap.objs.size Q I4 r1 (Heap.IsSliceOf.new ..) pl pu q3
  show wpAny (model X.prog X.w) X.A (subscriptTail e (.Slice lo hi none p2) v (.ref s3.heap.objs.size)) (EP X pins σ Q) X.xe { s3 with heap := s3.heap.push { cls := .type "slice", data := .fields #[vl, vu, .none] } }
  exact tail_any (ops := [.ref s3.heap.objs.size, v]) ht hT hg (by with_unfolding_all rfl)

/-- the items of xs[lo:hi] -/
def cutV (xs : List V) (lo hi : Option Int) : List V := (xs.drop (HT.sIx xs.length 0 lo)).take (HT.sIx xs.length xs.length hi - HT.sIx xs.length 0 lo)
theorem cutV_length (xs : List V) (lo hi : Option Int) : (cutV xs lo hi).length ≤ xs.length := by
  unfold cutV
  rw [List.length_take, List.length_drop]
  omega
/-- t[lo:hi], not the whole of it (the whole would be t itself) -/
inductive rSlT_R (K : PySem.W.Frag) (x : V) (lo : Option Int) (hi : Option Int) (H : Hp) (Q : VK) : Prop
  | mk (a : _) (xs : _) (h0 : x = .ref a) (h1 : SqT K H a xs) (h2 : ¬ (HT.sIx xs.length 0 lo = 0 ∧ HT.sIx xs.length xs.length hi = xs.length)) (h3 : ∀ p, H p = none → Q (.ref p) (upd H p (.tup (cutV xs lo hi)))) : rSlT_R K x lo hi H Q
def rSlT (K : PySem.W.Frag) : V → Option Int → Option Int → Hp → VK → Prop := fun x lo hi H Q => rSlT_R K x lo hi H Q
theorem sl_tup : SlR X (rSlT X.K) := by
  intro pins s σ H x v vl vu lo hi sl Q I rx hs pl pu h
  obtain ⟨a, xs, rfl, hx, hw, q⟩ := h
  cases rx
  obtain ⟨its, r, ht, hz⟩ := I.tuple hx
  have hlen : its.toArray.size = xs.length := by rw [List.size_toArray]; exact r.length.symm
  refine ⟨"tuple", _, PyProof.Rows.slot_tuple_getitem.lookup, ht.typeIs, ?_⟩
  refine HT.getItem_tuple_cut ht hs pl pu (by rw [hlen]; exact hw) ?_ (by rw [hlen]; exact hz)
  rw [hlen]
  refine ⟨.ref s.heap.objs.size, _, I.laid (t' := s.toks) (o := .tup (cutV xs lo hi)) (fun b ob q => Heap.get?_push_of_some _ q) (Nat.le_refl _) ?_, rfl, q _ (I.hok.fresh (Nat.le_refl _))⟩
  exact ⟨Nat.le_trans (cutV_length xs lo hi) hz, _, (r.drop (HT.sIx xs.length 0 lo)).take (HT.sIx xs.length xs.length hi - HT.sIx xs.length 0 lo), IsTup.new _ _⟩

/-! ### t < u, t + u -/
/-- t + u, t not empty: u empty gives t itself -/
inductive rCatT_R (K : PySem.W.Frag) (x : V) (y : V) (H : Hp) (Q : VK) : Prop
  | mk (a : _) (b : _) (xs : _) (ys : _) (h0 : x = .ref a) (h1 : y = .ref b) (h2 : SqT K H a xs) (h3 : SqT K H b ys) (h4 : xs ≠ []) (h5 : xs.length + ys.length ≤ sizeLine) (h6 : (ys = [] → Q (.ref a) H)) (h7 : (ys ≠ [] → ∀ p, H p = none → Q (.ref p) (upd H p (.tup (xs ++ ys))))) : rCatT_R K x y H Q
def rCatT (K : PySem.W.Frag) : R2 := fun x y H Q => rCatT_R K x y H Q
theorem Vals.nil_iff {xs : List V} {us : List Value} (r : Vals xs us) : us = [] ↔ xs = [] := by
  cases r with
  | nil => simp
  | cons _ _ => simp
theorem op_catT : OpR X (binaryOp .Add) (rCatT X.K) := by
  intro pins s σ H x y v u Q I rx ry h
  obtain ⟨a, b, xs, ys, rfl, rfl, ha, hb, hx, hz, q1, q2⟩ := h
  cases rx
  cases ry
  obtain ⟨its, r1, p1, _⟩ := I.tuple ha
  obtain ⟨its2, r2, p2, _⟩ := I.tuple hb
  refine HT.cat_tup p1 p2 (fun z => hx (r1.nil_iff.mp z)) (fun z => ⟨.ref a, H, I, rfl, q1 (r2.nil_iff.mp z)⟩) (fun z => ?_) (by rw [← r1.length, ← r2.length]; exact hz)
  refine ⟨.ref s.heap.objs.size, _, I.laid (t' := s.toks) (o := .tup (xs ++ ys)) (fun b ob q => Heap.get?_push_of_some _ q) (Nat.le_refl _) ?_, rfl, q2 (fun w => z (r2.nil_iff.mpr w)) _ (I.hok.fresh (Nat.le_refl _))⟩
  exact ⟨by rw [List.length_append]; exact hz, _, r1.append r2, IsTup.new _ _⟩
end
end L2

namespace L2
open PySem PySem.Spec PyProof.Rows

/-! ### places -/
/-- the place that an index of any sign means -/
def ixN (n : Nat) (i : Int) : Option Nat := if 0 ≤ i then (if i < n then some i.toNat else none) else if -(n : Int) ≤ i then some (i + n).toNat else none
def atI {α : Type} (xs : List α) (i : Int) : Option α := (ixN xs.length i).bind fun j => xs[j]?
theorem ixN_seq {n : Nat} {i : Int} {j : Nat} (h : ixN n i = some j) : seqIndex? i n = some j ∧ j < n ∧ -(n : Int) ≤ i ∧ i < n := by
  unfold ixN at h
  by_cases h0 : 0 ≤ i
  · rw [if_pos h0] at h
    by_cases h1 : i < n
    · rw [if_pos h1] at h
      have e : i.toNat = j := Option.some.inj h
      exact ⟨by rw [seqIndex_of h0 h1, e], by omega, by omega, h1⟩
    · rw [if_neg h1] at h; cases h
  · rw [if_neg h0] at h
    by_cases h1 : -(n : Int) ≤ i
    · rw [if_pos h1] at h
      have e : (i + n).toNat = j := Option.some.inj h
      exact ⟨by rw [seqIndex_neg (by omega) h1, e], by omega, h1, by omega⟩
    · rw [if_neg h1] at h; cases h
theorem atI_get {α : Type} {xs : List α} {i : Int} {v : α} (h : atI xs i = some v) : ∃ j, seqIndex? i xs.length = some j ∧ xs[j]? = some v ∧ j < xs.length ∧ -(xs.length : Int) ≤ i ∧ i < xs.length := by
  unfold atI at h
  cases e : ixN xs.length i with
  | none => rw [e] at h; cases h
  | some j =>
    rw [e] at h
    obtain ⟨h1, h2, h3, h4⟩ := ixN_seq e
    exact ⟨j, h1, h, h2, h3, h4⟩
theorem atI_nat {α : Type} {xs : List α} {j : Nat} {v : α} (h : xs[j]? = some v) : atI xs (j : Int) = some v := by
  have hj : j < xs.length := (List.getElem?_eq_some_iff.mp h).1
  have e : ixN xs.length (j : Int) = some j := by
    unfold ixN
    rw [if_pos (by omega), if_pos (by omega)]; simp
  unfold atI; rw [e]; exact h
theorem atI_last {α : Type} (xs : List α) (v : α) : atI (xs ++ [v]) (-1) = some v := by
  have hl : (xs ++ [v]).length = xs.length + 1 := by simp
  have e : ixN (xs ++ [v]).length (-1) = some xs.length := by
    unfold ixN
    rw [hl, if_neg (by decide), if_pos (by omega)]
    congr 1
    omega
  unfold atI
  rw [e]
  show (xs ++ [v])[xs.length]? = some v
  simp

/-! ### what may be subscripted -/
/-- what stands as an index of a plain subscript -/
def PlainIx (b : Expr) : Prop := ∀ o i, subscripted b false o i = operate [o, i] (getItem o i)
/-- a subscript by values -/
def IxR (X : Cx) (r : R2) : Prop :=
  ∀ (value slice : Expr) (pins : List (Addr × Obj)) (s : Shared) (σ : St) (H : Hp) (x y : V) (v u : Value) (Q : VK), Inv X pins σ H s → RelV x v → RelV y u → r x y H Q →
    subscripted slice false v u = operate [v, u] (getItem v u) → wpAny (model X.prog X.w) X.A (subscriptTail value slice v u) (EP X pins σ Q) X.xe s
/-- a call of a builtin's method by values: the receiver, the arguments -/
def MtR (X : Cx) (id : String) (r : V → List V → Hp → VK → Prop) : Prop :=
  ∀ (pins : List (Addr × Obj)) (s : Shared) (σ : St) (H : Hp) (x : V) (xs : List V) (v : Value) (us : List Value) (Q : VK), Inv X pins σ H s → RelV x v → Vals xs us → r x xs H Q →
    wpAny (model X.prog X.w) X.A (call (.builtin id) (v :: us)) (EP X pins σ Q) X.xe s
section
variable {X : Cx} {a b : Expr} {ta tb : TE} {pos : Pos}
/-- a[b] -/
theorem pe_ix {r : R2} (hr : IxR X r) (ha : PE X a ta) (hb : PE X b tb) (hs : PlainIx b) : PE X (.Subscript a b pos) (tOp r ta tb) := by
  intro pins s σ H Q I h
  exact Subscript_ (binT ha hb I h fun v u s2 x y H2 I2 rx ry q => hr a b pins s2 σ H2 x y v u Q I2 rx ry q (hs _ _))

inductive rIxL_R (K : PySem.W.Frag) (x : V) (y : V) (H : Hp) (Q : VK) : Prop
  | mk (p : _) (xs : _) (i : _) (v : _) (h0 : x = .ref p) (h1 : y = .int i) (h2 : SqL K H p xs) (h3 : atI xs i = some v) (h4 : Q v H) : rIxL_R K x y H Q
def rIxL (K : PySem.W.Frag) : R2 := fun x y H Q => rIxL_R K x y H Q
inductive rIxT_R (K : PySem.W.Frag) (x : V) (y : V) (H : Hp) (Q : VK) : Prop
  | mk (p : _) (xs : _) (i : _) (v : _) (h0 : x = .ref p) (h1 : y = .int i) (h2 : SqT K H p xs) (h3 : atI xs i = some v) (h4 : Q v H) : rIxT_R K x y H Q
def rIxT (K : PySem.W.Frag) : R2 := fun x y H Q => rIxT_R K x y H Q
theorem ix_list : IxR X (rIxL X.K) := by
  intro value slice pins s σ H x y v u Q I rx ry h hs
  obtain ⟨p, xs, i, z, rfl, rfl, hq, he, q⟩ := h
  cases rx
  obtain ⟨t, rfl⟩ := ry
  obtain ⟨its, r, pl, hz⟩ := I.list hq
  obtain ⟨j, h1, h2, h3, h4, h5⟩ := atI_get he
  obtain ⟨w, ew, rw'⟩ := r.get h2
  have hl := r.length
  have hn := line63
  have fin : EP X pins σ Q w s := ⟨z, H, I, rw', q⟩
  by_cases h0 : 0 ≤ i
  · have hj : i.toNat = j := by
      rw [seqIndex_of h0 h5] at h1
      exact Option.some.inj h1
    exact item_listR pl.isList h0 (by omega) (by rw [hj]; simpa using ew) fin hs
  · have hj : (i + (its.toArray.size : Int)).toNat = j := by
      rw [seqIndex_neg (by omega) h4] at h1
      rw [List.size_toArray, ← hl]
      exact Option.some.inj h1
    exact subscriptTail_builtinR (x := w) pl.isList.typeIs slot_list_getitem.lookup
      (wpAny_getItem_list_neg (Q := fun r s' => r = w ∧ EP X pins σ Q r s') pl.isList (by omega) (by rw [List.size_toArray] <;> omega) (by omega) (by rw [hj]; simpa using ew) ⟨rfl, fin⟩) hs
theorem ix_tup : IxR X (rIxT X.K) := by
  intro value slice pins s σ H x y v u Q I rx ry h hs
  obtain ⟨p, xs, i, z, rfl, rfl, hq, he, q⟩ := h
  cases rx
  obtain ⟨t, rfl⟩ := ry
  obtain ⟨its, r, pl, hz⟩ := I.tuple hq
  obtain ⟨j, h1, h2, h3, h4, h5⟩ := atI_get he
  obtain ⟨w, ew, rw'⟩ := r.get h2
  have hl := r.length
  have hn := line63
  have fin : EP X pins σ Q w s := ⟨z, H, I, rw', q⟩
  exact subscriptTail_builtinR (x := w) pl.typeIs slot_tuple_getitem.lookup
    (getItem_tuple (j := j) (Q := fun r s' => r = w ∧ EP X pins σ Q r s') pl (by omega) (by omega) (by rw [List.size_toArray, ← hl]; exact h1) (by simpa using ew) ⟨rfl, fin⟩) hs
/-! ### xs[i] = v, any sign -/
/-! ### slices -/
theorem slice_bounds (lo hi : Option Int) (n : Nat) : (sliceBounds lo hi none n).1 = ((HT.sIx n 0 lo : Nat) : Int) ∧ (sliceBounds lo hi none n).2.1 = ((HT.sIx n n hi : Nat) : Int) ∧ (sliceBounds lo hi none n).2.2 = 1 := by
  refine ⟨?_, ?_, rfl⟩
  · cases lo with
    | none => simp [sliceBounds, HT.sIx]
    | some i =>
      simp only [sliceBounds, HT.sIx, Option.getD_none, show (1 : Int) > 0 by decide, if_true]
      by_cases h : i < 0
      · simp only [h, if_true] <;> omega
      · simp only [h, if_false] <;> omega
  · cases hi with
    | none => simp [sliceBounds, HT.sIx]
    | some i =>
      simp only [sliceBounds, HT.sIx, Option.getD_none, show (1 : Int) > 0 by decide, if_true]
      by_cases h : i < 0
      · simp only [h, if_true] <;> omega
      · simp only [h, if_false] <;> omega
theorem slicePick_cut (its : List Value) (lo hi : Option Int) : slicePick its.toArray lo hi none = ((its.drop (HT.sIx its.length 0 lo)).take (HT.sIx its.length its.length hi - HT.sIx its.length 0 lo)).toArray := by
  obtain ⟨h1, h2, h3⟩ := slice_bounds lo hi its.toArray.size
  unfold slicePick
  rw [h1, h2, h3]
  simp only [sliceRange_one, pick_run, List.size_toArray] <;> rfl
/-- xs[lo:hi] of a list: a new list -/
inductive rSlL_R (K : PySem.W.Frag) (x : V) (lo : Option Int) (hi : Option Int) (H : Hp) (Q : VK) : Prop
  | mk (a : _) (xs : _) (h0 : x = .ref a) (h1 : SqL K H a xs) (h2 : ∀ p, H p = none → Q (.ref p) (upd H p (.lst (cutV xs lo hi)))) : rSlL_R K x lo hi H Q
def rSlL (K : PySem.W.Frag) : V → Option Int → Option Int → Hp → VK → Prop := fun x lo hi H Q => rSlL_R K x lo hi H Q
theorem sl_list : SlR X (rSlL X.K) := by
  intro pins s σ H x v vl vu lo hi sl Q I rx hs pl pu h
  obtain ⟨a, xs, rfl, hx, q⟩ := h
  cases rx
  obtain ⟨its, r, ht, hz⟩ := I.list hx
  have hlen := r.length
  refine ⟨"list", _, slot_list_getitem.lookup, ht.isList.typeIs, ?_⟩
  refine wpAny_getItem_list_slice ht.isList hs pl pu .none (by simp) ?_ (by rw [List.size_toArray] <;> omega)
  rw [slicePick_cut, ← hlen]
  refine ⟨.ref s.heap.objs.size, _, I.laid (t' := s.toks) (o := .lst (cutV xs lo hi)) (fun b ob q => Heap.get?_push_of_some _ q) (Nat.le_refl _) ?_, rfl, q _ (I.hok.fresh (Nat.le_refl _))⟩
  exact ⟨Nat.le_trans (cutV_length xs lo hi) hz, _, 0, (r.drop (HT.sIx xs.length 0 lo)).take (HT.sIx xs.length xs.length hi - HT.sIx xs.length 0 lo), Heap.get?_push_size _ rfl⟩

/-! ### in, not in: flat items -/
def flatV : V → Bool
  | .non => true
  | .bl _ => true
  | .int _ => true
  | .str _ => true
  | _ => false
/-- == of flat values -/
def eqV : V → V → Bool
  | .non, .non => true
  | .bl a, .bl b => a == b
  | .bl a, .int b => (if a then 1 else 0) == b
  | .int a, .bl b => a == (if b then 1 else 0)
  | .int a, .int b => a == b
  | .str a, .str b => a == b
  | _, _ => false
theorem eqAt_V {A : Around} {s : Shared} {y x : V} {u v : Value} (ry : RelV y u) (rx : RelV x v) (fy : flatV y = true) (fx : flatV x = true) : SeqAt.EqAt A s u v (eqV y x) := by
  cases y with
  | non =>
    cases ry
    cases x with
    | non => cases rx; exact SeqAt.EqAt.same _
    | bl b => cases rx; exact SeqAt.EqAt.none_bool b
    | int b => obtain ⟨t, rfl⟩ := rx; exact SeqAt.EqAt.none_int b t
    | str b => obtain ⟨t, rfl⟩ := rx; exact SeqAt.EqAt.none_str b t
    | _ => exact absurd (show false = true from fx) Bool.false_ne_true
  | bl a =>
    cases ry
    cases x with
    | non => cases rx; exact SeqAt.EqAt.bool_none a
    | bl b => cases rx; exact SeqAt.EqAt.bool_bool a b
    | int b => obtain ⟨t, rfl⟩ := rx; exact SeqAt.EqAt.bool_int a b t
    | str b => obtain ⟨t, rfl⟩ := rx; exact SeqAt.EqAt.bool_str a b t
    | _ => exact absurd (show false = true from fx) Bool.false_ne_true
  | int a =>
    obtain ⟨t', rfl⟩ := ry
    cases x with
    | non => cases rx; exact SeqAt.EqAt.int_none a t'
    | bl b => cases rx; exact SeqAt.EqAt.int_bool a t' b
    | int b => obtain ⟨t, rfl⟩ := rx; exact SeqAt.EqAt.int_int a t' b t
    | str b => obtain ⟨t, rfl⟩ := rx; exact SeqAt.EqAt.int_str a t' b t
    | _ => exact absurd (show false = true from fx) Bool.false_ne_true
  | str a =>
    obtain ⟨t', rfl⟩ := ry
    cases x with
    | non => cases rx; exact SeqAt.EqAt.str_none a t'
    | bl b => cases rx; exact SeqAt.EqAt.str_bool a t' b
    | int b => obtain ⟨t, rfl⟩ := rx; exact SeqAt.EqAt.str_int a t' b t
    | str b => obtain ⟨t, rfl⟩ := rx; exact SeqAt.EqAt.str_str a t' b t
    | _ => exact absurd (show false = true from fx) Bool.false_ne_true
  | _ => exact absurd (show false = true from fy) Bool.false_ne_true
/-- the items' answers, read off the values (a value's own answer does not lean on its token) -/
def eqU (x : V) (u : Value) : Bool := match u with
  | .none => eqV .non x
  | .bool b => eqV (.bl b) x
  | .int i _ => eqV (.int i) x
  | .str z _ => eqV (.str z) x
  | _ => false
theorem eqU_of {x y : V} {u : Value} (r : RelV y u) (f : flatV y = true) : eqU x u = eqV y x := by
  cases y with
  | non => cases r; rfl
  | bl b => cases r; rfl
  | int i => obtain ⟨t, rfl⟩ := r; rfl
  | str z => obtain ⟨t, rfl⟩ := r; rfl
  | _ => exact absurd (show false = true from f) Bool.false_ne_true
theorem any_eqU {x : V} : ∀ {xs : List V} {us : List Value}, Vals xs us → xs.all flatV = true → us.any (eqU x) = xs.any fun y => eqV y x
  | _, _, .nil, _ => rfl
  | y :: xs, u :: us, .cons r t, f => by
    rw [List.all_cons, Bool.and_eq_true] at f
    rw [List.any_cons, List.any_cons, eqU_of r f.1, any_eqU t f.2]
theorem mem_eqAt {A : Around} {s : Shared} {x : V} {v : Value} (rx : RelV x v) (fx : flatV x = true) : ∀ {xs : List V} {us : List Value}, Vals xs us → xs.all flatV = true → ∀ u ∈ us, SeqAt.EqAt A s u v (eqU x u)
  | _, _, .nil, _ => fun u hu => by cases hu
  | y :: xs, u :: us, .cons r t, f => fun u' hu => by
    rw [List.all_cons, Bool.and_eq_true] at f
    rcases List.mem_cons.mp hu with rfl | hu
    · rw [eqU_of r f.1]; exact eqAt_V r rx f.1 fx
    · exact mem_eqAt rx fx t f.2 u' hu
def inV (x : V) (xs : List V) : Bool := xs.any fun y => eqV y x
/-- x in a list or tuple of flat items -/
inductive rIn_R (K : PySem.W.Frag) (neg : Bool) (x : V) (y : V) (H : Hp) (Q : VK) : Prop
  | mk (p : _) (xs : _) (h0 : y = .ref p) (h1 : (SqL K H p xs ∨ SqT K H p xs)) (h2 : flatV x = true) (h3 : xs.all flatV = true) (h4 : Q (.bl (if neg then !inV x xs else inV x xs)) H) : rIn_R K neg x y H Q
def rIn (K : PySem.W.Frag) (neg : Bool) : R2 := fun x y H Q => rIn_R K neg x y H Q
theorem op_in_seq : OpR X (compareOp .In) (rIn X.K false) := by
  intro pins s σ H x y v u Q I rx ry h
  obtain ⟨p, xs, rfl, hq, fx, fs, q⟩ := h
  cases ry
  rcases hq with hq | hq
  · obtain ⟨its, r, pl, hz⟩ := I.list hq
    refine SeqAt.in_listAt (eqU x) pl.isList (fun w hw => mem_eqAt rx fx r fs w (by simpa using hw)) ⟨.bl _, H, I, rfl, ?_⟩
    rw [show its.toArray.any (eqU x) = its.any (eqU x) by simp, any_eqU r fs]
    exact q
  · obtain ⟨its, r, pl, hz⟩ := I.tuple hq
    refine SeqAt.in_tupleAt (eqU x) pl (fun w hw => mem_eqAt rx fx r fs w (by simpa using hw)) ⟨.bl _, H, I, rfl, ?_⟩
    rw [show its.toArray.any (eqU x) = its.any (eqU x) by simp, any_eqU r fs]
    exact q
theorem op_notIn_seq : OpR X (compareOp .NotIn) (rIn X.K true) := by
  intro pins s σ H x y v u Q I rx ry h
  obtain ⟨p, xs, rfl, hq, fx, fs, q⟩ := h
  cases ry
  rcases hq with hq | hq
  · obtain ⟨its, r, pl, hz⟩ := I.list hq
    refine SeqAt.notIn_listAt (eqU x) pl.isList (fun w hw => mem_eqAt rx fx r fs w (by simpa using hw)) ⟨.bl _, H, I, rfl, ?_⟩
    rw [show its.toArray.any (eqU x) = its.any (eqU x) by simp, any_eqU r fs]
    exact q
  · obtain ⟨its, r, pl, hz⟩ := I.tuple hq
    refine SeqAt.notIn_tupleAt (eqU x) pl (fun w hw => mem_eqAt rx fx r fs w (by simpa using hw)) ⟨.bl _, H, I, rfl, ?_⟩
    rw [show its.toArray.any (eqU x) = its.any (eqU x) by simp, any_eqU r fs]
    exact q
theorem op_notIn_str : OpR X (compareOp .NotIn) (fun x y H Q => ∃ i j, x = .str i ∧ y = .str j ∧ Q (.bl (!(!(Builtin.Str.occurrences j i 0 j.length 1).isEmpty))) H) := by
  intro pins s σ H x y v u Q I rx ry h
  obtain ⟨i, j, rfl, rfl, q⟩ := h
  obtain ⟨t, rfl⟩ := rx
  obtain ⟨t', rfl⟩ := ry
  exact notIn_str ⟨.bl _, H, I, rfl, q⟩

/-! ### len, list(x), tuple(x) of any list or tuple that is read -/
theorem call_len_seq : CallR X (.builtin "len") (fun xs H Q => ∃ p ys, xs = [.ref p] ∧ (SqL X.K H p ys ∨ SqT X.K H p ys) ∧ Q (.int ys.length) H) := by
  intro pins s σ H xs us Q I r h
  obtain ⟨p, ys, rfl, hq, q⟩ := h
  obtain ⟨u, rfl, rx⟩ := vals1 r
  cases rx
  have hn := line63
  rcases hq with hq | hq
  · obtain ⟨its, r', pl, hz⟩ := I.list hq
    have hlen := r'.length
    exact Calls.call_len_list pl.isList (by simp only [List.size_toArray] <;> omega) ⟨.int ys.length, H, I.tok _, ⟨s.toks + 1, by rw [List.size_toArray, hlen]⟩, q⟩
  · obtain ⟨its, r', pl, hz⟩ := I.tuple hq
    have hlen := r'.length
    exact len_tuple pl (by simp only [List.size_toArray] <;> omega) ⟨.int ys.length, H, I.tok _, ⟨s.toks + 1, by rw [List.size_toArray, hlen]⟩, q⟩
theorem call_len_str : CallR X (.builtin "len") (fun xs H Q => ∃ z, xs = [.str z] ∧ z.length ≤ sizeLine ∧ Q (.int z.length) H) := by
  intro pins s σ H xs us Q I r h
  obtain ⟨z, rfl, hz, q⟩ := h
  obtain ⟨u, rfl, t, rfl⟩ := vals1 r
  have hn := line63
  exact len_str (by omega) ⟨.int z.length, H, I.tok _, ⟨_, rfl⟩, q⟩
theorem CallR.or {f : Value} {r r' : List V → Hp → VK → Prop} (h : CallR X f r) (h' : CallR X f r') : CallR X f (fun xs H Q => r xs H Q ∨ r' xs H Q) := by
  intro pins s σ H xs us Q I rs q
  rcases q with q | q
  · exact h pins s σ H xs us Q I rs q
  · exact h' pins s σ H xs us Q I rs q
theorem call_tuple_of : CallR X (.type "tuple") (fun xs H Q => ∃ p ys, xs = [.ref p] ∧ ((SqL X.K H p ys ∧ ∀ l, H l = none → Q (.ref l) (upd H l (.tup ys))) ∨ (SqT X.K H p ys ∧ Q (.ref p) H))) := by
  intro pins s σ H xs us Q I r h
  obtain ⟨p, ys, rfl, h⟩ := h
  obtain ⟨u, rfl, rx⟩ := vals1 r
  cases rx
  rcases h with ⟨hq, q⟩ | ⟨hq, q⟩
  · obtain ⟨its, r', pl, hz⟩ := I.list hq
    have hlen := r'.length
    refine call_tuple_list pl.isList (fun h' kp => ?_) (by simp only [List.size_toArray] <;> omega)
    have I1 : Inv X pins σ H { s with heap := h' } := I.kept (t' := s.toks) kp
    have I2 : Inv X pins σ (upd H h'.objs.size (.tup ys)) { s with heap := h'.push { cls := .type "tuple", data := .seq its.toArray } } :=
      I1.laid (t' := s.toks) (fun b o e => Heap.get?_push_of_some _ e) (Nat.le_refl _) (show ObjOk X.prog X.w _ _ _ (.tup ys) from ⟨hz, its, r', IsTup.new _ _⟩)
    exact ⟨.ref h'.objs.size, _, I2, rfl, q _ (I1.hok.fresh (Nat.le_refl _))⟩
  · obtain ⟨its, r', pl, hz⟩ := I.tuple hq
    exact call_tuple_same pl ⟨.ref p, H, I, rfl, q⟩

/-! ### the call of a builtin's method: o.m(..) -/
/-- the value is of that builtin type -/
def tyV (K : PySem.W.Frag) (T : String) (x : V) (H : Hp) : Prop := match x with
  | .str _ => T = "str"
  | .int _ => T = "int"
  | .ref p => (T = "list" ∧ ∃ xs, SqL K H p xs) ∨ (T = "tuple" ∧ ∃ o, K.lookup p = some o ∧ o.cls = .type "tuple" ∧ o.dict = none) ∨
      (T = "dict" ∧ ((∃ kvs, H p = some (.dK kvs)) ∨ ∃ kvs, H p = some (.dT kvs))) ∨ (T = "set" ∧ ∃ S n, H p = some (.set S n))
  | _ => False
theorem tyV_is {pins : List (Addr × Obj)} {σ : St} {H : Hp} {s : Shared} {T : String} {x : V} {v : Value} (I : Inv X pins σ H s) (r : RelV x v) (ty : tyV X.K T x H) :
    s.TypeIs v T ∧ ∀ a, v = .ref a → ∃ ob, s.heap.get? a = some ob ∧ ob.dict = none := by
  cases x with
  | str z =>
    obtain ⟨t, rfl⟩ := r
    cases (show T = "str" from ty)
    exact ⟨typeIs_str s z t, fun _ e => nomatch e⟩
  | int i =>
    obtain ⟨t, rfl⟩ := r
    cases (show T = "int" from ty)
    exact ⟨typeIs_int s i t, fun _ e => nomatch e⟩
  | ref p =>
    cases r
    rcases ty with ⟨rfl, xs, hq⟩ | ⟨rfl, o, hk, hc, hd⟩ | ⟨rfl, hk⟩ | ⟨rfl, S, n, hk⟩
    · obtain ⟨its, _, pl, _⟩ := I.list hq
      refine ⟨pl.isList.typeIs, fun a e => ?_⟩
      cases e
      obtain ⟨o, n, e, c, hd, _⟩ := pl
      exact ⟨o, e, hd⟩
    · refine ⟨⟨o, I.kIn p o hk, hc⟩, fun a e => ?_⟩
      cases e
      exact ⟨o, I.kIn _ o hk, hd⟩
    · have z : ∃ o, s.heap.get? p = some o ∧ o.ExactDict := by
        rcases hk with ⟨kvs, hk⟩ | ⟨kvs, hk⟩
        · obtain ⟨_, _, _, _, o, _, _, e, ex, _⟩ := I.hok p _ hk
          exact ⟨o, e, ex⟩
        · obtain ⟨_, _, _, _, o, _, _, e, ex, _⟩ := I.hok p _ hk
          exact ⟨o, e, ex⟩
      obtain ⟨o, e, ex⟩ := z
      refine ⟨⟨o, e, ex.1⟩, fun a e2 => ?_⟩
      cases e2
      exact ⟨o, e, ex.2.1⟩
    · obtain ⟨o, _, _, _, e, ex, _⟩ := I.hok p _ hk
      refine ⟨⟨o, e, ex.1⟩, fun a e2 => ?_⟩
      cases e2
      exact ⟨o, e, ex.2.1⟩
  | _ => exact False.elim ty
def tBM0 (K : PySem.W.Frag) (T : String) (r : V → List V → Hp → VK → Prop) (to : TE) : TE := fun σ H Q => to σ H fun x H1 => tyV K T x H1 ∧ r x [] H1 Q
def tBM (K : PySem.W.Frag) (T : String) (r : V → List V → Hp → VK → Prop) (to : TE) (t : TA) : TE := fun σ H Q => to σ H fun x H1 => tyV K T x H1 ∧ t σ H1 fun xs H2 => r x xs H2 Q
variable {o e : Expr} {es : List Expr} {to : TE} {t : TA} {name : Str} {apos cpos : Pos} {T id : String} {r : V → List V → Hp → VK → Prop}
theorem pe_bm0 (pa : PlainAttrs T) (slot : Slot T name id) (hty : typeOf (.builtin id) = pure (.type "method_descriptor")) (hm : MtR X id r) (ho : PE X o to)
    (hbase : attributeBase o name X.env (eval o X.env) = eval o X.env := by rfl) (hline : (apos.endLine == cpos.line) = true := by rfl) : PE X (.Call (.Attribute o name apos) [] [] cpos) (tBM0 X.K T r to) := by
  intro pins s σ H Q I h
  refine wpAny_Call_method0_late hbase hline (thn (ho pins s σ H _ I h) fun v s1 ⟨x, H1, I1, r1, ty, q1⟩ => ?_)
  obtain ⟨h1, h2⟩ := tyV_is I1 r1 ty
  exact ⟨T, id, pa, slot, hty, h1, h2, Calls.callWith_builtin rfl (PySem.evalArgs_none (hm pins s1 σ H1 x [] v [] Q I1 r1 .nil q1))⟩
theorem pe_bm (pa : PlainAttrs T) (slot : Slot T name id) (hty : typeOf (.builtin id) = pure (.type "method_descriptor")) (hm : MtR X id r) (ho : PE X o to) (ha : PA X (e :: es) t)
    (hbase : attributeBase o name X.env (eval o X.env) = eval o X.env := by rfl)
    (hfew : ((backTo cpos (starEach (e :: es) X.env)).all (fun x => !x.1) && (backToKw cpos (keywordEach [] X.env)).all (fun x => x.1.isSome)
      && decide ((e :: es).length + ([] : List Keyword).length + (if ([] : List Keyword).isEmpty then 0 else 1) < 30)) = true := by rfl)
    (hline : (apos.endLine == cpos.line) = true := by rfl) (hs : starEach (e :: es) X.env = (false, eval e X.env) :: starEach es X.env := by rfl) (hplain : (backTo cpos (starEach es X.env)).any (·.1) = false := by rfl) :
    PE X (.Call (.Attribute o name apos) (e :: es) [] cpos) (tBM X.K T r to t) := by
  intro pins s σ H Q I h
  refine wpAny_Call_method_late hbase hfew hline rfl (thn (ho pins s σ H _ I h) fun v s1 ⟨x, H1, I1, r1, ty, q1⟩ => ?_)
  obtain ⟨h1, h2⟩ := tyV_is I1 r1 ty
  refine ⟨T, id, pa, slot, hty, h1, h2, ?_⟩
  have hA := ha cpos pins s1 σ H1 _ I1 q1
  rw [hs] at hA ⊢
  refine Calls.callWith_builtin (by show (false || (backTo cpos (starEach es X.env)).any (·.1)) = false; rw [hplain] <;> rfl) (Calls.evalArgs_plain ?_)
  exact thn hA fun us s2 ⟨vs, H2, I2, r2, q2⟩ => hm pins s2 σ H2 x vs v us Q I2 r1 r2 q2
/- xs.append(e), list.index on a module's tuple .. are MtR facts of 06m -/
end
end L2

namespace L2
open PySem PySem.Spec PyProof.Rows

def MtM (X : Cx) (id : String) (r : V → List V → Hp → VK → Prop) : Prop :=
  ∀ (pins : List (Addr × Obj)) (s : Shared) (σ : St) (H : Hp) (x : V) (xs : List V) (v : Value) (us : List Value) (Q : VK), Inv X pins σ H s → RelV x v → Vals xs us → r x xs H Q →
    wpAny (model X.prog X.w) X.A (call (.builtin id) (v :: us)) (EP X pins σ Q) X.xe s

/-! ### lists of values -/
theorem Vals.one : ∀ {x : V} {us : List Value}, Vals [x] us → ∃ u, us = [u] ∧ RelV x u
  | _, _, .cons r .nil => ⟨_, rfl, r⟩
theorem Vals.zero : ∀ {us : List Value}, Vals [] us → us = []
  | _, .nil => rfl
theorem Vals.dropLast {xs : List V} {us : List Value} (h : Vals xs us) : Vals xs.dropLast us.dropLast := by
  induction h with
  | nil => exact .nil
  | cons r t ih =>
    cases t with
    | nil => exact .nil
    | cons q t' => exact .cons r ih
theorem Vals.reverse {xs : List V} {us : List Value} (h : Vals xs us) : Vals xs.reverse us.reverse := by
  induction h with
  | nil => exact .nil
  | cons r t ih => rw [List.reverse_cons, List.reverse_cons]; exact Vals.append ih (.cons r .nil)
theorem erase_last {α : Type} (l : List α) : l.eraseIdx (l.length - 1) = l.dropLast := by
  induction l with
  | nil => rfl
  | cons a r ih =>
    cases r with
    | nil => rfl
    | cons b r =>
      have e : (a :: b :: r).length - 1 = ((b :: r).length - 1) + 1 := by
        have h1 : (a :: b :: r).length = r.length + 2 := rfl
        have h2 : (b :: r).length = r.length + 1 := rfl
        omega
      rw [e, List.eraseIdx_cons_succ, ih]
      all_goals rfl
section
variable {X : Cx} {pins : List (Addr × Obj)} {σ : St} {H : Hp} {s : Shared} {l b : Addr} {xs ys zs : List V}

/-! ### the two steps: a tracked list is rewritten, a new list is laid -/
theorem Inv.lset {its its' : List Value} {n : Nat} {f : Array Value → Array Value} {t' : Nat} (I : Inv X pins σ H s) (hH : H l = some (.lst xs))
    (e : s.heap.get? l = some { cls := .type "list", data := .seq its.toArray n }) (hf : f its.toArray = its'.toArray) (hv : Vals ys its') (hz : ys.length ≤ sizeLine) :
    Inv X pins σ (upd H l (.lst ys)) { s with heap := s.heap.update l (Obj.mapSeq f), toks := t' } := by
  have q := PySem.IsL.update e f
  rw [hf] at q
  refine I.write (x := l) (e := l) (by rw [hH]; exact trivial) (.inl rfl) (fun b' u hb hu => (Heap.get?_update_other s.heap (Obj.mapSeq f) (Ne.symm hb)).trans hu) ⟨_, q⟩ ?_
  exact ⟨hz, its', _, hv, q⟩
theorem Inv.lnew {its : List Value} {t' : Nat} (I : Inv X pins σ H s) (hv : Vals ys its) (hz : ys.length ≤ sizeLine) :
    Inv X pins σ (upd H s.heap.objs.size (.lst ys)) { s with heap := s.heap.push { cls := .type "list", data := .seq its.toArray }, toks := t' } :=
  I.laid (fun _ _ q => Heap.get?_push_of_some _ q) (Nat.le_refl _) ⟨hz, its, 0, hv, Heap.get?_push_size _ rfl⟩
theorem Inv.fresh (I : Inv X pins σ H s) : H s.heap.objs.size = none := I.hok.fresh (Nat.le_refl _)
theorem Inv.lstM (I : Inv X pins σ H s) (hH : H l = some (.lst xs)) : xs.length ≤ sizeLine ∧ ∃ (its : List Value) (n : Nat), Vals xs its ∧ xs.length = its.length ∧ s.heap.get? l = some { cls := .type "list", data := .seq its.toArray n } := by
  obtain ⟨z, its, n, r, e⟩ := I.hok l _ hH
  exact ⟨z, its, n, r, r.length, e⟩

theorem notLongL {n : Nat} (h : n ≤ sizeLine) : Builtin.List.listTooLong n = false := by
  unfold Builtin.List.listTooLong
  exact decide_eq_false (by omega)
end

section
variable {X : Cx}

/-! ### methods -/
inductive rAppend_R (x : V) (vs : List V) (H : Hp) (Q : VK) : Prop
  | mk (l : _) (xs : _) (y : _) (h0 : x = .ref l) (h1 : vs = [y]) (h2 : H l = some (.lst xs)) (h3 : xs.length < sizeLine) (h4 : Q .non (upd H l (.lst (xs ++ [y])))) : rAppend_R x vs H Q
def rAppend : V → List V → Hp → VK → Prop := fun x vs H Q => rAppend_R x vs H Q
theorem mt_append : MtM X "list.append" rAppend := by
  intro pins s σ H x vs v us Q I rx rv h
  obtain ⟨l, xs, y, rfl, rfl, hH, hz, q⟩ := h
  cases rx
  obtain ⟨u, rfl, ru⟩ := rv.one
  obtain ⟨z, its, n, r, hl, e⟩ := I.lstM hH
  refine call_meets F.slot_list_append ⟨_, e, rfl⟩ F.entry_list_append (F.args_list_append_2 _ _) (PySem.list_append l its.toArray n u (by rw [List.size_toArray]; omega)) ⟨e, ?_⟩
  refine ⟨.non, _, I.lset (its' := its ++ [u]) hH e (by simp) (r.append (.cons ru .nil)) ?_, rfl, q⟩
  rw [List.length_append, List.length_singleton]
  omega

inductive rExtend_R (x : V) (vs : List V) (H : Hp) (Q : VK) : Prop
  | mk (l : _) (b : _) (xs : _) (zs : _) (h0 : x = .ref l) (h1 : vs = [.ref b]) (h2 : H l = some (.lst xs)) (h3 : H b = some (.lst zs)) (h4 : xs.length + zs.length ≤ sizeLine) (h5 : Q .non (upd H l (.lst (xs ++ zs)))) : rExtend_R x vs H Q
def rExtend : V → List V → Hp → VK → Prop := fun x vs H Q => rExtend_R x vs H Q
theorem mt_extend : MtM X "list.extend" rExtend := by
  intro pins s σ H x vs v us Q I rx rv h
  obtain ⟨l, b, xs, zs, rfl, rfl, hH, hB, hz, q⟩ := h
  cases rx
  obtain ⟨u, rfl, ru⟩ := rv.one
  cases ru
  obtain ⟨z, its, n, r, hl, e⟩ := I.lstM hH
  obtain ⟨z2, its2, n2, r2, hl2, e2⟩ := I.lstM hB
  have hsz : its.toArray.size + its2.toArray.size ≤ sizeLine := by rw [List.size_toArray, List.size_toArray]; omega
  have hlong : ¬ (!its.toArray.isEmpty && Builtin.List.listTooLong (its.toArray.size + its2.toArray.size)) = true := by
    rw [notLongL hsz, Bool.and_false]
    exact Bool.false_ne_true
  refine call_meets F.slot_list_extend ⟨_, e, rfl⟩ F.entry_list_extend (F.args_list_extend_2 _ _)
    (AutoSeq1.list_extend_list_list_0 l its.toArray n b its2.toArray n2 hlong (by rw [List.size_toArray]; omega) (by omega)) ⟨e, e2, ?_⟩
  refine ⟨.non, _, I.lset (its' := its ++ its2) hH e (by simp) (r.append r2) ?_, rfl, q⟩
  rw [List.length_append]
  omega

inductive rPop_R (x : V) (vs : List V) (H : Hp) (Q : VK) : Prop
  | mk (l : _) (xs : _) (y : _) (h0 : x = .ref l) (h1 : vs = []) (h2 : H l = some (.lst xs)) (h3 : xs[xs.length - 1]? = some y) (h4 : Q y (upd H l (.lst xs.dropLast))) : rPop_R x vs H Q
def rPop : V → List V → Hp → VK → Prop := fun x vs H Q => rPop_R x vs H Q
theorem mt_pop : MtM X "list.pop" rPop := by
  intro pins s σ H x vs v us Q I rx rv h
  obtain ⟨l, xs, y, rfl, rfl, hH, hy, q⟩ := h
  cases rx
  have hus := rv.zero
  subst hus
  obtain ⟨z, its, n, r, hl, e⟩ := I.lstM hH
  obtain ⟨u, hu, ru⟩ := r.get hy
  have hy' : its.toArray[its.toArray.size - 1]? = some u := by
    show its.toArray[its.length - 1]? = some u
    rw [← Array.getElem?_toList, ← hl]
    exact hu
  refine call_meets F.slot_list_pop ⟨_, e, rfl⟩ F.entry_list_pop (F.args_list_pop_1 _) (MeetsSeq.list_pop_last l its.toArray n u hy' (by rw [List.size_toArray]; omega)) ⟨e, ?_⟩
  refine ⟨y, _, I.lset (its' := its.dropLast) hH e ?_ r.dropLast ?_, ru, q⟩
  · show its.toArray.eraseIdxIfInBounds (its.toArray.size - 1) = its.dropLast.toArray
    rw [List.size_toArray, List.eraseIdxIfInBounds_toArray, erase_last]
  · rw [List.length_dropLast]
    omega

/-! ### list + list, list += list, list * int -/
inductive rCat_R (x : V) (y : V) (H : Hp) (Q : VK) : Prop
  | mk (l : _) (b : _) (xs : _) (zs : _) (h0 : x = .ref l) (h1 : y = .ref b) (h2 : H l = some (.lst xs)) (h3 : H b = some (.lst zs)) (h4 : xs.length + zs.length ≤ sizeLine) (h5 : ∀ p, H p = none → Q (.ref p) (upd H p (.lst (xs ++ zs)))) : rCat_R x y H Q
def rCat : R2 := fun x y H Q => rCat_R x y H Q
theorem op_cat : OpR X (binaryOp .Add) rCat := by
  intro pins s σ H x y v u Q I rx ry h
  obtain ⟨l, b, xs, zs, rfl, rfl, hH, hB, hz, q⟩ := h
  cases rx
  cases ry
  obtain ⟨z, its, n, r, hl, e⟩ := I.lstM hH
  obtain ⟨z2, its2, n2, r2, hl2, e2⟩ := I.lstM hB
  refine PySem.P.add_list e e2 ?_ (by rw [List.size_toArray, List.size_toArray]; omega)
  have ea : its.toArray ++ its2.toArray = (its ++ its2).toArray := by simp
  rw [ea]
  exact ⟨.ref _, _, I.lnew (t' := s.toks) (r.append r2) (by rw [List.length_append]; omega), rfl, q _ I.fresh⟩
/-! ### del xs[i] -/
end

/-! ### xs[a:b] = ys -/
section
variable {prog : Program} {w : World} {A : Around} {E : Value → Shared → Prop} {s : Shared}
set_option maxRecDepth 100000 in
end

section
variable {X : Cx}
end
end L2

namespace Att
open PySem PySem.W PySem.Calls PyProof.Rows

/-! ### the script -/
theorem ints_of_wellAll {P : Params} {h : Heap} : ∀ (ns : List Int) (vs : List Value), WellAll P h vs (ns.map WData.int) → IntsAre vs ns := by
  intro ns
  induction ns with
  | nil =>
    intro vs w
    rw [List.map_nil] at w
    cases w
    exact .nil
  | cons n ns ih =>
    intro vs w
    rw [List.map_cons] at w
    cases w with
    | cons a b =>
      cases a
      exact .cons _ _ (ih _ b)

theorem script_of {l : OpenLaw} {n : Nat} (hn : l.most = some n) {P : Params} {h : Heap} {args : List WData} {vals : List Value}
    (hpre : l.row.toRowW.claim.pre args = true) (hwl : WellAll P h vals args) :
    ∃ a vs ns, vals = [Value.ref a] ∧ args = [WData.list (ns.map WData.int)] ∧ h.get? a = some { cls := .type "list", data := .seq vs.toArray } ∧ IntsAre vs ns ∧ ns.length ≤ n := by
  have hsh : WShape.hasAll [] args [.list .int] = true := (pre_splitW hpre).1
  have hc : l.pre.holds [] { args := args } = true := (pre_splitW hpre).2
  obtain ⟨d, r, rfl, h1, h2⟩ := hasAllW_cons hsh
  obtain rfl := hasAllW_nil h2
  obtain ⟨xs, rfl, h3⟩ := hasW_list h1
  obtain ⟨ns, rfl⟩ := items_int h3
  have hlen : ns.length ≤ n := by
    unfold OpenLaw.pre at hc
    have h4 : (WTm.not (.lt (.lit (.int (n : Int))) (.len (.arg 0)))).holds [] { args := [.list (ns.map .int)] } = true := by
      have h4 := (holds_andW hc).1
      rw [hn] at h4
      exact h4
    have h5 := condW_of h4 (w_not (w_lt w_lit (w_len_list (w_arg rfl))))
    rw [List.length_map] at h5
    refine Nat.le_of_not_lt fun q => ?_
    have q' : (n : Int) < ((ns.length : Nat) : Int) := by omega
    first
      | (rw [decide_eq_true q'] at h5; exact absurd h5 (by decide))
      | (simp at h5; omega)
  cases hwl with
  | cons w1 w2 =>
    cases w2
    cases w1 with
    | list ho hall => exact ⟨_, _, ns, rfl, rfl, ho, ints_of_wellAll ns _ hall, hlen⟩

theorem post_true (l : OpenLaw) (args : List WData) : l.row.toRowW.claim.post args (.bool true) args = true :=
  postW_of (r := l.row.toRowW) (X := (true == true))
    (show WShape.has [] (.bool true) .bool = true by first | rfl | decide | simp [WShape.has, WShape.arms, WShape.armsAll])
    (show (WTm.eq .res (.lit (.bool true))).value [] { args := args, res := some (.bool true), after := args } = some (.bool (true == true)) from w_eq_bool (w_res rfl) w_lit) rfl

/-! ### the attachment: holds_open's last premise (the goal 'hc' behind k_head) from a wpAny of the law's body -/
/-- the same from a codeAny of the CALL (for a layer whose function contracts speak of calls) -/
theorem attach_call {l : OpenLaw} {n : Nat} {q : Program} {loose : List Str} {XP : (Str → Option Value) → Heap → Prop} {YP : World → Heap → Prop} {d : DefRec}
    (hn : l.most = some n) (hdf : d.params.defaults = [])
    (call : ∀ (w : World) (s₀ s₁ : Shared) (mg mb : Str → Option Value) (fa : Addr) (o : Obj) (pm cd doc : Value) (a : Addr) (vs : List Value) (ns : List Int),
      Ground q loose [] XP w s₀ mg mb s₁.heap → YP w s₁.heap →
      s₁.heap.get? fa = some o → o.data = .func (docDef d.name d.params d.body d.scope pm cd doc) → s₁.heap.CodeRec cd d.name → mg d.name = some (.ref fa) →
      s₁.heap.get? a = some { cls := .type "list", data := .seq vs.toArray } → IntsAre vs ns → ns.length ≤ n → s₁.gens = #[] →
      codeAny (model l.prog w) callerA (.call (.ref fa) ⟨[.ref a], []⟩) (fun r s' => r = .ok (.ret (.bool true)) ∧ OldK s₁.heap s'.heap ∧ s'.os = s₁.os ∧ AllBare s'.gens) s₁) :
    WalkO q loose XP YP l.row.toRowW d [] (fun f vs => PySem.call f vs) := by
  intro w s₀ s₁ mg mb G Y fa o pm cd doc dV kV ho hd hcd hD hmg hg args vals as hpre hlay hrd hwl hlo
  obtain rfl : dV = .none := Dflts.none hD hdf
  obtain rfl : kV = .none := Dflts.noKw hD
  obtain ⟨a, vs, ns, rfl, rfl, hobj, hints, hlen⟩ := script_of hn hpre hwl
  refine enter_call (codeAny_mono (call w s₀ s₁ mg mb fa o pm cd doc a vs ns G Y ho (fd_plain hd) hcd hmg hobj hints hlen hg) fun r s' hq => ?_)
  obtain ⟨rfl, h2, h3, h4⟩ := hq
  exact ⟨.inl ⟨.bool true, .bool true, [], rfl, fun _ => rfl, .bool true, post_true l _, fun _ => ⟨List.Pairwise.nil, fun _ hm => (nomatch hm)⟩⟩, h2, h3, h4⟩

/-! ### rules over ANY heap (no ledger) from facts about the written part K: the library's own take a ledger (News) for what they write -/
section
variable {prog : Program} {w : World} {A : Around} {E : Value → Shared → Prop} {s : Shared} {K : Frag}

/-! the whole heap as the ledger: makes every rule that writes through a ledger a rule over any heap -/
def ledger (h : Heap) (L d : Addr) : List (Addr × Obj) := (List.range h.objs.size).filterMap fun a => if a = L ∨ a = d then none else (h.get? a).map fun o => (a, o)
end
end Att

namespace L2
open PySem PySem.Spec PyProof.Rows

theorem vals_ints : ∀ {vs : List Value} {ns : List Int}, IntsAre vs ns → Vals (ns.map V.int) vs
  | _, _, .nil => .nil
  | _, _, .cons n t h => .cons ⟨t, rfl⟩ (vals_ints h)

/-- nothing is tracked but the script, known to the object (or it is an object of the module) -/
def Only (H : Hp) : Prop := ∀ b, H b = none ∨ ∃ o xs, H b = some (.frz o (.lst xs))

/-- THE HEAD: the law's promise, at the heap behind the top. F, the promise of the law's def, may use that base is part of the heap (so K.In base, base.Ns mainGlobals mg stand in Mod) -/
theorem law_call {P : Program} {w : World} {K : PySem.W.Frag} {mg mb : Str → Option Value} {CX : CXT} {k : Nat} {fa a : Addr} {fd : FuncData} {x : Str} {sp : Sp} {s₁ : Shared} {vs : List Value} {ns : List Int}
    (KX : K.In s₁.heap) (hns : s₁.heap.Ns mainGlobals mg) (hb : s₁.heap.Ns builtinsNs mb) (hbb : ∀ x : Str, x ≠ "__name__" → mb x = bootBuiltins x) (hlim : s₁.heap.NoLimit) (hg : s₁.gens = #[])
    (ha : s₁.heap.get? a = some { cls := .type "list", data := .seq vs.toArray }) (hi : IntsAre vs ns) (hl : ns.length ≤ sizeLine) (hr : Room k callerA)
    (F : ∀ base : Heap, K.In base → base.Ns mainGlobals mg → FnOk P w K mg base CX k fa fd [x] sp) (hbind : ∀ (s : Shared) (u : Value), BindsTo s fd ⟨[u], []⟩ [(x, u)])
    (hsp : ∀ H : Hp, Only H → SqL K H a (ns.map V.int) → sp [.ref a] H (fun v _ => v = .bl true) fun _ _ _ => False)
    (hCX : ∀ H e s', CX [] H s₁ (fun _ _ _ => False) e s' → False) :
    codeAny (model P w) callerA (.call (.ref fa) ⟨[.ref a], []⟩) (fun r s' => r = .ok (.ret (.bool true)) ∧ OldK s₁.heap s'.heap ∧ s'.os = s₁.os ∧ AllBare s'.gens) s₁ := by
  have rv := vals_ints hi
  have lenV := hi.length
  -- from an abstract heap in which nothing but the script may be tracked
  have core : ∀ H : Hp, Only H → SqL K H a (ns.map V.int) → HOk P w H s₁.heap → (∀ b, H b ≠ none → b = a) → (H a ≠ none → K.lookup a = none) →
      codeAny (model P w) callerA (.call (.ref fa) ⟨[.ref a], []⟩) (fun r s' => r = .ok (.ret (.bool true)) ∧ OldK s₁.heap s'.heap ∧ s'.os = s₁.os ∧ AllBare s'.gens) s₁ := by
    intro H hO hS hok hA hK
    have base_of : ∀ {b : Addr} {o : Obj}, s₁.heap.get? b = some o → H b = none → (hidT s₁.heap H).get? b = some o := fun e n => hidT_get e n
    have noA : ∀ {b : Addr} {o : Obj} {es : Array DictEntry} {ep : Nat}, s₁.heap.get? b = some o → o.data = .dict es ep → H b = none := fun {b o es ep} e d => by
      cases q : H b with
      | none => rfl
      | some u =>
        have e' : b = a := hA b (by rw [q]; simp)
        subst e'
        rw [ha] at e; cases e
        have d' : Data.seq vs.toArray _ = Data.dict es ep := d
        cases d'
    have nsK : ∀ {b : Addr} {m : Str → Option Value}, s₁.heap.Ns b m → (hidT s₁.heap H).Ns b m := fun {b m} ⟨o, es, ep, e, d, r⟩ => ⟨o, es, ep, base_of e (noA e d), d, r⟩
    have hKb : K.In (hidT s₁.heap H) := fun b o e => base_of (KX b o e) (by
      cases q : H b with
      | none => rfl
      | some u =>
        have e' : b = a := hA b (by rw [q]; simp)
        subst e'
        rw [hK (by rw [q]; simp)] at e; cases e)
    have hM : Mod K mg (hidT s₁.heap H) := ⟨hKb, nsK hns, ⟨mb, nsK hb, hbb⟩, let ⟨mc, h1, h2⟩ := hlim; ⟨mc, nsK h1, h2⟩⟩
    have e0 : Env0 P w K mg (hidT s₁.heap H) callerA [] s₁ H := ⟨rfl, hM, fun b o e => of_hidT e, Nat.le_of_eq (hidT_size _ _), trivial, fun b hb => absurd (show b ∈ ([] : List Addr) from hb) (by simp), hok, .of_eq hg⟩
    refine codeAny_mono ((F _ hKb (nsK hns)).run callerA [] s₁ H ⟨[.ref a], []⟩ [.ref a] [.ref a] _ _ hr e0 (hbind s₁ (.ref a)) (.cons rfl .nil) (hsp H hO hS)) fun r s' h => ?_
    cases r with
    | error e => exact (hCX H e s' h).elim
    | ok fl =>
      cases fl with
      | next => exact False.elim h
      | brk => exact False.elim h
      | cont => exact False.elim h
      | ret u =>
        obtain ⟨v, H', os, bare, un, hok', r', q⟩ := h
        have q' : v = .bl true := q
        subst q'
        obtain rfl : u = Value.bool true := r'
        refine ⟨rfl, OldK.of_keep fun b o e => ?_, os, bare⟩
        cases q : H b with
        | none => exact un.keep b o e q (by intro z; exact absurd (show b ∈ ([] : List Addr) from z) (by simp)) (by simp)
        | some u =>
          rcases hO b with z | ⟨ob, xs, z⟩
          · rw [q] at z; cases z
          · have z2 := un.frzs b ob _ z
            obtain ⟨e1, _⟩ := hok b _ z
            obtain ⟨e2, _⟩ := hok' b _ z2
            rw [e] at e1; cases e1
            exact e2
  cases hk : K.lookup a with
  | some o =>
    -- the script is one of the module's own objects
    have e := KX a o hk
    rw [ha] at e
    cases e
    refine core (fun _ => none) (fun _ => .inl rfl) (.inr ⟨_, vs.toArray, _, hk, rfl, rfl, rfl, by rw [List.size_toArray, lenV]; exact hl, by simpa using rv⟩) (fun b u z => by have z' : (none : Option HO) = some u := z; cases z') (fun b z => absurd rfl z) fun z => absurd rfl z
  | none =>
    refine core (fun b => if b = a then some (.frz { cls := .type "list", data := .seq vs.toArray } (.lst (ns.map V.int))) else none) (fun b => ?_) (.inl (.inr ⟨{ cls := .type "list", data := .seq vs.toArray }, if_pos rfl⟩)) (fun b u z => ?_) (fun b z => ?_) fun _ => hk
    · by_cases hb : b = a
      · exact .inr ⟨_, _, if_pos hb⟩
      · exact .inl (if_neg hb)
    · by_cases hb : b = a
      · have z' := (if_pos hb).symm.trans z
        cases z'
        subst hb
        exact ⟨ha, by rw [List.length_map]; exact hl, vs, _, rv, ha⟩
      · have z' := (if_neg hb).symm.trans z
        cases z'
    · by_cases hb : b = a
      · exact hb
      · exact absurd (if_neg hb) z
end L2

namespace L2
open PySem PySem.Spec PyProof.Rows

/-- the goal that k_head leaves (case hc), from the law's promise. F gives the function object fd (K's own) once, then the promise over every base -/
theorem walk_of {l : PySem.W.OpenLaw} {n k : Nat} {q : Program} {loose : List Str} {XP : (Str → Option Value) → Heap → Prop} {YP : World → Heap → Prop} {d : DefRec} {K : Params → PySem.W.Frag} {CX : World → CXT} {sp : World → Sp} {x : Str}
    (hn : l.most = some n) (hn2 : n ≤ sizeLine) (hdf : d.params.defaults = []) (hr : Room k callerA)
    (hY : ∀ (w : World) (h : Heap), YP w h → (K w.params).In h)
    (F : ∀ (w : World) (mg : Str → Option Value) (fa : Addr) (h : Heap), (K w.params).In h → h.Ns mainGlobals mg → mg d.name = some (.ref fa) →
      ∃ fd : FuncData, (∀ (s : Shared) (u : Value), BindsTo s fd ⟨[u], []⟩ [(x, u)]) ∧
        ∀ base : Heap, (K w.params).In base → base.Ns mainGlobals mg → FnOk l.prog w (K w.params) mg base (CX w) k fa fd [x] (sp w))
    (hsp : ∀ (w : World) (H : Hp) (a : Addr) (ns : List Int), ns.length ≤ n → Only H → SqL (K w.params) H a (ns.map V.int) → sp w [.ref a] H (fun v _ => v = .bl true) fun _ _ _ => False)
    (hCX : ∀ (w : World) (H : Hp) (s : Shared) (e : Value) (s' : Shared), CX w [] H s (fun _ _ _ => False) e s' → False) :
    PySem.W.WalkO q loose XP YP l.row.toRowW d [] (fun f vs => PySem.call f vs) := by
  refine Att.attach_call hn hdf fun w s₀ s₁ mg mb fa o pm cd doc a vs ns G Y ho hd hcd hmg hobj hints hlen hg => ?_
  have KX := hY w _ Y
  obtain ⟨fd, hb, hF⟩ := F w mg fa _ KX G.T.g hmg
  exact law_call KX G.T.g G.T.b G.T.builtins G.T.nolimit hg hobj hints (Nat.le_trans hlen hn2) hr hF hb (fun H hO hS => hsp w H a ns hlen hO hS) fun H e s' => hCX w H s₁ e s'
end L2

/- THE LAST THEOREM (shape; LID, My.* are yours):
   My.Adr: a structure of the addresses that your layer names (classes, functions); My.Txt K t: a structure (Prop) of the equations over K;
   My.txt_mk : {K} {implicit addresses ..} (e1 : nsIn K mainGlobals "law" = some (some (.ref f))) (e2 : K.lookup f = some ⟨oc, od, .func (fnOf "law" "law" params body scope dV kV doc pm an cdv ct), sl⟩) (e3 : codeIn K cdv "law" = true) .. : ∃ t, My.Txt K t

set_option maxRecDepth 100000 in
set_option maxHeartbeats 0 in
theorem PySem.Challenge.cw_LID_holds : PySem.Challenge.rw_LID.Holds := by
  w_on; o_law; k_head; (case hw => w_witness2)
  k_fill
  refine L2.walk_of (l := PySem.Challenge.rw_LID) (n := 63) (k := 40) (x := "script") (CX := fun w => ..) (sp := fun _ => My.sp_law) rfl (by decide) rfl ⟨rfl, by decide, by decide⟩ (fun w h Y => PySem.W.kIn_of Y) ?F ?S ?C
  case F =>
    intro w mg fa h KX G hmg
    have T : ∃ t, My.Txt (L2.KOf KX) t := by
      dsimp only [L2.KOf]                          -- K must stand as «<heap const> w.params» for k_is
      refine' My.txt_mk ?e1 ?e2 ?e3 ..
      (case e1 => PySem.W.k_is)                    -- in the order: a name -> its address -> its object -> its parts
      (case e2 => PySem.W.k_is)
      ..
    obtain ⟨t, T⟩ := T
    have e0 := hmg.symm.trans (PySem.W.mg_of KX G T.law)
    cases e0                                       -- fa is the law's own address
    exact ⟨_, fun s u => .of_eq rfl, fun base kb nb => My.law_fn T kb nb⟩     -- if «.of_eq rfl» comes too early: refine' ⟨_, ?b, fun base kb nb => My.law_fn T kb nb⟩; exact fun s u => .of_eq rfl
  case S => exact fun w H a ns hl hO hS => ..
  case C => exact ..
(the tactic k_is has no namespace: write k_is) -/

/-! SHORT WORDS over the layer: a def of the text, its body, what a loop and a test want. -/
namespace L2
open PySem PySem.Spec PyProof.Rows

/-! ### the text by places -/
/-- the j-th statement of a class's body -/
def inClass (s : Stmt) (j : Nat) : Stmt := match s with
  | .ClassDef _ _ _ body _ _ _ _ _ _ _ => body.getD j (.Pass ⟨0, 0, 0, 0⟩)
  | _ => .Pass ⟨0, 0, 0, 0⟩
def defArgs (s : Stmt) : Arguments := match s with
  | .FunctionDef _ a _ _ _ _ _ _ _ _ => a
  | _ => { posonlyargs := [], args := [], vararg := none, kwonlyargs := [], kw_defaults := [], kwarg := none, defaults := [] }
def defBody (s : Stmt) : List Stmt := match s with
  | .FunctionDef _ _ b _ _ _ _ _ _ _ => b
  | _ => []
def defScope (s : Stmt) : Scope := match s with
  | .FunctionDef _ _ _ _ _ _ sc _ _ _ => sc
  | _ => { kind := .function, names := [], isGenerator := false, isCoroutine := false }

/-! ### no exception leaves a def -/
abbrev CX0 : CXT := fun _ _ _ _ _ _ => False
abbrev E0 : XK := fun _ _ _ => False
theorem pass0 {X : Cx} : Passes CX0 X E0 := fun _ _ _ _ _ _ _ h => h.elim

/-! ### a def (or method) of the text as it stands behind the top -/
structure Fun (K : PySem.W.Frag) (x qual : Str) (st : Stmt) (f : Addr) (fd : FuncData) : Prop where
  ex : ∃ (oc : Value) (od : Option Addr) (kV doc pm : Value) (an : Option Addr) (cdv ct : Value) (osl : Array (Option Value)),
    fd = PySem.W.fnOf x qual (defArgs st) (defBody st) (defScope st) .none kV doc pm an cdv ct ∧ K.lookup f = some ⟨oc, od, .func fd, osl⟩ ∧ PySem.W.codeIn K cdv qual = true
  kp : PySem.W.keepIn K (.ref f) = true
section
variable {P : Program} {w : World} {K : PySem.W.Frag} {mg : Str → Option Value} {base : Heap}
/-- THE RULE for a def: its body as a term of rules, and the reading of that term -/
theorem Fun.ok {x qual : Str} {st : Stmt} {f : Addr} {fd : FuncData} {N ps : List Str} {k : Nat} {sp : Sp} (F : Fun K x qual st f fd) (S : FnScope N ps (defScope st)) (len : ∀ vs H Q E, sp vs H Q E → vs.length = ps.length)
    (hbody : ∀ (cdv : Value) (A : Around) (outer : List Env) (s : Shared) (H : Hp) (vs : List V) (Q : VK) (E : XK), Room k (A.deeper (envOfC qual (defScope st) s.heap.objs.size f cdv)) → sp vs H Q E →
      ∃ t, PSs (cxOf CX0 P w K mg base N qual (defScope st) f cdv A outer s H E).nox (defBody st) t ∧ t { nx := fun _ H' => Q .non H', rt := Q } (start N vs) H) : FnOk P w K mg base CX0 (k + 1) f fd ps sp := by
  obtain ⟨oc, od, kV, doc, pm, an, cdv, ct, osl, rfl, lk, hcd⟩ := F.ex
  refine fn_of lk hcd S len fun A outer s H vs Q E hr hsp => ?_
  obtain ⟨t, h, q⟩ := hbody cdv A outer s H vs Q E hr hsp
  exact ⟨t, h.nox, q⟩
/-- how its arguments bind (no defaults): h is «fun _ _ _ _ _ _ us hl => match us, hl with | [_, _], _ => rfl», one _ a parameter -/
theorem Fun.binds {x qual : Str} {st : Stmt} {f : Addr} {fd : FuncData} {ps : List Str} (F : Fun K x qual st f fd)
    (h : ∀ (kV doc pm : Value) (an : Option Addr) (cdv ct : Value) (us : List Value), us.length = ps.length → bindArgs (PySem.W.fnOf x qual (defArgs st) (defBody st) (defScope st) .none kV doc pm an cdv ct) ⟨us, []⟩ = pure (ps.zip us)) : Binds K fd ps [] := by
  obtain ⟨oc, od, kV, doc, pm, an, cdv, ct, osl, rfl, lk, hcd⟩ := F.ex
  exact .all (h kV doc pm an cdv ct)
theorem fun_mk {x qual : Str} {st : Stmt} {f : Addr} {oc : Value} {od an : Option Addr} {osl : Array (Option Value)} {kV doc pm cdv ct : Value} (l : K.lookup f = some ⟨oc, od, .func (PySem.W.fnOf x qual (defArgs st) (defBody st) (defScope st) .none kV doc pm an cdv ct), osl⟩)
    (c : PySem.W.codeIn K cdv qual = true) (k : PySem.W.keepIn K (.ref f) = true) : Fun K x qual st f (PySem.W.fnOf x qual (defArgs st) (defBody st) (defScope st) .none kV doc pm an cdv ct) := ⟨⟨oc, od, kV, doc, pm, an, cdv, ct, osl, rfl, l, c⟩, k⟩
end
/-! ### expressions in short: the name that stands in the i-th slot -/
section
variable {X : Cx}
theorem pv (i : Nat) {x : Str} {pos : Pos} (hN : X.N[i]? = some x := by rfl) (hv : Vis X.env.scope x := by first | exact Or.inl rfl | exact Or.inr (Or.inl rfl) | exact Or.inr (Or.inr rfl)) (hd : (x == ("__debug__" : Str)) = false := by decide)
    (hcd : (x == ("__classdict__" : Str)) = false := by decide) : PE X (.Name x pos) (tVar i) := pe_var hN hv hd hcd
end

/-! ### tests -/
theorem iteF {A B : Prop} (h : B) : if false = true then A else B := by
  rw [if_neg Bool.false_ne_true]
  exact h
theorem iteT {A B : Prop} (h : A) : if true = true then A else B := by
  rw [if_pos rfl]
  exact h
theorem ite2 {c A B : Prop} [Decidable c] (h1 : c → A) (h2 : ¬ c → B) : if c then A else B := by
  by_cases h : c
  · rw [if_pos h]
    exact h1 h
  · rw [if_neg h]
    exact h2 h
theorem iteNS {c A B : Prop} [Decidable c] (hc : c) (h : B) : if (!decide c) = true then A else B := by
  rw [decide_eq_true hc]
  exact iteF h

/-! ### heaps -/
/-- all that was tracked is as it was -/
def Same (H H' : Hp) : Prop := ∀ b o, H b = some o → H' b = some o
theorem Same.refl (H : Hp) : Same H H := fun _ _ h => h
theorem Same.trans {H H1 H2 : Hp} (a : Same H H1) (b : Same H1 H2) : Same H H2 := fun c o h => b c o (a c o h)
theorem Same.free {H H' : Hp} (e : Same H H') {l : Addr} (h : H' l = Option.none) : H l = Option.none := by
  cases q : H l with
  | none => rfl
  | some o =>
    rw [e l o q] at h
    cases h
theorem Same.seq {K : PySem.W.Frag} {H H' : Hp} {a : Addr} {xs : List V} (e : Same H H') (h : SqL K H a xs) : SqL K H' a xs := by
  rcases h with (h | ⟨o, h⟩) | h
  · exact .inl (.inl (e _ _ h))
  · exact .inl (.inr ⟨o, e _ _ h⟩)
  · exact .inr h

end L2

set_option Elab.async false
set_option linter.all false
set_option maxRecDepth 100000
set_option maxHeartbeats 4000000
namespace L3
open PySem PySem.Spec PyProof.Rows L2
abbrev St := L2.St

/-- the inner names' values: an own name has none yet, a captured one has its slot's -/
def sub (ix : List (Option Nat)) (σ : St) : St := ix.map fun o => o.bind fun j => (σ[j]?).join

theorem thnF {α : Type} {t : Sem α} {Q Q' : α → Shared → Prop} {M : Model} {A : Around} {E : Value → Shared → Prop} {s : Shared} (h : wpAny M A t Q (fun _ _ => False) s) (hQ : ∀ a s, Q a s → Q' a s) : wpAny M A t Q' E s :=
  wpAny_mono h hQ fun _ _ z => z.elim

/-- the tests behind a comprehension's for -/
def PTs (X : Cx) (ifs : List Expr) (t : TT) : Prop :=
  ∀ (pins : List (Addr × Obj)) (s : Shared) (σ : St) (H : Hp) (Q : Bool → Hp → Prop), Inv X pins σ H s → t σ H Q →
    wpAny (model X.prog X.w) X.A (forIn ifs true fun c r => if r = true then do let ok ← isTrue c X.env (eval c X.env); pure (ForInStep.yield ok) else pure (ForInStep.yield r)) (TP X pins σ Q) X.xe s
def tTrue : TT := fun _ H Q => Q true H
theorem pts_nil {X : Cx} : PTs X [] tTrue := fun _ _ _ H _ I h => wpAny_tests_nil ⟨H, I, h⟩
theorem pts_one {X : Cx} {c : Expr} {t : TT} (h : PT X c t) : PTs X [c] t := fun pins s σ H Q I q => wpAny_tests_one (h pins s σ H Q I q)

/-! ### what is captured -/
def closOf (scope : Scope) (env : Env) : List (Str × Addr) := (scope.names.filter fun y => y.2 == .free).reverse.map fun y => (y.1, (env.cells.lookup y.1).getD 0)

theorem clos_loop {env : Env} : ∀ (ns : List (Str × NameKind)) (acc : List (Str × Addr)), (∀ y ∈ ns, y.2 = .free → (env.cells.lookup y.1).isSome = true) →
    (forIn ns acc fun (x : Str × NameKind) (r : List (Str × Addr)) => if x.2 == .free then do let a ← cellOf env x.1; pure (ForInStep.yield ((x.1, a) :: r)) else pure (ForInStep.yield r) : Sem (List (Str × Addr))) =
      pure ((ns.filter fun y => y.2 == .free).reverse.map (fun y => (y.1, (env.cells.lookup y.1).getD 0)) ++ acc) := by
  intro ns
  induction ns with
  | nil => intro acc _; rfl
  | cons y r ih =>
    intro acc h
    have hr : ∀ z ∈ r, z.2 = .free → (env.cells.lookup z.1).isSome = true := fun z hz => h z (List.mem_cons_of_mem _ hz)
    rw [List.forIn_cons]
    by_cases hf : (y.2 == NameKind.free) = true
    · have hs := h y List.mem_cons_self (by simpa using hf)
      obtain ⟨c, hc⟩ := Option.isSome_iff_exists.mp hs
      have e1 : cellOf env y.1 = pure c := by unfold cellOf; rw [hc]
      rw [if_pos hf, e1, pure_bind, pure_bind]
      refine (ih _ hr).trans ?_
      rw [List.filter_cons_of_pos (by simpa using hf), List.reverse_cons, List.map_append]
      simp [hc]
    · rw [if_neg hf, pure_bind]
      refine (ih _ hr).trans ?_
      rw [List.filter_cons_of_neg (by simpa using hf)]
theorem clos_eq {scope : Scope} {env : Env} (h : ∀ y ∈ scope.names, y.2 = .free → (env.cells.lookup y.1).isSome = true) : closureFor scope env = pure (closOf scope env) := by
  have e := clos_loop (env := env) scope.names [] h
  rw [List.append_nil] at e
  unfold closureFor
  rw [show closOf scope env = (scope.names.filter fun y => y.2 == .free).reverse.map (fun y => (y.1, (env.cells.lookup y.1).getD 0)) from rfl]
  rw [← pure_bind (m := Sem) ((scope.names.filter fun y => y.2 == .free).reverse.map (fun y => (y.1, (env.cells.lookup y.1).getD 0))) pure, ← e]
theorem lookup_pairs {β : Type} (f : Str → β) : ∀ (l : List (Str × NameKind)) (x : Str), (l.map fun y => (y.1, f y.1)).lookup x = if x ∈ l.map (·.1) then some (f x) else none
  | [], x => by simp
  | y :: r, x => by
    rw [List.map_cons, List.lookup_cons, lookup_pairs f r x]
    by_cases e : x = y.1
    · subst e; simp
    · have hb : (x == y.1) = false := by simpa using e
      rw [hb]
      by_cases hm : x ∈ r.map (·.1)
      · rw [if_pos hm, if_pos (by rw [List.map_cons]; exact List.mem_cons_of_mem _ hm)]
      · rw [if_neg hm, if_neg (by rw [List.map_cons]; intro z; rcases List.mem_cons.mp z with z | z; exact e z; exact hm z)]
theorem clos_some {scope : Scope} {env : Env} {x : Str} {c : Addr} (h : ∀ y ∈ scope.names, y.2 = .free → (env.cells.lookup y.1).isSome = true) (e : (closOf scope env).lookup x = some c) : env.cells.lookup x = some c := by
  unfold closOf at e
  rw [lookup_pairs (fun z => (env.cells.lookup z).getD 0)] at e
  split at e
  · rename_i hx
    obtain ⟨y, hy, rfl⟩ := List.mem_map.mp hx
    obtain ⟨h1, h2⟩ := List.mem_filter.mp (List.mem_reverse.mp hy)
    obtain ⟨d, hd⟩ := Option.isSome_iff_exists.mp (h y h1 (by simpa using h2))
    have e' := Option.some.inj e
    rw [hd] at e' ⊢
    exact congrArg some e'
  · cases e
theorem clos_has {scope : Scope} {env : Env} {x : Str} (hx : (x, NameKind.free) ∈ scope.names) : ∃ c, (closOf scope env).lookup x = some c := by
  unfold closOf
  rw [lookup_pairs (fun z => (env.cells.lookup z).getD 0), if_pos]
  · exact ⟨_, rfl⟩
  · exact List.mem_map.mpr ⟨(x, .free), List.mem_reverse.mpr (List.mem_filter.mpr ⟨hx, by simp⟩), rfl⟩
theorem relabel_kind {env : Env} : ∀ {names : List (Str × NameKind)} {x : Str} {k : NameKind},
    (names.map fun (n, k) => if (k == NameKind.free && env.scope.kind == .function && env.kindOf n == some .cell) then (n, NameKind.cell) else (n, k)).lookup x = some k →
      names.lookup x = some k ∨ (k = .cell ∧ names.lookup x = some .free)
  | [], _, _, h => by simp at h
  | (n, k0) :: r, x, k, h => by
    rw [List.map_cons] at h
    dsimp only at h
    cases hx : x == n with
    | true =>
      by_cases hc : (k0 == NameKind.free && env.scope.kind == .function && env.kindOf n == some .cell) = true
      · rw [if_pos hc] at h
        simp only [List.lookup_cons, hx] at h ⊢
        have : k0 = .free := by
          have h1 := (Bool.and_eq_true _ _ ▸ ((Bool.and_eq_true _ _ ▸ hc).1)).1
          simpa using h1
        exact .inr ⟨(Option.some.inj h).symm, by rw [this]⟩
      · rw [if_neg hc] at h
        simp only [List.lookup_cons, hx] at h ⊢
        exact .inl h
    | false =>
      have h' : (r.map fun (n, k) => if (k == NameKind.free && env.scope.kind == .function && env.kindOf n == some .cell) then (n, NameKind.cell) else (n, k)).lookup x = some k := by
        by_cases hc : (k0 == NameKind.free && env.scope.kind == .function && env.kindOf n == some .cell) = true
        · rw [if_pos hc] at h; simpa only [List.lookup_cons, hx] using h
        · rw [if_neg hc] at h; simpa only [List.lookup_cons, hx] using h
      simp only [List.lookup_cons, hx]
      exact relabel_kind h'
theorem relabel_free {env : Env} : ∀ {names : List (Str × NameKind)} {x : Str}, names.lookup x = some .free →
    (names.map fun (n, k) => if (k == NameKind.free && env.scope.kind == .function && env.kindOf n == some .cell) then (n, NameKind.cell) else (n, k)).lookup x = some .cell ∨
    (names.map fun (n, k) => if (k == NameKind.free && env.scope.kind == .function && env.kindOf n == some .cell) then (n, NameKind.cell) else (n, k)).lookup x = some .free
  | [], _, h => by simp at h
  | (n, k0) :: r, x, h => by
    rw [List.map_cons]
    dsimp only
    cases hx : x == n with
    | true =>
      simp only [List.lookup_cons, hx] at h
      have e : k0 = .free := Option.some.inj h
      by_cases hc : (k0 == NameKind.free && env.scope.kind == .function && env.kindOf n == some .cell) = true
      · rw [if_pos hc]; exact .inl (by simp only [List.lookup_cons, hx])
      · rw [if_neg hc]; exact .inr (by simp only [List.lookup_cons, hx]; rw [e])
    | false =>
      simp only [List.lookup_cons, hx] at h
      have ih := relabel_free (env := env) h
      by_cases hc : (k0 == NameKind.free && env.scope.kind == .function && env.kindOf n == some .cell) = true
      · rw [if_pos hc]; simpa only [List.lookup_cons, hx] using ih
      · rw [if_neg hc]; simpa only [List.lookup_cons, hx] using ih

/-- what is asked of a comprehension's names; sc, N: the names around it -/
structure CompOk (sc : Scope) (N Nc : List Str) (ix : List (Option Nat)) (scope : Scope) : Prop where
  kind : scope.kind = .function
  nocell : ∀ y ∈ scope.names, y.2 ≠ .cell
  names : ∀ y ∈ scope.names, y.2 = .local → scope.names.lookup y.1 = some .local
  free : ∀ y ∈ scope.names, y.2 = .free → sc.names.lookup y.1 = some .cell ∨ sc.names.lookup y.1 = some .free
  len : ix.length = Nc.length
  chk : ((ix.zip Nc).all fun p => match p.1 with | none => true | some j => N[j]? == some p.2 && scope.names.lookup p.2 == some .free) = true
theorem CompOk.at_ {sc : Scope} {N Nc : List Str} {ix : List (Option Nat)} {scope : Scope} (o : CompOk sc N Nc ix scope) {i j : Nat} {x : Str} (h1 : ix[i]? = some (some j)) (h2 : Nc[i]? = some x) : N[j]? = some x ∧ scope.names.lookup x = some .free := by
  have hm : (some j, x) ∈ ix.zip Nc := by
    refine List.mem_of_getElem? (i := i) ?_
    rw [List.getElem?_zip_eq_some]
    exact ⟨h1, h2⟩
  have q := List.all_eq_true.mp o.chk _ hm
  have q' := Bool.and_eq_true _ _ ▸ q
  exact ⟨by simpa using q'.1, by simpa using q'.2⟩

/-- the context of a comprehension's block -/
def cxComp (X : Cx) (Nc : List Str) (scope : Scope) (cl : List (Str × Addr)) (C : Addr) (s : Shared) (H : Hp) (fp : List Addr) : Cx where
  prog := X.prog
  w := X.w
  K := X.K
  mg := X.mg
  base := X.base
  A := X.A
  N := Nc
  s₀ := s
  H₀ := H
  env := compEnvC scope cl C X.env
  outer := X.stack
  stack := X.stack
  ex := fp
  fn := fun x => (cl.lookup x).isNone
  calm := X.calm
  pn := X.pn
  xe := fun _ _ => False

/-- the turns of a comprehension, by an invariant: the new list stands at D -/
def CompW (J : It) (D : Addr) (g : TG) (tt : TT) (te : TE) (σ0 : St) (H1 : Hp) (Q : VK) : Prop :=
  ∃ W : Nat → Nat → St → Hp → Prop, (∃ m, W 0 m σ0 (upd H1 D (.lst []))) ∧ ∀ i m σ' H', W i m σ' H' → (J.stop i H' ∧ Q (.ref D) H') ∨
    (J.go i H' ∧ ∃ (N : V → St → Hp → Prop) (N0 : St → Hp → Prop), (∀ v σ2 H5, N v σ2 H5 → ∃ xs, H5 D = some (.lst xs) ∧ xs.length < sizeLine ∧ ∃ m', m' < m ∧ W (i + 1) m' σ2 (upd H5 D (.lst (xs ++ [v])))) ∧
      (∀ σ2 H4, N0 σ2 H4 → ∃ m', m' < m ∧ W (i + 1) m' σ2 H4) ∧ ∀ x H2, J.yld i H' x H2 → g x σ' H2 fun σ2 H3 => tt σ2 H3 fun c H4 => if c = true then te σ2 H4 fun v H5 => N v σ2 H5 else N0 σ2 H4)
def tComp (wi : TI) (ix : List (Option Nat)) (g : TG) (tt : TT) (te : TE) : TE := fun σ H Q => wi σ H fun J H1 => ∀ D, H1 D = none → CompW J D g tt te (sub ix σ) H1 Q

theorem loop_of {prog : Program} {w : World} {A : Around} {R : Result → Shared → Prop} {s : Shared} {elt target iter : Expr} {ifs : List Expr} {scope : Scope} {pos : Pos} {it acc : Value} {env : Env} (J : Nat → Shared → Prop)
    (turn : ∀ n s, J n s → wpAny (model prog w) A (pyNext it) (fun r s1 => match r with
      | none => R (.ok .next) s1
      | some v => wpAny (model prog w) A (letOwnedTupleGo target it v) (fun _ s2 => wpAny (model prog w) A (assign target env v) (fun _ s3 =>
          wpAny (model prog w) A (forIn ifs true fun c r => if r = true then do let ok ← isTrue c env (eval c env); pure (ForInStep.yield ok) else pure (ForInStep.yield r)) (fun ok s4 =>
            if ok = true then wpAny (model prog w) A (eval elt env) (fun x s5 => wpAny (model prog w) A (call (.builtin "list.append") [acc, x]) (fun _ s6 => ∃ m, m < n ∧ J m s6) (fun _ _ => False) s5) (fun _ _ => False) s4
            else ∃ m, m < n ∧ J m s4) (fun _ _ => False) s3) (fun _ _ => False) s2) (fun _ _ => False) s1) (fun _ _ => False) s)
    (n : Nat) (h : J n s) : codeAny (model prog w) A (.compLoop (.ListComp elt [⟨target, iter, ifs, 0⟩] scope pos) 0 it acc env) R s := by
  refine codeAny_loop rfl J (fun k t hJ => ?_) n h
  show wpAny _ A ((compTurn (.ListComp elt [⟨target, iter, ifs, 0⟩] scope pos) 0 it acc env).onRaise _) _ _ t
  refine wpAny_noted ?_
  rw [compTurn_list]
  refine wpAny_bind (wpAny_standAt (wpAny_bind (thnF (turn k t hJ) fun r s1 h1 => ?_)))
  cases r with
  | none => exact wpAny_pure h1
  | some v =>
    refine wpAny_bind (thnF h1 fun _ s2 h2 => wpAny_bind (thnF h2 fun _ s3 h3 => wpAny_bind (thnF h3 fun ok s4 h4 => ?_)))
    cases ok with
    | false => exact wpAny_pure ⟨rfl, h4⟩
    | true => exact wpAny_bind (wpAny_bind (thnF h4 fun x s5 h5 => wpAny_bind (thnF h5 fun _ s6 h6 => wpAny_pure (wpAny_pure ⟨rfl, h6⟩))))

section
variable {X : Cx} {pins : List (Addr × Obj)} {σ : St} {H : Hp} {s : Shared} {Nc : List Str} {ix : List (Option Nat)} {scope : Scope}
theorem all_cells (I : Inv X pins σ H s) (ok : CompOk X.env.scope X.N Nc ix scope) : ∀ y ∈ scope.names, y.2 = .free → (X.env.cells.lookup y.1).isSome = true := fun y hy hf => by
  obtain ⟨c, hc⟩ := I.ok.has y.1 (ok.free y hy hf)
  rw [hc]; rfl
/-- the block begins: s is the state with the new list, C the block's own dict -/
theorem comp_start {fp : List Addr} {h1 : Heap} {t' : Nat} (I : Inv X pins σ H s) (ok : CompOk X.env.scope X.N Nc ix scope) (hf : ∀ b ∈ fp, FpOk X pins H b) (hob : ∀ b ∈ fp, ∃ o, s.heap.get? b = some o)
    {m : Str → Option Value} (hn : h1.Ns s.heap.objs.size m) (hk : ∀ b o, s.heap.get? b = some o → h1.get? b = some o) :
    Inv (cxComp X Nc scope (closOf scope X.env) s.heap.objs.size s H fp) pins (sub ix σ) H { s with heap := h1, toks := t' } := by
  have ac := all_cells I ok
  have old : ∀ {b : Addr} {o : Obj}, s.heap.get? b = some o → b ≠ s.heap.objs.size := fun e => Nat.ne_of_lt (Heap.lt_size e)
  refine ⟨⟨I.ok.mod, ?_, I.ok.glob, I.ok.blt, Nat.le_refl _, ?_, ?_, ?_, I.ok.hd, I.ok.frames, .inl rfl, ?_, I.bs, Nat.le_trans I.ok.bsz I.sz, ?_, ?_, I.stack, I.stkFree⟩, rfl, I.bare, Un.kept hk, ⟨m, hn, ?_⟩, ?_, ?_, ?_, ?_, I.hok.kept hk, ?_⟩
  · exact ok.kind
  · intro x y c e1 e2
    exact I.ok.inj x y c (clos_some ac e1) (clos_some ac e2)
  · intro x hx
    have key : ∀ k, (relabel scope X.env).names.lookup x = some k → (k = .cell ∨ k = .free) → ∃ c, (closOf scope X.env).lookup x = some c := fun k e hkk => by
      rcases relabel_kind e with q | ⟨_, q⟩
      · rcases hkk with rfl | rfl
        · exact absurd rfl (ok.nocell _ (PySem.mem_of_lookup q))
        · exact clos_has (PySem.mem_of_lookup q)
      · exact clos_has (PySem.mem_of_lookup q)
    rcases hx with e | e
    · exact key _ e (.inl rfl)
    · exact key _ e (.inr rfl)
  · intro x c hfn e
    have e' : (closOf scope X.env).lookup x = some c := e
    have hfn' : ((closOf scope X.env).lookup x).isNone = true := hfn
    rw [e'] at hfn'; cases hfn'
  · intro b hb
    obtain ⟨o, e⟩ := hob b hb
    obtain ⟨f0, f1, f2, f3, f4, f5⟩ := hf b hb
    exact ⟨old e, fun x c q => f4 x c (clos_some ac q)⟩
  · intro b o e hb
    obtain ⟨f0, f1, f2, f3, f4, f5⟩ := hf b hb
    rcases f3 with z | z
    · exact I.ok.noex b o e z
    · exact absurd (Nat.lt_of_lt_of_le (Nat.lt_of_lt_of_le (Heap.lt_size e) I.ok.bsz) z) (Nat.lt_irrefl _)
  · intro b hb hz
    obtain ⟨f0, f1, f2, f3, f4, f5⟩ := hf b hb
    rcases List.mem_cons.mp (I.stkSub b hz) with z | z
    · exact f1 z
    · exact f2 z
  · intro i x v e1 e2 e3
    have e1 : Nc[i]? = some x := e1
    unfold sub at e2
    rw [List.getElem?_map] at e2
    cases hi : ix[i]? with
    | none => rw [hi] at e2; cases e2
    | some o =>
      cases o with
      | none => rw [hi] at e2; cases e2
      | some j =>
        obtain ⟨hN, hfree⟩ := ok.at_ hi e1
        have e4 : σ[j]? = some (some v) := by
          rw [hi] at e2
          have e2' : some ((σ[j]?).join) = some (some v) := e2
          have e5 := Option.some.inj e2'
          cases hj : σ[j]? with
          | none => rw [hj] at e5; cases e5
          | some z => rw [hj] at e5; exact congrArg some e5
        have hvis : Vis X.env.scope x := by
          rcases ok.free (x, .free) (PySem.mem_of_lookup hfree) rfl with q | q
          · exact .inr (.inl q)
          · exact .inr (.inr q)
        obtain ⟨m0, hn0, hl⟩ := I.loc
        obtain ⟨u, r, lk⟩ := hl j x v hN e4 hvis
        refine ⟨u, r, .inr ⟨relabel_free hfree, ?_⟩⟩
        rcases lk with ⟨q, _⟩ | ⟨_, c, hc, z⟩
        · rcases ok.free (x, .free) (PySem.mem_of_lookup hfree) rfl with q2 | q2
          · exact absurd (q.symm.trans q2) (by decide)
          · exact absurd (q.symm.trans q2) (by decide)
        · obtain ⟨d, hd⟩ := clos_has (env := X.env) (PySem.mem_of_lookup hfree)
          have := clos_some ac hd
          rw [hc] at this; cases this
          obtain ⟨oc, e5, e6⟩ := z
          exact ⟨c, hd, oc, hk c oc e5, e6⟩
  · intro x c e
    obtain ⟨v, oc, e5, e6⟩ := I.cell x c (clos_some ac e)
    exact ⟨v, oc, hk c oc e5, e6⟩
  · exact I.hok.fresh (Nat.le_refl _)
  · intro x c e
    exact I.freeC x c (clos_some ac e)
  · intro p hp
    obtain ⟨e, n, ne, nf, d⟩ := I.pin p hp
    refine ⟨hk _ _ e, n, old e, fun z => ?_, d⟩
    rcases List.mem_cons.mp (I.stkSub p.1 z) with q | q
    · exact ne q
    · exact nf q
  · unfold sub
    rw [List.length_map]
    exact ok.len
/-- the block has ended -/
theorem comp_end {fp : List Addr} {cl : List (Str × Addr)} {C : Addr} {σ' : St} {H' : Hp} {s' : Shared} {h' : Heap} (I : Inv X pins σ H s) (hf : ∀ b ∈ fp, FpOk X pins H b) (hC : s.heap.get? C = none)
    (J : Inv (cxComp X Nc scope cl C s H fp) pins σ' H' s') (sb : Heap.SameBut C s'.heap h') : Inv X pins σ H' { s' with heap := h' } := by
  have u : Un (frs X.stack) fp H H' s.heap s'.heap := J.base
  have hCf : H' C = none := J.free
  have hCn : ∀ {b : Addr} {o : Obj}, s.heap.get? b = some o → b ≠ C := fun e z => by rw [z, hC] at e; cases e
  refine I.call' (s' := { s' with heap := h' }) (ch := fp) J.os ⟨fun b o e n h1 h2 => ?_, fun b o e n h1 h2 => ?_, u.free, fun b o e h2 => ?_, u.tups, u.frzs, u.tbls⟩ ?_ J.bare fun b hb => ?_
  · exact (sb.2 b (hCn e)).trans (u.keep b o e n h1 h2)
  · obtain ⟨sl, q⟩ := u.slot b o e n h1 h2
    exact ⟨sl, (sb.2 b (hCn e)).trans q⟩
  · obtain ⟨o', q⟩ := u.there b o e h2
    exact ⟨o', (sb.2 b (hCn e)).trans q⟩
  · intro b o e
    refine (J.hok b o e).stay (fun c v hc q => (sb.2 c ?_).trans q) (fun _ q => q) fun _ _ q => q
    rintro rfl
    rcases hc with z | z
    · rw [← z, hCf] at e; cases e
    · rw [hCf] at z; cases z
  · obtain ⟨f0, f1, f2, f3, f4, f5⟩ := hf b hb
    exact ⟨f3, f1, f4, f5⟩

theorem comp_run {elt tg iter : Expr} {ifs : List Expr} {pos pos2 : Pos} {wi : TI} {g : TG} {tt : TT} {te : TE} {use : Option (Value → Sem Unit)} {QV : Value → Shared → Prop} {Q : VK} (I : L2.Inv X pins σ H s) (h : tComp wi ix g tt te σ H Q)
    (fin : ∀ (D C : Addr) (H' : Hp) (s' : Shared) (m : Str → Option Value), L2.Inv X pins σ H' s' → FpOk X pins H' C → s'.heap.Ns C m → Q (.ref D) H' → compPost (model X.prog X.w) X.A X.xe use QV (.ref D) C (.ok .next) s')
    (ok : CompOk X.env.scope X.N Nc ix scope) (hc : X.calm = true) (hi : PI X tg iter wi)
    (hg : ∀ cl C s H fp, PG (cxComp X Nc scope cl C s H fp) tg g) (ht : ∀ cl C s H fp, PTs (cxComp X Nc scope cl C s H fp) ifs tt) (he : ∀ cl C s H fp, PE (cxComp X Nc scope cl C s H fp) elt te)
    (hs : ∀ x, foldedSetIterable iter X.env x = pure x := by intro _; rfl) : wpAny (model X.prog X.w) X.A (comprehension (.ListComp elt [⟨tg, iter, ifs, 0⟩] scope pos) scope X.env pos2 (newList []) false (eval iter X.env) use) QV X.xe s := by
  refine wpAny_comprehension_free (use := use) (cl := closOf scope X.env) rfl hs (clos_eq (all_cells I ok)) ok.kind ok.names (thn (hi pins s σ H _ I h) fun v s1 q1 => thn q1 fun itv s2 q2 => ?_)
  obtain ⟨it, fp, tn, J, H1, e, I2, T, st2, f2, q⟩ := q2
  subst e
  have hD : H1 s2.heap.objs.size = none := I2.hok.fresh (Nat.le_refl _)
  obtain ⟨W, ⟨m0, w0⟩, turn⟩ := q _ hD
  refine wpAny_newObj_type ?_
  have I3 : Inv X pins σ (upd H1 s2.heap.objs.size (.lst [])) { s2 with heap := s2.heap.push { cls := .type "list", data := .seq ([] : List Value).toArray } } :=
    I2.laid (t' := s2.toks) (fun b u e => Heap.get?_push_of_some _ e) (Nat.le_refl _) ⟨Nat.zero_le _, [], 0, .nil, Heap.get?_push_size _ rfl⟩
  have hob2 := T.obj 0 _ st2
  have f3 : ∀ b ∈ fp, FpOk X pins (upd H1 s2.heap.objs.size (.lst [])) b := fun b hb => by
    obtain ⟨o, e, _⟩ := hob2 b hb
    obtain ⟨f0, fr⟩ := f2 b hb
    exact ⟨by rw [upd_ne (Nat.ne_of_lt (Heap.lt_size e))]; exact f0, fr⟩
  have st3 : tn 0 (s2.heap.push { cls := .type "list", data := .seq ([] : List Value).toArray }) := T.keep 0 _ _ st2 fun b _ o e => Heap.get?_push_of_some _ e
  generalize hs3 : ({ s2 with heap := s2.heap.push { cls := .type "list", data := .seq ([] : List Value).toArray } } : Shared) = s3 at I3 ⊢
  have st3' : tn 0 s3.heap := by rw [← hs3]; exact st3
  refine wpAny_newFunctionEnv ok.nocell (by intro y hy; simp at hy) (fun h1 hns hsb => ?_) ok.kind
  have k1 : ∀ b o, s3.heap.get? b = some o → h1.get? b = some o := fun b o e => (hsb.2 b (Nat.ne_of_lt (Heap.lt_size e))).trans (Heap.get?_push_of_some _ e)
  have hob3 : ∀ b ∈ fp, ∃ o, s3.heap.get? b = some o := fun b hb => let ⟨o, e, _⟩ := T.obj 0 _ st3' b hb; ⟨o, e⟩
  have I4 : Inv (cxComp X Nc scope (closOf scope X.env) s3.heap.objs.size s3 (upd H1 s2.heap.objs.size (.lst [])) fp) pins (sub ix σ) (upd H1 s2.heap.objs.size (.lst [])) { s3 with heap := h1, toks := s3.toks + ([] : List (Str × Value)).length } :=
    comp_start I3 ok f3 hob3 hns k1
  have st4 : tn 0 h1 := T.keep 0 _ _ st3' fun b _ o e => k1 b o e
  have hC : s3.heap.get? s3.heap.objs.size = none := Heap.get?_none_of_le (Nat.le_refl _)
  generalize hX : cxComp X Nc scope (closOf scope X.env) s3.heap.objs.size s3 (upd H1 s2.heap.objs.size (.lst [])) fp = Y at I4
  have stat : ∀ {H' : Hp}, (∀ b ∈ fp, H' b = none) → ∀ b ∈ fp, FpOk Y pins H' b := fun {H'} hn b hb => by
    obtain ⟨o, e⟩ := hob3 b hb
    obtain ⟨f0, f1, ff, f3', f4, f5⟩ := f3 b hb
    have nst : b ∉ frs X.stack := fun z => by
      rcases List.mem_cons.mp (I3.stkSub b z) with z | z
      · exact f1 z
      · exact ff z
    subst hX
    exact ⟨hn b hb, Nat.ne_of_lt (Heap.lt_size e), nst, .inl hb, fun x c q => f4 x c (clos_some (all_cells I3 ok) q), f5⟩
  have fin' : ∀ {σ' : St} {H' : Hp} {s' : Shared}, L2.Inv Y pins σ' H' s' → Q (.ref s2.heap.objs.size) H' → compPost (model X.prog X.w) X.A X.xe use QV (.ref s2.heap.objs.size) s3.heap.objs.size (.ok .next) s' := fun {σ' H' s'} J' qq => by
    subst hX
    obtain ⟨m', hn', _⟩ := id J'.loc
    have hCn : H' s3.heap.objs.size = none := J'.free
    exact fin _ _ H' s' m' (comp_end (h' := s'.heap) I3 f3 hC J' (.refl ..)) (I3.fpOk (Nat.le_refl _) hCn) hn' qq
  have loop : codeAny (model X.prog X.w) X.A (.compLoop (.ListComp elt [⟨tg, iter, ifs, 0⟩] scope pos) 0 (.ref it) (.ref s2.heap.objs.size) Y.env)
      (compPost (model X.prog X.w) X.A X.xe use QV (.ref s2.heap.objs.size) s3.heap.objs.size) { s3 with heap := h1, toks := s3.toks + ([] : List (Str × Value)).length } := by
    have eP : Y.prog = X.prog := by subst hX; rfl
    have eW : Y.w = X.w := by subst hX; rfl
    have eK : Y.K = X.K := by subst hX; rfl
    have eA : Y.A = X.A := by subst hX; rfl
    have eE : Y.xe = fun _ _ => False := by subst hX; rfl
    have eC : Y.calm = true := by subst hX; exact hc
    have hgY : PG Y tg g := by subst hX; exact hg _ _ _ _ _
    have htY : PTs Y ifs tt := by subst hX; exact ht _ _ _ _ _
    have heY : PE Y elt te := by subst hX; exact he _ _ _ _ _
    unfold PG at hgY
    unfold PTs at htY
    unfold PE at heY
    rw [eP, eW, eA, eE] at hgY htY heY
    refine loop_of (fun n s' => ∃ i σ' H', Inv Y pins σ' H' s' ∧ tn i s'.heap ∧ (∀ b ∈ fp, H' b = none) ∧ W i n σ' H') ?_ m0 ⟨0, sub ix σ, _, I4, st4, fun b hb => (f3 b hb).1, w0⟩
    rintro n s5 ⟨i, σ5, H5, I5, st5, fr5, w5⟩
    have TI := T.item Y eP eW eK eC i pins s5 σ5 H5 (fun _ _ => False) I5 (stat fr5) st5
    have TD := T.done Y eP eW eK eC i pins s5 σ5 H5 (fun _ _ => False) I5 (stat fr5) st5
    rw [eA] at TI TD
    rcases turn i n σ5 H5 w5 with ⟨stop, qn⟩ | ⟨go, N, N0, hN, hN0, step⟩
    · refine thn (TD stop) fun r s6 ⟨hr, I6⟩ => ?_
      subst hr
      exact fin' I6 qn
    · refine thn (TI go) fun r s6 ⟨u, hr, h6⟩ => ?_
      subst hr
      refine thn h6 fun _ s7 ⟨x, H7, I7, r7, y7, st7, fr7⟩ => ?_
      have I7' := I7.pinned (stat fr7) (T.obj _ _ st7)
      refine thn (hgY _ s7 σ5 H7 x u _ I7' r7 (step x H7 y7)) fun _ s8 ⟨σ8, H8, I8, q8⟩ => ?_
      refine thn (htY _ s8 σ8 H8 _ I8 q8) fun c s9 ⟨H9, I9, q9⟩ => ?_
      have back : ∀ {σa : St} {Ha : Hp} {sa : Shared}, Inv Y (pins ++ pinsAt fp s7.heap) σa Ha sa → (∃ m', m' < n ∧ W (i + 1) m' σa Ha) → ∃ m, m < n ∧ ∃ i σ' H', Inv Y pins σ' H' sa ∧ tn i sa.heap ∧ (∀ b ∈ fp, H' b = none) ∧ W i m σ' H' := fun {σa Ha sa} Ia ⟨m', hm, wa⟩ => by
        refine ⟨m', hm, i + 1, σa, Ha, Ia.unpinned, T.keep _ _ _ st7 fun b hb o e => (Ia.pin (b, o) (List.mem_append_right _ (List.mem_append_right _ (mem_pinsAt hb e)))).1, fun b hb => ?_, wa⟩
        obtain ⟨o, e, d⟩ := T.obj _ _ st7 b hb
        exact (Ia.pin (b, o) (List.mem_append_right _ (List.mem_append_right _ (mem_pinsAt hb e)))).2.1
      cases c with
      | false => exact back I9 (hN0 _ _ (by simpa using q9))
      | true =>
        rw [if_pos rfl] at q9 ⊢
        refine thn (heY _ s9 σ8 H9 _ I9 q9) fun z s10 ⟨v10, H10, I10, r10, q10⟩ => ?_
        obtain ⟨xs, hx, hz, q10⟩ := hN _ _ _ q10
        have ap := mt_append (X := Y) (pins ++ pinsAt fp s7.heap) s10 σ8 H10 (.ref s2.heap.objs.size) [v10] (.ref s2.heap.objs.size) [z] (fun _ Hb => ∃ m', m' < n ∧ W (i + 1) m' σ8 Hb) I10 rfl (.cons r10 .nil) ⟨_, xs, v10, rfl, rfl, hx, hz, q10⟩
        rw [eP, eW, eA, eE] at ap
        exact thn ap fun _ s11 ⟨_, H11, I11, _, q11⟩ => back I11 q11
  have eenv : Y.env = compEnvC scope (closOf scope X.env) s3.heap.objs.size X.env := by subst hX; rfl
  rw [eenv] at loop
  exact codeAny_compStart_list loop (T.self X.A 0 _ _ _ st4 loop)
theorem pe_comp {elt tg iter : Expr} {ifs : List Expr} {pos : Pos} {wi : TI} {g : TG} {tt : TT} {te : TE} (ok : CompOk X.env.scope X.N Nc ix scope) (hc : X.calm = true) (hi : PI X tg iter wi)
    (hg : ∀ cl C s H fp, PG (cxComp X Nc scope cl C s H fp) tg g) (ht : ∀ cl C s H fp, PTs (cxComp X Nc scope cl C s H fp) ifs tt) (he : ∀ cl C s H fp, PE (cxComp X Nc scope cl C s H fp) elt te)
    (hs : ∀ x, foldedSetIterable iter X.env x = pure x := by intro _; rfl) : PE X (.ListComp elt [⟨tg, iter, ifs, 0⟩] scope pos) (tComp wi ix g tt te) := by
  intro pins s σ H Q I h
  rw [eval_ListComp]
  refine comp_run (use := none) I h (fun D C H' s' m I' f hn qq => ?_) ok hc hi hg ht he hs
  obtain ⟨f0, f1, f2, f3, f4, f5⟩ := f
  exact ⟨m, hn, fun h' sb => ⟨.ref D, H', I'.turned (t' := s'.toks) (fun b o hb e => (sb.2 b hb).trans e) f0 f1 f3 f4 f5, rfl, qq⟩⟩
/-- name = [..]: the name is stored ahead of the block's end -/
theorem ps_setComp {i : Nat} {x : Str} {elt tg iter : Expr} {ifs : List Expr} {pos spos pos' : Pos} {wi : TI} {g : TG} {tt : TT} {te : TE} (hN : X.N.Nodup) (hi : X.N[i]? = some x) (hx : X.env.kindOf x = some .local)
    (ok : CompOk X.env.scope X.N Nc ix scope) (hc : X.calm = true) (hit : PI X tg iter wi)
    (hg : ∀ cl C s H fp, PG (cxComp X Nc scope cl C s H fp) tg g) (ht : ∀ cl C s H fp, PTs (cxComp X Nc scope cl C s H fp) ifs tt) (he : ∀ cl C s H fp, PE (cxComp X Nc scope cl C s H fp) elt te)
    (hsw : swapsWith (.ListComp elt [⟨tg, iter, ifs, 0⟩] scope pos) (some (.Name x pos')) spos.line X.env = pure true := by rfl)
    (hs : ∀ x, foldedSetIterable iter X.env x = pure x := by intro _; rfl) : PS X (.Assign [.Name x pos'] (.ListComp elt [⟨tg, iter, ifs, 0⟩] scope pos) spos) (tAsg (tComp wi ix g tt te) (gName i)) := by
  intro pins s σ H D I h
  rw [exec_Assign_Name_used _ _ _ _ hsw]
  refine wpAny_bind (wpAny_standAt (wpAny_bind ?_))
  show wpAny _ X.A (do let _ ← comprehension (.ListComp elt [⟨tg, iter, ifs, 0⟩] scope pos) scope X.env _ (newList []) false (eval iter X.env) (some (assign (.Name x pos') X.env))) _ _ s
  refine wpAny_bind (thn (comp_run (use := some (assign (.Name x pos') X.env)) (QV := fun _ s' => SP X pins D .next s') I h (fun L C H' s' m I' f hn qq => ?_) ok hc hit hg ht he hs) fun _ s' q => wpAny_pure (wpAny_pure q))
  obtain ⟨f0, f1, f2, f3, f4, f5⟩ := f
  refine wpAny_assign_Name (store_ok2 (v := .ref L) I' hN hi (.inl hx) rfl (fun s2 I2 ⟨a, sb, ha⟩ => ?_) (.inr hx))
  have hCa : C ≠ a := by
    rintro rfl
    rcases ha with z | z
    · exact f1 z
    · exact f4 _ _ z rfl
  exact ⟨m, hn.sameBut sb hCa, fun h' sb' => ⟨_, H', I2.turned (t' := s2.toks) (fun b o hb e => (sb'.2 b hb).trans e) f0 f1 f3 f4 f5, qq⟩⟩
end
end L3

set_option Elab.async false
set_option linter.all false
set_option maxRecDepth 100000
set_option maxHeartbeats 4000000
namespace L3
open PySem PySem.Spec PyProof.Rows L2

section
variable {prog : Program} {w : World} {A : Around} {E : Value → Shared → Prop} {R : Result → Shared → Prop}

set_option maxHeartbeats 8000000 in
end

/-- a set of so many things stands at a -/
def SetN (a : Addr) (n : Nat) : HO := .ext fun h => ∃ o es ep t, h.get? a = some o ∧ o.ExactSet ∧ o.data = .set es ep t ∧ t.fits es.size = true ∧ es.size = n

section
variable {X : Cx}
/-- len of such a set -/
theorem call_lenS : CallR X (.builtin "len") (fun xs H Q => ∃ a n, xs = [.ref a] ∧ H a = some (SetN a n) ∧ n < 4000 ∧ Q (.int n) H) := by
  intro pins s σ H xs us Q I r h
  obtain ⟨a, n, rfl, ha, hn, q⟩ := h
  obtain ⟨u, rfl, ru⟩ := vals1 r
  obtain rfl : u = Value.ref a := ru
  obtain ⟨⟨o, es, ep, t, e1, e2, e3, e4, e5⟩, _⟩ := I.hok a _ ha
  refine call_len_set e1 e2 e3 e4 (by omega) ?_
  exact ⟨.int n, H, I.tok _, ⟨_, by rw [e5]⟩, q⟩
end
end L3

set_option Elab.async false
set_option linter.all false
set_option maxRecDepth 100000
set_option maxHeartbeats 4000000
namespace L3
open PySem PySem.Spec PyProof.Rows L2

/-! ### sorting -/
def sortI (ns : List Int) : List Int := ns.mergeSort fun a b => decide (a ≤ b)
def leS (a b : Str) : Bool := !decide (b.cps.toList < a.cps.toList)
def sortS (ss : List Str) : List Str := ss.mergeSort leS
theorem vals_bools : ∀ {bs : List Bool} {us : List Value}, Vals (bs.map V.bl) us → ∀ (i : Nat) v, us[i]? = some v → ∃ b, bs[i]? = some b ∧ v = .bool b
  | [], _, .nil, i, v, h => by simp at h
  | b :: r, _, .cons a c, 0, v, h => by simp at h; subst h; exact ⟨b, rfl, a⟩
  | b :: r, _, .cons a c, i + 1, v, h => by
    obtain ⟨b', e, q⟩ := vals_bools c i v (by simpa using h)
    exact ⟨b', by simpa using e, q⟩

section
variable {X : Cx}
/-! ### all, any of a list of truths -/
theorem range_all {bs : List Bool} : ((List.range bs.length).all fun i => (bs[i]?).getD true) = bs.all id := by
  induction bs with
  | nil => rfl
  | cons b r ih =>
    rw [List.length_cons, List.range_succ_eq_map, List.all_cons, List.all_map, List.all_cons, ← ih]
    rfl
theorem call_all (hc : X.calm = true) : CallR X (.builtin "all") (fun xs H Q => ∃ (p : Addr) (bs : List Bool), xs = [.ref p] ∧ SqL X.K H p (bs.map V.bl) ∧ Q (.bl (bs.all id)) H) := by
  intro pins s σ H xs us Q I r h
  obtain ⟨p, bs, rfl, hq, q⟩ := h
  obtain ⟨u, rfl, ru⟩ := vals1 r
  obtain rfl : u = Value.ref p := ru
  obtain ⟨its, rv, pl, hz⟩ := I.list hq
  have el := rv.length
  rw [List.length_map] at el
  have hlt : p < s.heap.objs.size := by obtain ⟨_, e, _⟩ := pl.isList; exact Heap.lt_size e
  refine call_all_walk (wpAny_pyIter_list pl.isList ?_)
  refine ⟨s.heap.objs.size, [s.heap.objs.size, p], [s.heap.objs.size], its.toArray.size, _, _, fun i => (bs[i]?).getD true, rfl, Walks.list (A := X.A.in1) (by simpa using I.ok.hd hc) _ p (Nat.ne_of_lt hlt) its.toArray,
    ⟨⟨_, Heap.get?_push_size _ rfl, rfl, rfl⟩, pl.isList.push _⟩, fun i v s' Q' E' hP hQ => ?_, fun h' tk hk => ?_⟩
  · obtain ⟨b, e, rfl⟩ := vals_bools rv i v (by simpa using hP)
    simp only [e, Option.getD_some] at hQ
    exact wpAny_truthy_bool hQ
  · rw [List.size_toArray, ← el, range_all]
    exact ⟨.bl _, H, I.kept fun b o e => hk b o (by simpa using Nat.ne_of_lt (Heap.lt_size e)) (Heap.get?_push_of_some _ e), rfl, q⟩
/-! ### range(n) as a value, list(range(n)) -/
/-! ### xs[::-1] -/
def tRev (K : PySem.W.Frag) (te : TE) (ts : TO) : TE := fun σ H Q => te σ H fun x H1 => ts σ H1 fun k H2 => ∃ a xs, x = .ref a ∧ k = some (-1) ∧ SqL K H2 a xs ∧ ∀ p, H2 p = none → Q (.ref p) (upd H2 p (.lst xs.reverse))
theorem pe_rev {e st : Expr} {te : TE} {ts : TO} {pos p2 : Pos} (he : PE X e te) (hs : PO X (some st) ts) : PE X (.Subscript e (.Slice none none (some st) p2) pos) (tRev X.K te ts) := by
  intro pins s σ H Q I h
  refine Subscript_ (thn (he pins s σ H _ I h) fun v s1 ⟨x, H1, I1, r1, q1⟩ => ?_)
  refine wpAny_Slice ?_
  rw [evalPart_none]
  refine wpAny_pure (wpAny_pure (thn (hs pins s1 σ H1 _ I1 q1) fun vk s3 ⟨k, H3, I3, pk, q3⟩ => ?_))
  obtain ⟨a, xs, rfl, rfl, hq, q⟩ := q3
  obtain rfl : v = Value.ref a := r1
  obtain ⟨its, r, ht, hz⟩ := I3.list hq
  have hlen := r.length
  have I4 : Inv X pins σ H3 { s3 with heap := s3.heap.push { cls := .type "slice", data := .fields #[.none, .none, vk] } } := I3.kept (t' := s3.toks) fun b ob q => Heap.get?_push_of_some _ q
  obtain ⟨its4, r4, ht4, hz4⟩ := I4.list hq
  have hlen4 := r4.length
  show wpAny (model X.prog X.w) X.A (subscriptTail e (.Slice none none (some st) p2) (.ref a) (.ref s3.heap.objs.size)) (EP X pins σ Q) X.xe { s3 with heap := s3.heap.push { cls := .type "slice", data := .fields #[.none, .none, vk] } }
  refine tail_any (ops := [.ref a, .ref s3.heap.objs.size]) ht4.isList.typeIs slot_list_getitem.lookup ?_ (by with_unfolding_all rfl)
  refine wpAny_getItem_list_slice ht4.isList (Heap.IsSliceOf.new ..) .none .none pk (by simp) ?_ (by rw [List.size_toArray] <;> omega)
  rw [PySem.W.krv_pick]
  refine ⟨.ref _, _, I4.laid (t' := s3.toks) (o := .lst xs.reverse) (fun b ob q => Heap.get?_push_of_some _ q) (Nat.le_refl _) ?_, rfl, q _ (I4.hok.fresh (Nat.le_refl _))⟩
  exact ⟨by rw [List.length_reverse]; exact hz, its4.reverse, 0, r4.reverse, Heap.get?_push_size _ rfl⟩
end

/-! ### == of things within things -/
mutual
inductive Dp (K : PySem.W.Frag) (H : Hp) : V → PyData → Prop
  | non : Dp K H .non .none
  | bl (b) : Dp K H (.bl b) (.bool b)
  | int (i) : Dp K H (.int i) (.int i)
  | str (x) : Dp K H (.str x) (.str x)
  | lst {a xs ds} : SqL K H a xs → DpAll K H xs ds → Dp K H (.ref a) (.list ds)
  | tup {a xs ds} : SqT K H a xs → DpAll K H xs ds → Dp K H (.ref a) (.tuple ds)
inductive DpAll (K : PySem.W.Frag) (H : Hp) : List V → List PyData → Prop
  | nil : DpAll K H [] []
  | cons {v d vs ds} : Dp K H v d → DpAll K H vs ds → DpAll K H (v :: vs) (d :: ds)
end
section
variable {X : Cx} {pins : List (Addr × Obj)} {σ : St} {H : Hp} {s : Shared}
mutual
theorem Dp.reads (I : Inv X pins σ H s) : ∀ {v : V} {d : PyData} {u : Value}, Dp X.K H v d → RelV v u → ∃ as, Reads s.heap u d as
  | _, _, u, .non, r => by cases (show u = Value.none from r); exact ⟨_, .none⟩
  | _, _, u, .bl b, r => by cases (show u = Value.bool b from r); exact ⟨_, .bool b⟩
  | _, _, u, .int i, r => by obtain ⟨t, e⟩ := (show ∃ t, u = Value.int i t from r); cases e; exact ⟨_, .int i t⟩
  | _, _, u, .str x, r => by obtain ⟨t, e⟩ := (show ∃ t, u = Value.str x t from r); cases e; exact ⟨_, .str x t⟩
  | _, _, u, .lst (a := a) h hs, r => by
    cases (show u = Value.ref a from r)
    obtain ⟨its, rv, pl, _⟩ := I.list h
    obtain ⟨o, ho, hc, n, hd⟩ := pl.isList
    obtain ⟨as, q⟩ := DpAll.reads I hs rv
    exact ⟨_, .list ho hc hd (by simpa using q)⟩
  | _, _, u, .tup (a := a) h hs, r => by
    cases (show u = Value.ref a from r)
    obtain ⟨its, rv, ⟨o, ho, hc, n, hd⟩, _⟩ := I.tuple h
    obtain ⟨as, q⟩ := DpAll.reads I hs rv
    exact ⟨_, .tuple ho hc hd (by simpa using q)⟩
theorem DpAll.reads (I : Inv X pins σ H s) : ∀ {vs : List V} {ds : List PyData} {us : List Value}, DpAll X.K H vs ds → Vals vs us → ∃ as, ReadsAll s.heap us ds as
  | _, _, _, .nil, .nil => ⟨_, .nil⟩
  | _, _, _, .cons h hs, .cons r rs => by
    obtain ⟨as, a⟩ := h.reads I r
    obtain ⟨bs, b⟩ := hs.reads I rs
    exact ⟨_, .cons a b⟩
end
inductive rEqD_R (K : PySem.W.Frag) (neg : Bool) (x : V) (y : V) (H : Hp) (Q : VK) : Prop
  | mk (d : _) (e : _) (h0 : Dp K H x d) (h1 : Dp K H y e) (h2 : d.canLay0 = true) (h3 : e.canLay0 = true) (h4 : d.depth ≤ 60) (h5 : Q (.bl (if neg then !PyData.eqv d e else PyData.eqv d e)) H) : rEqD_R K neg x y H Q
def rEqD (K : PySem.W.Frag) (neg : Bool) : R2 := fun x y H Q => rEqD_R K neg x y H Q
theorem op_eqD (hu : X.A.units + 64 < cLine) : OpR X (compareOp .Eq) (rEqD X.K false) := by
  intro pins s σ H x y u v Q I rx ry h
  obtain ⟨d, e, hx, hy, c1, c2, dp, q⟩ := h
  obtain ⟨as, a⟩ := hx.reads I rx
  obtain ⟨bs, b⟩ := hy.reads I ry
  exact SeqAt.compareEq_reads a b c1 c2 (by omega) ⟨.bl _, H, I, rfl, q⟩
theorem op_neD (hu : X.A.units + 64 < cLine) : OpR X (compareOp .NotEq) (rEqD X.K true) := by
  intro pins s σ H x y u v Q I rx ry h
  obtain ⟨d, e, hx, hy, c1, c2, dp, q⟩ := h
  obtain ⟨as, a⟩ := hx.reads I rx
  obtain ⟨bs, b⟩ := hy.reads I ry
  exact SeqAt.compareNe_reads a b c1 c2 (by omega) ⟨.bl _, H, I, rfl, q⟩

/-! ### isinstance(x, T), T built in -/
inductive rIsi_R (K : PySem.W.Frag) (T : String) (xs : List V) (H : Hp) (Q : VK) : Prop
  | mk (x : _) (t : _) (b : _) (h0 : xs = [x, .ty T]) (h1 : TyOf K H x t) (h2 : PySem.W.kitOne K t (.type T) = some b) (h3 : Q (.bl b) H) : rIsi_R K T xs H Q
def rIsi (K : PySem.W.Frag) (T : String) : List V → Hp → VK → Prop := fun xs H Q => rIsi_R K T xs H Q
theorem call_isi (T : String) : CallR X (.builtin "isinstance") (rIsi X.K T) := by
  intro pins s σ H xs us Q I r h
  obtain ⟨x, t, b, rfl, ht, hk, q⟩ := h
  obtain ⟨u, v, rfl, ru, rv⟩ := vals2 r
  obtain rfl : v = Value.type T := rv
  exact isinst_ok I ru ht hk fun tk => ⟨.bl b, H, I.tok _, rfl, q⟩
end
example (K : PySem.W.Frag) : PySem.W.kitOne K (.type "int") (.type "list") = some false := by rfl
example (K : PySem.W.Frag) : PySem.W.kitOne K (.type "bool") (.type "int") = some true := by rfl
end L3

set_option Elab.async false
set_option linter.all false
set_option maxRecDepth 100000
set_option maxHeartbeats 4000000
namespace L3
open PySem PySem.Spec PyProof.Rows L2

section
variable {X : Cx} {pins : List (Addr × Obj)} {σ : St} {H : Hp} {s : Shared} {h' : Heap}
end

section
variable {X : Cx}
end
end L3

set_option Elab.async false
set_option linter.all false
set_option maxRecDepth 100000
set_option maxHeartbeats 4000000
namespace L3
open PySem PySem.Spec PyProof.Rows L2

/-! ### heaps: what is new -/
def New (H H' : Hp) : Hp := fun b => if (H b).isSome = true then none else H' b
def hide (D : Addr) (H : Hp) : Hp := fun b => if b = D then none else H b
theorem New.of {H H' : Hp} {b : Addr} {o : HO} (h : New H H' b = some o) : H b = none ∧ H' b = some o := by
  unfold New at h
  split at h
  · cases h
  · rename_i q
    refine ⟨?_, h⟩
    cases e : H b with
    | none => rfl
    | some u => rw [e] at q; exact absurd rfl q
theorem New.mk {H H' : Hp} {b : Addr} {o : HO} (h : H b = none) (h' : H' b = some o) : New H H' b = some o := by
  unfold New
  rw [h]
  exact h'
theorem same_upd {H : Hp} {p : Addr} {o : HO} (h : H p = none) : Same H (upd H p o) := fun b u e => by rw [upd_ne (ne_of_none e h)]; exact e
theorem hide_sub {D : Addr} {H : Hp} : Same (hide D H) H := fun b o h => by
  unfold hide at h
  split at h
  · cases h
  · exact h
theorem hide_some {D b : Addr} {H : Hp} {o : HO} (h : hide D H b = some o) : b ≠ D ∧ H b = some o := by
  unfold hide at h
  split at h
  · cases h
  · rename_i q; exact ⟨q, h⟩
theorem hide_mk {D b : Addr} {H : Hp} {o : HO} (n : b ≠ D) (h : H b = some o) : hide D H b = some o := by
  unfold hide
  rw [if_neg n]; exact h
/-- all but one address -/
def SameX (D : Addr) (H H' : Hp) : Prop := ∀ b o, b ≠ D → H b = some o → H' b = some o
theorem Same.x {D : Addr} {H H' : Hp} (h : Same H H') : SameX D H H' := fun b o _ e => h b o e
theorem SameX.refl {D : Addr} (H : Hp) : SameX D H H := fun _ _ _ e => e
theorem SameX.trans {D : Addr} {H H1 H2 : Hp} (a : SameX D H H1) (b : SameX D H1 H2) : SameX D H H2 := fun c o n e => b c o n (a c o n e)
theorem SameX.upd {D : Addr} {H H' : Hp} {o : HO} (a : SameX D H H') : SameX D H (upd H' D o) := fun c u n e => by rw [upd_ne n]; exact a c u n e
theorem SameX.same {D : Addr} {H H' : Hp} (a : SameX D H H') (h : H D = none) : Same H H' := fun c u e => a c u (ne_of_none e h) e
theorem Same.seqT {K : PySem.W.Frag} {H H' : Hp} {a : Addr} {xs : List V} (e : Same H H') (h : SqT K H a xs) : SqT K H' a xs := by
  rcases h with (h | ⟨o, h⟩) | h
  · exact .inl (.inl (e _ _ h))
  · exact .inl (.inr ⟨o, e _ _ h⟩)
  · exact .inr h

/-! ### a comprehension's reading -/
theorem comp_gen {J : It} {n : Nat} {D : Addr} {g : TG} {tt : TT} {te : TE} {σ0 : St} {H0 : Hp} {Q : VK} (Pv : Nat → St → Hp → Prop) (h0 : Pv 0 σ0 (upd H0 D (.lst [])))
    (hgo : ∀ i σ H, i < n → Pv i σ H → J.go i H) (hst : ∀ σ H, Pv n σ H → J.stop n H)
    (hs : ∀ i x σ H H2, i < n → Pv i σ H → J.yld i H x H2 → ∀ (N : V → St → Hp → Prop) (N0 : St → Hp → Prop), (∀ v σ2 H5 ys, H5 D = some (.lst ys) → ys.length < sizeLine → Pv (i + 1) σ2 (upd H5 D (.lst (ys ++ [v]))) → N v σ2 H5) → (∀ σ2 H4, Pv (i + 1) σ2 H4 → N0 σ2 H4) →
      g x σ H2 fun σ2 H3 => tt σ2 H3 fun c H4 => if c = true then te σ2 H4 fun v H5 => N v σ2 H5 else N0 σ2 H4)
    (hd : ∀ σ H, Pv n σ H → Q (.ref D) H) :
    CompW J D g tt te σ0 H0 Q := by
  refine ⟨fun i m σ H => m = n - i ∧ i ≤ n ∧ Pv i σ H, ⟨n, by simp, Nat.zero_le _, h0⟩, ?_⟩
  rintro i m σ H ⟨rfl, hi, p⟩
  by_cases hlt : i < n
  · refine .inr ⟨hgo i σ H hlt p, fun v σ2 H5 => ∃ ys, H5 D = some (.lst ys) ∧ ys.length < sizeLine ∧ Pv (i + 1) σ2 (upd H5 D (.lst (ys ++ [v]))), fun σ2 H4 => Pv (i + 1) σ2 H4, ?_, ?_, ?_⟩
    · rintro v σ2 H5 ⟨ys, a, b, c⟩
      exact ⟨ys, a, b, n - (i + 1), by omega, rfl, hlt, c⟩
    · intro σ2 H4 q
      exact ⟨n - (i + 1), by omega, rfl, hlt, q⟩
    · intro x H2 y
      exact hs i x σ H H2 hlt p y _ _ (fun v σ2 H5 ys a b c => ⟨ys, a, b, c⟩) fun _ _ q => q
  · have e : i = n := by omega
    subst e
    exact .inl ⟨hst σ H p, hd σ H p⟩

/-- [f(x) for x in xs]: what each element is, by the heap that is new at its turn -/
theorem comp_map {K : PySem.W.Frag} {a D : Addr} {xs : List V} {te : TE} {τ : St} {H0 : Hp} {Q : VK} (hD : H0 D = none) (hq : SqL K H0 a xs) (hz : xs.length ≤ sizeLine) (R : Nat → V → Hp → Prop) (mono : ∀ i v H H', Same H H' → R i v H → R i v H')
    (step : ∀ i x H (N : V → Hp → Prop), xs[i]? = some x → Same H0 H → (∀ v H4, Same H H4 → R i v (New H H4) → N v H4) → te (some x :: τ) H N)
    (fin : ∀ H' ys, H' D = some (.lst ys) → Same H0 H' → ys.length = xs.length → (∀ i v, ys[i]? = some v → R i v (New H0 H')) → Q (.ref D) H') :
    CompW (Itl K a) D (gName 0) tTrue te (none :: τ) H0 Q := by
  refine comp_gen (n := xs.length) (fun i σ H => ∃ z ys, σ = z :: τ ∧ H D = some (.lst ys) ∧ ys.length = i ∧ Same H0 H ∧ ∀ j v, ys[j]? = some v → R j v (hide D (New H0 H))) ?_ ?_ ?_ ?_ ?_
  · exact ⟨none, [], rfl, upd_same, rfl, same_upd hD, fun j v e => by simp at e⟩
  · rintro i σ H hi ⟨z, ys, rfl, _, _, s, _⟩
    exact ⟨xs, xs[i], s.seq hq, by simp [hi]⟩
  · rintro σ H ⟨z, ys, rfl, _, _, s, _⟩
    exact ⟨xs, s.seq hq, Nat.le_refl _⟩
  · rintro i x σ H H2 hi ⟨z, ys, rfl, hy, hl, s, r⟩ ⟨rfl, hx⟩ N N0 hN hN0
    show te (some x :: τ) H2 _
    refine step i x H2 _ (hx xs (s.seq hq)) s fun v H4 s4 r4 => ?_
    refine hN v _ H4 ys (s4 _ _ hy) (by omega) ⟨some x, ys ++ [v], rfl, upd_same, by rw [List.length_append, List.length_singleton, hl], ?_, ?_⟩
    · exact (SameX.upd (Same.x (s.trans s4))).same hD
    · intro j w e
      by_cases hj : j < ys.length
      · rw [List.getElem?_append_left hj] at e
        refine mono j w _ _ ?_ (r j w e)
        intro b o hb
        obtain ⟨nb, hb⟩ := hide_some hb
        obtain ⟨h1, h2⟩ := New.of hb
        exact hide_mk nb (New.mk h1 (by rw [upd_ne nb]; exact s4 _ _ h2))
      · have ej : j = ys.length := by
          have := (List.getElem?_eq_some_iff.mp e).1
          rw [List.length_append, List.length_singleton] at this
          omega
        subst ej
        simp at e
        subst e
        rw [hl]
        refine mono i v _ _ ?_ r4
        intro b o hb
        obtain ⟨h1, h2⟩ := New.of hb
        have nb : b ≠ D := fun z => by subst z; rw [hy] at h1; cases h1
        exact hide_mk nb (New.mk (s.free h1) (by rw [upd_ne nb]; exact h2))
  · rintro σ H ⟨z, ys, rfl, hy, hl, s, r⟩
    exact fin H ys hy s hl fun i v e => mono i v _ _ hide_sub (r i v e)

/-! ### rules for a kind that is not known ahead -/
section
variable {X : Cx}
def rLen (K : PySem.W.Frag) : List V → Hp → VK → Prop := fun xs H Q => (∃ p ys, xs = [.ref p] ∧ (SqL K H p ys ∨ SqT K H p ys) ∧ Q (.int ys.length) H) ∨ ((∃ z, xs = [.str z] ∧ z.length ≤ sizeLine ∧ Q (.int z.length) H) ∨ ∃ a n, xs = [.ref a] ∧ H a = some (SetN a n) ∧ n < 4000 ∧ Q (.int n) H)
theorem call_lenA : CallR X (.builtin "len") (rLen X.K) := call_len_seq.or (call_len_str.or call_lenS)
/-- a global constant, a global that is a class or the like -/
theorem pe_gc {x : Str} {v : V} {pos : Pos} (hg : Gl X x) (h : ∃ u, X.mg x = some u ∧ RelV v u) (hd : (x == ("__debug__" : Str)) = false := by decide) : PE X (.Name x pos) (tC v) := by
  obtain ⟨u, hm, r⟩ := h
  exact pe_glob hg hm r hd
end
def compChk (sc : Scope) (N Nc : List Str) (ix : List (Option Nat)) (scope : Scope) : Bool :=
  decide (scope.kind = .function) && scope.names.all (fun y => decide (y.2 ≠ .cell)) && scope.names.all (fun y => decide (y.2 = .local → scope.names.lookup y.1 = some .local)) &&
  scope.names.all (fun y => decide (y.2 = .free → sc.names.lookup y.1 = some .cell ∨ sc.names.lookup y.1 = some .free)) && decide (ix.length = Nc.length) &&
  (ix.zip Nc).all fun p => match p.1 with | none => true | some j => N[j]? == some p.2 && scope.names.lookup p.2 == some .free
theorem CompOk.of {sc : Scope} {N Nc : List Str} {ix : List (Option Nat)} {scope : Scope} (h : compChk sc N Nc ix scope = true) : CompOk sc N Nc ix scope := by
  unfold compChk at h
  simp only [Bool.and_eq_true] at h
  obtain ⟨⟨⟨⟨⟨h1, h2⟩, h3⟩, h4⟩, h5⟩, h6⟩ := h
  exact ⟨of_decide_eq_true h1, fun y hy => of_decide_eq_true (List.all_eq_true.mp h2 y hy), fun y hy => of_decide_eq_true (List.all_eq_true.mp h3 y hy), fun y hy => of_decide_eq_true (List.all_eq_true.mp h4 y hy), of_decide_eq_true h5, h6⟩

/-! ### over the signs of a text -/
def Its (x : Str) : It := ⟨fun i _ => i < x.cps.size, fun i H v H' => H' = H ∧ ∃ c, x.cps[i]? = some c ∧ v = .str ⟨#[c]⟩, fun i _ => x.cps.size ≤ i⟩
theorem turn_str {P : Program} {w : World} {K : PySem.W.Frag} {tg : Expr} {it : Addr} {x : Str} {t : Tok} {ty : String}
    (hty : ["enumerate", "zip", "dict_itemiterator", "dict_reverseitemiterator", "odict_iterator", "itertools.zip_longest", "itertools.pairwise"].contains ty = false)
    (W : ∀ A' : Around, A'.handled = none → Walks P w A' it [it] [it] x.cps.size (SignAt x) (fun i h => h.IsStrIter it ty x t i))
    (self : ∀ (A : Around) (i : Nat) (s : Shared) (Q : Value → Shared → Prop) (E : Value → Shared → Prop), s.heap.IsStrIter it ty x t i → Q (.ref it) s → wpAny (model P w) A (pyIter (.ref it)) Q E s) :
    Turn P w K tg (Its x) [it] it (fun i h => i ≤ x.cps.size ∧ h.IsStrIter it ty x t i) where
  mem := by simp
  obj := fun i h st b hb => by
    have e : b = it := by simpa using hb
    subst e
    obtain ⟨_, o, e, c, d⟩ := st
    exact ⟨o, e, fun v z => by rw [d] at z; cases z⟩
  keep := fun i h h' st k => by
    obtain ⟨l, o, e, c, d⟩ := st
    exact ⟨l, o, k it (by simp) o e, c, d⟩
  item := by
    intro X hP hw hK hc i pins s σ H E I hf st hg
    subst hP hw hK
    obtain ⟨f0, f1, f2, f3, f4, f5⟩ := hf it (by simp)
    refine (W X.A (I.ok.hd hc)).item i s _ _ hg st.2 fun v h' tk hv st' kk => ?_
    obtain ⟨c, u, hcx, rfl⟩ := hv
    have I1 : L2.Inv X pins σ H { s with heap := h', toks := tk } := I.turned (fun b o hb e => kk b o (by simpa using hb) e) f0 f1 f3 f4 f5
    obtain ⟨o, e, oc, od⟩ := id st'
    exact ⟨_, rfl, go_of (s := { s with heap := h', toks := tk }) e oc od hty ⟨.str ⟨#[c]⟩, H, I1, ⟨u, rfl⟩, ⟨rfl, c, hcx, rfl⟩, ⟨hg, st'⟩, fun b hb => (hf b hb).1⟩⟩
  done := by
    intro X hP hw hK hc i pins s σ H E I hf st hg
    subst hP hw hK
    obtain ⟨f0, f1, f2, f3, f4, f5⟩ := hf it (by simp)
    have e : i = x.cps.size := Nat.le_antisymm st.1 hg
    subst e
    exact (W X.A (I.ok.hd hc)).done s _ _ st.2 fun h' tk kk => ⟨rfl, I.turned (fun b o hb e => kk b o (by simpa using hb) e) f0 f1 f3 f4 f5⟩
  self := fun A i s Q E st h => self A i s Q E st.2 h
section
variable {X : Cx} {tg : Expr}
def iStr (tl : TE) : TI := fun σ H R => tl σ H fun v H1 => ∃ x, v = .str x ∧ R (Its x) H1
theorem pi_str {l : Expr} {tl : TE} (hl : PE X l tl) : PI X tg l (iStr tl) := by
  intro pins s σ H R I h
  refine thn (hl pins s σ H _ I h) fun v s1 ⟨y, H1, I1, r1, x, e, q⟩ => ?_
  subst e
  obtain ⟨t, rfl⟩ := (show ∃ t, v = Value.str x t from r1)
  have fin : ∀ (ty : String), ["enumerate", "zip", "dict_itemiterator", "dict_reverseitemiterator", "odict_iterator", "itertools.zip_longest", "itertools.pairwise"].contains ty = false →
      (∀ A' : Around, A'.handled = none → Walks X.prog X.w A' s1.heap.objs.size [s1.heap.objs.size] [s1.heap.objs.size] x.cps.size (SignAt x) (fun i h => h.IsStrIter s1.heap.objs.size ty x t i)) →
      (∀ (A : Around) (i : Nat) (s : Shared) (Q : Value → Shared → Prop) (E : Value → Shared → Prop), s.heap.IsStrIter s1.heap.objs.size ty x t i → Q (.ref s1.heap.objs.size) s → wpAny (model X.prog X.w) A (pyIter (.ref s1.heap.objs.size)) Q E s) →
      PIE X pins σ tg R (.ref s1.heap.objs.size) { s1 with heap := s1.heap.push { cls := .type ty, data := .fields #[.str x t, .int 0 0] } } := fun ty h1 h2 h3 => by
    refine ⟨s1.heap.objs.size, [s1.heap.objs.size], _, _, H1, rfl, I1.kept (t' := s1.toks) fun b o e => Heap.get?_push_of_some _ e, turn_str h1 h2 h3, ⟨Nat.zero_le _, _, Heap.get?_push_size _ rfl, rfl, rfl⟩, fun b hb => ?_, q⟩
    have e : b = s1.heap.objs.size := by simpa using hb
    subst e
    exact I1.fpOk (Nat.le_refl _) (I1.hok.fresh (Nat.le_refl _))
  cases ha : x.cps.all (· < 128)
  · exact wpAny_pyIter_wide ha (fin "str_iterator" (by decide) (fun A' hA => Walks.strWide hA _ x t) fun _ _ _ _ _ st h => wpAny_pyIter_striter_wide st h)
  · exact wpAny_pyIter_ascii ha (fin "str_ascii_iterator" (by decide) (fun A' hA => Walks.strAscii hA _ x t) fun _ _ _ _ _ st h => wpAny_pyIter_striter_ascii st h)
end

/-! ### the same rules, the module's part named apart -/
section
variable {X : Cx} {K : PySem.W.Frag}
theorem call_lenK (hK : X.K = K) : CallR X (.builtin "len") (rLen K) := by subst hK; exact call_lenA
def rAll (K : PySem.W.Frag) : List V → Hp → VK → Prop := fun xs H Q => ∃ (p : Addr) (bs : List Bool), xs = [.ref p] ∧ SqL K H p (bs.map V.bl) ∧ Q (.bl (bs.all id)) H
theorem call_allK (hK : X.K = K) (hc : X.calm = true) : CallR X (.builtin "all") (rAll K) := by subst hK; exact call_all hc
def rTupleA (K : PySem.W.Frag) : List V → Hp → VK → Prop := fun xs H Q => ∃ p ys, xs = [.ref p] ∧ ((SqL K H p ys ∧ ∀ l, H l = none → Q (.ref l) (upd H l (.tup ys))) ∨ (SqT K H p ys ∧ Q (.ref p) H))
theorem call_tupleK (hK : X.K = K) : CallR X (.type "tuple") (rTupleA K) := by subst hK; exact call_tuple_of
theorem call_isiK (hK : X.K = K) (T : String) : CallR X (.builtin "isinstance") (rIsi K T) := by subst hK; exact call_isi T
theorem ix_listK (hK : X.K = K) : IxR X (rIxL K) := by subst hK; exact ix_list
theorem ix_tupK (hK : X.K = K) : IxR X (rIxT K) := by subst hK; exact ix_tup
theorem sl_listK (hK : X.K = K) : SlR X (rSlL K) := by subst hK; exact sl_list
theorem op_inK (hK : X.K = K) : OpR X (compareOp .In) (rIn K false) := by subst hK; exact op_in_seq
theorem op_notInK (hK : X.K = K) : OpR X (compareOp .NotIn) (rIn K true) := by subst hK; exact op_notIn_seq
theorem op_eqDK (hK : X.K = K) (hu : X.A.units + 64 < cLine) : OpR X (compareOp .Eq) (rEqD K false) := by subst hK; exact op_eqD hu
theorem op_neDK (hK : X.K = K) (hu : X.A.units + 64 < cLine) : OpR X (compareOp .NotEq) (rEqD K true) := by subst hK; exact op_neD hu
theorem pi_listK {tg l : Expr} {tl : TE} (hK : X.K = K) (hl : PE X l tl) : PI X tg l (iList K tl) := by subst hK; exact pi_list hl
theorem pe_fldK {e : Expr} {f : Str} {pos : Pos} {ta : TE} (hK : X.K = K) (he : PE X e ta) (hb : attributeBase e f X.env (eval e X.env) = eval e X.env) : PE X (.Attribute e f pos) (tFld K ta f) := by subst hK; exact pe_fld he hb
theorem pe_revK {e st : Expr} {te : TE} {ts : TO} {pos p2 : Pos} (hK : X.K = K) (he : PE X e te) (hs : PO X (some st) ts) : PE X (.Subscript e (.Slice none none (some st) p2) pos) (tRev K te ts) := by subst hK; exact pe_rev he hs
end
end L3

set_option Elab.async false
set_option linter.all false
set_option maxRecDepth 100000
set_option maxHeartbeats 4000000
namespace L3
open PySem PySem.Spec L2

/-- a thing of which isinstance is known -/
inductive Kd (H : Hp) : V → Prop
  | non : Kd H .non
  | bl (b : Bool) : Kd H (.bl b)
  | int (i : Int) : Kd H (.int i)
  | str (z : Str) (hz : z.length ≤ 1000) : Kd H (.str z)
  | lst {a : Addr} {xs : List V} (e : H a = some (.lst xs)) : Kd H (.ref a)
  | tup {a : Addr} {xs : List V} (e : H a = some (.tup xs)) : Kd H (.ref a)
  | dK {a : Addr} {kvs : List (Key × V)} (e : H a = some (.dK kvs)) : Kd H (.ref a)
theorem Kd.mono {H H' : Hp} {x : V} (s : Same H H') (h : Kd H x) : Kd H' x := by
  cases h with
  | non => exact .non
  | bl b => exact .bl b
  | int i => exact .int i
  | str z hz => exact .str z hz
  | lst e => exact .lst (s _ _ e)
  | tup e => exact .tup (s _ _ e)
  | dK e => exact .dK (s _ _ e)
def isTy (H : Hp) (T : String) : V → Bool
  | .bl _ => T == "bool" || T == "int"
  | .int _ => T == "int"
  | .str _ => T == "str"
  | .ref a => match H a with
    | some (.lst _) => T == "list"
    | some (.tup _) => T == "tuple"
    | some (.dK _) => T == "dict"
    | _ => false
  | _ => false
theorem isi_rd {K : PySem.W.Frag} {T : String} {x : V} {H : Hp} {Q : VK} (hT : T = "int" ∨ T = "bool" ∨ T = "str" ∨ T = "list" ∨ T = "tuple") (h : Kd H x) (q : Q (.bl (isTy H T x)) H) : rIsi K T [x, .ty T] H Q := by
  rcases hT with rfl | rfl | rfl | rfl | rfl
  all_goals
    cases h with
    | non => exact ⟨_, _, _, rfl, .non, rfl, q⟩
    | bl b => exact ⟨_, _, _, rfl, .bl b, rfl, q⟩
    | int i => exact ⟨_, _, _, rfl, .int i, rfl, q⟩
    | str z hz => exact ⟨_, _, _, rfl, .str z, rfl, q⟩
    | lst e => first | exact ⟨_, _, false, rfl, .lst e, rfl, by simpa [isTy, e] using q⟩ | exact ⟨_, _, true, rfl, .lst e, rfl, by simpa [isTy, e] using q⟩
    | tup e => first | exact ⟨_, _, false, rfl, .tup e, rfl, by simpa [isTy, e] using q⟩ | exact ⟨_, _, true, rfl, .tup e, rfl, by simpa [isTy, e] using q⟩
    | dK e => first | exact ⟨_, _, false, rfl, .dK e, rfl, by simpa [isTy, e] using q⟩ | exact ⟨_, _, true, rfl, .dK e, rfl, by simpa [isTy, e] using q⟩

def isLow (c : Nat) : Bool := decide (97 ≤ c ∧ c ≤ 122)
def isNameS (z : Str) : Bool := decide (1 ≤ z.length) && decide (z.length ≤ 8) && z.cps.toList.all isLow
def isNameV : V → Bool
  | .str z => isNameS z
  | _ => false
def isIntV : V → Bool
  | .int _ => true
  | _ => false
/-! ### keys -/
theorem all_id {α : Type} (f : α → Bool) (xs : List α) : (xs.map f).all id = xs.all f := by
  rw [List.all_map]; rfl
theorem mem_letters (c : Nat) : decide (c ∈ ("abcdefghijklmnopqrstuvwxyz" : Str).cps.toList) = isLow c := by
  have e : ("abcdefghijklmnopqrstuvwxyz" : Str).cps.toList = (List.range 26).map (· + 97) := by decide +kernel
  rw [e]
  unfold isLow
  refine decide_eq_decide.mpr ?_
  rw [List.mem_map]
  constructor
  · rintro ⟨k, hk, rfl⟩
    have := List.mem_range.mp hk
    omega
  · rintro ⟨h1, h2⟩
    exact ⟨c - 97, List.mem_range.mpr (by omega), by omega⟩
theorem isi_f (K : PySem.W.Frag) {T : String} {x : V} {H : Hp} {b : Bool} (hT : T = "int" ∨ T = "bool" ∨ T = "str" ∨ T = "list" ∨ T = "tuple") (h : Kd H x) (hb : isTy H T x = b) : ∃ t, TyOf K H x t ∧ PySem.W.kitOne K t (.type T) = some b := by
  obtain ⟨y, t, c, e, h1, h2, q⟩ := isi_rd (K := K) (Q := fun v _ => v = .bl b) hT h (by rw [hb])
  have e1 : x = y := (List.cons.inj e).1
  have e2 : c = b := V.bl.inj q
  subst e1; subst e2
  exact ⟨t, h1, h2⟩
theorem kd_str {H : Hp} {x : V} (h : Kd H x) : (isTy H "str" x = true ∧ ∃ z, x = .str z ∧ z.length ≤ 1000) ∨ (isTy H "str" x = false ∧ isNameV x = false) := by
  cases h with
  | str z hz => exact .inl ⟨rfl, z, rfl, hz⟩
  | non => exact .inr ⟨rfl, rfl⟩
  | bl b => exact .inr ⟨rfl, rfl⟩
  | int i => exact .inr ⟨rfl, rfl⟩
  | lst e => exact .inr ⟨by simp [isTy, e], rfl⟩
  | tup e => exact .inr ⟨by simp [isTy, e], rfl⟩
  | dK e => exact .inr ⟨by simp [isTy, e], rfl⟩
end L3

set_option Elab.async false
set_option linter.all false
set_option maxRecDepth 100000
set_option maxHeartbeats 4000000
namespace L3
open PySem PySem.Spec L2

/-! ### lists and tuples of texts, of ints, of such -/
def LS (H : Hp) (v : V) (ss : List Str) : Prop := ∃ a, v = .ref a ∧ H a = some (.lst (ss.map V.str))
def LI (H : Hp) (v : V) (ns : List Int) : Prop := ∃ a, v = .ref a ∧ H a = some (.lst (ns.map V.int))
def TS (H : Hp) (v : V) (ss : List Str) : Prop := ∃ a, v = .ref a ∧ H a = some (.tup (ss.map V.str))
def TIn (H : Hp) (v : V) (ns : List Int) : Prop := ∃ a, v = .ref a ∧ H a = some (.tup (ns.map V.int))
def LL {α : Type} (r : Hp → V → α → Prop) (H : Hp) (v : V) (xs : List α) : Prop := ∃ a vs, v = .ref a ∧ H a = some (.lst vs) ∧ vs.length = xs.length ∧ ∀ (i : Nat) v x, vs[i]? = some v → xs[i]? = some x → r H v x
def LT {α : Type} (r : Hp → V → α → Prop) (H : Hp) (v : V) (xs : List α) : Prop := ∃ a vs, v = .ref a ∧ H a = some (.tup vs) ∧ vs.length = xs.length ∧ ∀ (i : Nat) v x, vs[i]? = some v → xs[i]? = some x → r H v x
/-- what a world is made of -/
structure WD where
  signs : List (List Str)
  ways : List (List Int)
  starts : List Int
  fair : List Str
structure PartsV (H : Hp) (s w st f : V) (d : WD) : Prop where
  s : LL LS H s d.signs
  w : LL LI H w d.ways
  st : LI H st d.starts
  f : LS H f d.fair
structure Good (d : WD) : Prop where
  n1 : 1 ≤ d.signs.length
  n20 : d.signs.length ≤ 20
  wl : d.ways.length = d.signs.length
  sn : ∀ ss ∈ d.signs, ss.Nodup ∧ (∀ x ∈ ss, isNameS x = true) ∧ ss.length ≤ 5
  wn : ∀ ns ∈ d.ways, ns.Nodup ∧ ns ≠ [] ∧ (∀ x ∈ ns, 0 ≤ x ∧ x < d.signs.length) ∧ ns.length ≤ 20
  stn : d.starts.Nodup ∧ d.starts ≠ [] ∧ (∀ x ∈ d.starts, 0 ≤ x ∧ x < d.signs.length) ∧ d.starts.length ≤ 20
  fn : d.fair.Nodup ∧ (∀ x ∈ d.fair, isNameS x = true) ∧ d.fair.length ≤ 3
theorem name_short {z : Str} (h : isNameS z = true) : z.length ≤ 8 := by
  unfold isNameS at h
  simp only [Bool.and_eq_true, decide_eq_true_eq] at h
  exact h.1.2
/-! ### a world as an object -/
def wfs (t1 t2 t3 t4 : V) : List (Str × V) := [("room_signs", t1), ("room_ways", t2), ("start_rooms", t3), ("fair_names", t4)]
structure WorldAt (C : Addr) (H : Hp) (p : Addr) (d : WD) : Prop where
  ex : ∃ dx t1 t2 t3 t4, H p = some (.ins C dx (wfs t1 t2 t3 t4)) ∧ LT TS H t1 (d.signs.map sortS) ∧ LT TIn H t2 (d.ways.map sortI) ∧ TIn H t3 (sortI d.starts) ∧ TS H t4 d.fair
end L3

set_option Elab.async false
set_option linter.all false
set_option maxRecDepth 100000
set_option maxHeartbeats 4000000
namespace L3
open PySem PySem.Spec L2

/-! ### things within things as data, for == -/
def dI (ns : List Int) : PyData := .list (ns.map PyData.int)
def dS (ss : List Str) : PyData := .list (ss.map PyData.str)
def Fine (n : Nat) (d : PyData) : Prop := d.canLay0 = true ∧ d.depth ≤ n
theorem fineAll {α : Type} {f : α → PyData} {n : Nat} {xs : List α} (h : ∀ x ∈ xs, Fine n (f x)) : PyData.canLayAll0 (xs.map f) = true ∧ PyData.depthAll (xs.map f) ≤ n := by
  induction xs with
  | nil => exact ⟨by simp [PyData.canLayAll0], by simp [PyData.depthAll]⟩
  | cons x r ih =>
    obtain ⟨a, b⟩ := ih fun y hy => h y (List.mem_cons_of_mem _ hy)
    obtain ⟨c, d⟩ := h x List.mem_cons_self
    rw [List.map_cons]
    exact ⟨by rw [PyData.canLayAll0, c, a]; rfl, by rw [PyData.depthAll]; exact Nat.max_le.mpr ⟨d, b⟩⟩
theorem fineL {α : Type} {f : α → PyData} {n : Nat} {xs : List α} (h : ∀ x ∈ xs, Fine n (f x)) : Fine (n + 1) (.list (xs.map f)) := by
  obtain ⟨a, b⟩ := fineAll h
  exact ⟨by rw [PyData.canLay0]; exact a, by rw [PyData.depth]; omega⟩
theorem fineI (ns : List Int) : Fine 1 (dI ns) := fineL fun x _ => ⟨by simp [PyData.canLay0], by simp [PyData.depth]⟩
theorem strOk_name {z : Str} (h : isNameS z = true) : PyData.strOk z = true := by
  unfold isNameS at h
  rw [Bool.and_eq_true] at h
  have h2 := List.all_eq_true.mp h.2
  unfold PyData.strOk
  rw [Array.all_eq_true_iff_forall_mem]
  intro x hx
  have := h2 x (Array.mem_toList_iff.mpr hx)
  unfold isLow at this
  have := of_decide_eq_true this
  exact decide_eq_true (by omega)
section
variable {K : PySem.W.Frag} {H : Hp}
theorem dpAll_map {α : Type} {g : α → V} {f : α → PyData} (h : ∀ x, Dp K H (g x) (f x)) : ∀ xs : List α, DpAll K H (xs.map g) (xs.map f)
  | [] => .nil
  | x :: r => .cons (h x) (dpAll_map h r)
theorem LI.dp {v : V} {ns : List Int} (h : LI H v ns) : Dp K H v (dI ns) := by
  obtain ⟨a, rfl, e⟩ := h
  exact .lst (SqL.of e) (dpAll_map (fun x => .int x) ns)
theorem LS.dp {v : V} {ss : List Str} (h : LS H v ss) : Dp K H v (dS ss) := by
  obtain ⟨a, rfl, e⟩ := h
  exact .lst (SqL.of e) (dpAll_map (fun x => .str x) ss)
end
/-- a list of ints == []: where it is not so, there is one -/
theorem eqD_nil {K : PySem.W.Frag} {H : Hp} {a b : Addr} {ns : List Int} {Q : VK} (h1 : H a = some (.lst (ns.map V.int))) (h2 : H b = some (.lst [])) (q : ∀ c : Bool, (c = true ↔ ns = []) → Q (.bl c) H) : rEqD K false (.ref a) (.ref b) H Q := by
  refine ⟨dI ns, .list [], LI.dp ⟨a, rfl, h1⟩, .lst (SqL.of h2) .nil, (fineI ns).1, by simp [PyData.canLay0, PyData.canLayAll0], Nat.le_trans (fineI ns).2 (by decide), ?_⟩
  refine q _ ?_
  cases ns with
  | nil => simp [dI, PyData.eqv, PyData.eqvAll]
  | cons x r => simp [dI, PyData.eqv, PyData.eqvAll]
end L3

set_option Elab.async false
set_option linter.all false
set_option maxRecDepth 100000
set_option maxHeartbeats 4000000
namespace L3
open PySem PySem.Spec L2
theorem SameX.updN {p D : Addr} {H H' : Hp} {o : HO} (s : SameX p H H') (h : H D = none) : SameX p H (L2.upd H' D o) := fun b u n e => by
  rw [upd_ne (ne_of_none e h)]
  exact s b u n e
theorem SameX.free {p D : Addr} {H H' : Hp} (s : SameX p H H') (np : D ≠ p) (h : H' D = none) : H D = none := by
  cases e : H D with
  | none => rfl
  | some o => rw [s D o np e] at h; cases h
theorem inV_str {z : Str} {ss : List Str} : inV (.str z) (ss.map V.str) = true ↔ z ∈ ss := by
  unfold inV
  rw [List.any_map, List.any_eq_true]
  constructor
  · rintro ⟨y, hy, e⟩
    have e' : (y == z) = true := e
    rw [beq_iff_eq] at e'
    exact e' ▸ hy
  · intro hz
    exact ⟨z, hz, by show (z == z) = true; simp⟩
end L3
namespace L3
open PySem PySem.Spec L2
theorem at_mod {ts : List V} (n : Int) (h : ts ≠ []) : (0 : Int) < ts.length ∧ ∃ v, atI ts (n % (ts.length : Int)) = some v ∧ v ∈ ts := by
  have hl := List.length_pos_iff.mpr h
  have hp : (0 : Int) < ts.length := by omega
  refine ⟨hp, ?_⟩
  have h0 := Int.emod_nonneg n (Int.ne_of_gt hp)
  have h1 := Int.emod_lt_of_pos n hp
  obtain ⟨j, e⟩ := Int.eq_ofNat_of_zero_le h0
  rw [e] at h1 ⊢
  have hj : j < ts.length := by omega
  exact ⟨_, atI_nat (List.getElem?_eq_getElem hj), List.getElem_mem hj⟩
theorem updK {H : Hp} {p F : Addr} {o o' : HO} (h : H p = some o) (n : p ≠ F) : upd H F o' p = some o := by rw [upd_ne n]; exact h
theorem ne_new {H : Hp} {p D : Addr} {o : HO} (h : H p = some o) (n : H D = none) : p ≠ D := fun e => by rw [e, n] at h; cases h
end L3
namespace L3
end L3
namespace L3
open PySem PySem.Spec L2
end L3

set_option Elab.async false
set_option linter.all false
set_option maxRecDepth 100000
set_option maxHeartbeats 4000000
namespace L3
open PySem PySem.Spec L2
/-! ### some lists may change -/
end L3

set_option Elab.async false
set_option linter.all false
set_option maxRecDepth 100000
set_option maxHeartbeats 4000000
namespace L3
open PySem PySem.Spec PyProof.Rows L2
section
variable {X : Cx} {pins : List (Addr × Obj)} {σ : St} {H : Hp} {s : Shared} {h' : Heap}
end
section
variable {X : Cx}
end
end L3

set_option Elab.async false
set_option linter.all false
set_option maxRecDepth 100000
set_option maxHeartbeats 4000000
namespace L3
open PySem PySem.Spec PyProof.Rows L2
section
variable {X : Cx}
/-! ### xs.index(y), xs.insert(i, y), xs[i] = y, is not False, {} -/
theorem Vals.take {xs : List V} {us : List Value} (h : Vals xs us) (k : Nat) : Vals (xs.take k) (us.take k) := by
  induction k generalizing xs us with
  | zero => exact .nil
  | succ k ih =>
    cases h with
    | nil => exact .nil
    | cons r t => exact .cons r (ih t)
theorem Vals.drop {xs : List V} {us : List Value} (h : Vals xs us) (k : Nat) : Vals (xs.drop k) (us.drop k) := by
  induction k generalizing xs us with
  | zero => exact h
  | succ k ih =>
    cases h with
    | nil => exact .nil
    | cons r t => exact ih t
end
section
variable {prog : Program} {w : World} {A : Around} {E : Value → Shared → Prop} {s : Shared}
end
section
variable {X : Cx}
end
end L3

set_option Elab.async false
set_option linter.all false
set_option maxRecDepth 100000
set_option maxHeartbeats 4000000
namespace L3
open PySem PySem.Spec PyProof.Rows L2
/-! ### sum of lists -/
section
variable {prog : Program} {w : World} {A : Around} {R : Result → Shared → Prop} {I : Addr} {fp wr : List Addr} {n : Nat} {P : Nat → Value → Prop} {St : Nat → Heap → Prop}
end
section
variable {X : Cx}
end
end L3

set_option Elab.async false
set_option linter.all false
set_option maxRecDepth 100000
set_option maxHeartbeats 4000000
namespace L3
open PySem PySem.Spec L2
section
variable {X : Cx} {K : PySem.W.Frag}
theorem pt_truthK {a : Expr} {ta : TE} (hK : X.K = K) (ha : PE X a ta) (he : ∀ whole, isTrue a X.env whole = (do let v ← whole; standAt a.pos; holding [v] (truthy v))) :
    PT X a (fun σ H Q => ta σ H fun x H' => ∃ k, TruV K x H' k ∧ Q k H') := by subst hK; exact pt_truth ha he
end
/-! ### runs as plain functions -/
theorem cutV_from (xs : List V) (k : Nat) (h : k ≤ xs.length) : cutV xs (some (k : Int)) none = xs.drop k := by
  unfold cutV
  rw [HT.sIx_nat, HT.sIx_none, Nat.min_eq_left h]
  exact List.take_of_length_le (by rw [List.length_drop]; omega)
theorem cutV_to (xs : List V) (k : Nat) (h : k ≤ xs.length) : cutV xs none (some (k : Int)) = xs.take k := by
  unfold cutV
  rw [HT.sIx_nat, HT.sIx_none, Nat.min_eq_left h]
  simp
theorem isTy_same {H H' : Hp} {T : String} {v : V} (s : Same H H') (h : Kd H v) : isTy H' T v = isTy H T v := by
  cases h with
  | non => rfl
  | bl b => rfl
  | int i => rfl
  | str z hz => rfl
  | lst e => simp only [isTy, e, s _ _ e]
  | tup e => simp only [isTy, e, s _ _ e]
  | dK e => simp only [isTy, e, s _ _ e]
end L3
namespace L3
open PySem PySem.Spec L2
end L3

set_option Elab.async false
set_option linter.all false
set_option maxRecDepth 100000
set_option maxHeartbeats 4000000
namespace L3
open PySem PySem.Spec L2
end L3
namespace L3
open PySem PySem.Spec L2
/-- a statement, then the rest, with a word of one's own between -/
theorem pss_join {X : Cx} {st : Stmt} {rest : List Stmt} {t u : L2.TS} (h1 : PS X st t) (h2 : PSs X rest u) : PSs X (st :: rest) (fun D σ H => ∃ J : St → Hp → Prop, t { D with nx := J } σ H ∧ ∀ σ' H', J σ' H' → u D σ' H') := by
  intro pins s σ H D I h
  obtain ⟨J, h, hj⟩ := h
  refine wpAny_execs_cons (thn (h1 pins s σ H { D with nx := J } I h) fun f s1 q => ?_)
  cases f with
  | next =>
    obtain ⟨σ', H', I', q⟩ := q
    exact h2 pins s1 σ' H' D I' (hj _ _ q)
  | ret v => exact q
  | brk => exact q
  | cont => exact q
end L3

set_option Elab.async false
set_option linter.all false
set_option maxRecDepth 100000
set_option maxHeartbeats 4000000
namespace L3
open PySem PySem.Spec L2
end L3
namespace L3
open PySem PySem.Spec L2
end L3

set_option Elab.async false
set_option linter.all false
set_option maxRecDepth 100000
set_option maxHeartbeats 4000000
namespace L3
open PySem PySem.Spec PyProof.Rows L2
/-! ### texts: join, split, int, str, slice, >= -/
theorem strs_pairs : ∀ {ss : List Str} {us : List Value}, Vals (ss.map V.str) us → ∃ l : List (Str × Tok), us = strValues l ∧ l.map (·.1) = ss
  | [], _, .nil => ⟨[], rfl, rfl⟩
  | x :: r, _, .cons a b => by
    obtain ⟨t, rfl⟩ := a
    obtain ⟨l, e1, e2⟩ := strs_pairs b
    exact ⟨(x, t) :: l, by rw [e1]; rfl, by rw [List.map_cons, e2]⟩
theorem vals_pairs : ∀ (l : List (Str × Tok)), Vals ((l.map (·.1)).map V.str) (strValues l)
  | [] => .nil
  | (x, t) :: r => .cons ⟨t, rfl⟩ (vals_pairs r)
theorem join_len (sep : Str) : ∀ ss : List Str, (Str.join sep ss).length ≤ (ss.map (·.length)).sum + ss.length * sep.length
  | [] => by show Str.empty.length ≤ _; exact Nat.zero_le _
  | [x] => by show x.length ≤ _; simp
  | x :: y :: r => by
    have h := join_len sep (y :: r)
    show (x ++ sep ++ Str.join sep (y :: r)).length ≤ _
    rw [Str.length_append, Str.length_append, List.map_cons, List.sum_cons, List.length_cons, Nat.succ_mul]
    omega
section
variable {X : Cx}
inductive rJoin_R (K : PySem.W.Frag) (x : V) (vs : List V) (H : Hp) (Q : VK) : Prop
  | mk (sep : _) (p : _) (ss : _) (B : _) (h0 : x = .str sep) (h1 : vs = [.ref p]) (h2 : SqL K H p (ss.map V.str)) (h3 : (∀ y ∈ ss, y.length ≤ B)) (h4 : ss.length * B + ss.length * sep.length ≤ 16777216) (h5 : Q (.str (Str.join sep ss)) H) : rJoin_R K x vs H Q
def rJoin (K : PySem.W.Frag) : V → List V → Hp → VK → Prop := fun x vs H Q => rJoin_R K x vs H Q
theorem mt_join : MtM X "str.join" (rJoin X.K) := by
  intro pins s σ H x vs v us Q I rx rv h
  obtain ⟨sep, p, ss, B, rfl, rfl, hq, hB, hz, q⟩ := h
  obtain ⟨t, rfl⟩ := (show ∃ t, v = Value.str sep t from rx)
  obtain ⟨u, rfl, ru⟩ := rv.one
  obtain rfl : u = Value.ref p := ru
  obtain ⟨its, r, pl, _⟩ := I.list hq
  obtain ⟨l, rfl, el⟩ := strs_pairs r
  refine call_meets F.slot_str_join (typeIs_str _ _ _) F.entry_str_join (F.args_str_join_2 _ _) (meets_str_join_list sep t p l ?_) ⟨pl.isList, ?_⟩
  · rw [el]
    exact StrLaws.joinFits hB hz
  · have hlen : (Str.join sep ss).length ≤ sizeLine := by
      have h1 := join_len sep ss
      have h2 := StrLaws.sumLen_le ss hB
      rw [sizeLine_eq]
      omega
    have fin : (Builtin.Str.glued sep (l.map (·.1))).length ≤ sizeLine ∧ EP X pins σ Q (.str (Builtin.Str.glued sep (l.map (·.1))) s.toks) { s with toks := s.toks + 1 } := by
      rw [StrLaws.glued_eq_join, el]
      exact ⟨hlen, .str _, H, I.tok _, ⟨_, rfl⟩, q⟩
    match l, el, fin with
    | [], _, fin => exact fin
    | [(y, ty)], el, _ =>
      have e2 : ss = [y] := el.symm
      subst e2
      exact ⟨.str y, H, I, ⟨_, rfl⟩, q⟩
    | _ :: _ :: _, _, fin => exact fin
theorem mt_joinK {K : PySem.W.Frag} (hK : X.K = K) : MtM X "str.join" (rJoin K) := by subst hK; exact mt_join
/-- text.split(sep) -/
inductive rSplit_R (x : V) (vs : List V) (H : Hp) (Q : VK) : Prop
  | mk (z : _) (sep : _) (h0 : x = .str z) (h1 : vs = [.str sep]) (h2 : 1 ≤ sep.length) (h3 : z.length ≤ 10000) (h4 : ∀ p, H p = none → Q (.ref p) (upd H p (.lst ((Txt.split z sep).map V.str)))) : rSplit_R x vs H Q
def rSplit : V → List V → Hp → VK → Prop := fun x vs H Q => rSplit_R x vs H Q
theorem mt_split : MtM X "str.split" rSplit := by
  intro pins s σ H x vs v us Q I rx rv h
  obtain ⟨z, sep, rfl, rfl, h1, hz, q⟩ := h
  obtain ⟨t, rfl⟩ := (show ∃ t, v = Value.str z t from rx)
  obtain ⟨u, rfl, ru⟩ := rv.one
  obtain ⟨u, rfl⟩ := (show ∃ t, _ = Value.str sep t from ru)
  have hy : (sep.length == 0) = false := by simp; omega
  have hlen : (Builtin.Str.partsBetween z (Builtin.Str.occurrences z sep 0 z.length (z.length + 1)) sep.length).length ≤ 10002 := by
    have h2 := StrLaws.occ_length_le z sep 0 z.length (z.length + 1)
    unfold Builtin.Str.partsBetween
    simp
    omega
  have slot : ∀ {l : List (Str × Tok)} {tk : Nat}, l.map (·.1) = Txt.split z sep → (l.length ≤ 10002) → EP X pins σ Q (.ref s.heap.objs.size) { s with heap := s.heap.push { cls := .type "list", data := .seq (strValues l).toArray }, toks := tk } := fun {l tk} el hl =>
    ⟨.ref _, _, I.lnew (t' := tk) (by rw [← el]; exact vals_pairs l) (by rw [List.length_map, ← el, List.length_map, sizeLine_eq]; omega), rfl, q _ I.fresh⟩
  cases h1' : (decide (z.length < sep.length) || decide (Builtin.Str.strKind z < Builtin.Str.strKind sep))
  · cases hf : (Builtin.Str.occurrences z sep 0 z.length (z.length + 1)).isEmpty
    · refine call_meets F.slot_str_split (typeIs_str _ _ _) F.entry_str_split (F.args_str_split_2 _ _) (meets_str_split_sep z sep t u h1' hy hf (by rw [sizeLine_eq]; omega) (by rw [sizeLine_eq]; omega)) ?_
      show EP X pins σ Q (.ref s.heap.objs.size) { s with toks := _, heap := s.heap.push { cls := .type "list", data := .seq (strsFrom s.toks (Builtin.Str.partsBetween z (Builtin.Str.occurrences z sep 0 z.length (z.length + 1)) sep.length)).toArray } }
      rw [strsFrom_eq]
      exact slot ((numbered_texts _ _).trans ((if_neg (ne_true_of_eq_false h1')).trans (if_neg (ne_true_of_eq_false hf))).symm) (by have := congrArg List.length (numbered_texts s.toks (Builtin.Str.partsBetween z (Builtin.Str.occurrences z sep 0 z.length (z.length + 1)) sep.length)); rw [List.length_map] at this; omega)
    · refine call_meets F.slot_str_split (typeIs_str _ _ _) F.entry_str_split (F.args_str_split_2 _ _) (meets_str_split_not_found z sep t u h1' hy hf) ?_
      exact slot (l := [(z, t)]) (tk := s.toks) ((if_neg (ne_true_of_eq_false h1')).trans (if_pos hf)).symm (by simp)
  · refine call_meets F.slot_str_split (typeIs_str _ _ _) F.entry_str_split (F.args_str_split_2 _ _) (meets_str_split_cannot_occur z sep t u h1') ?_
    exact slot (l := [(z, t)]) (tk := s.toks) (if_pos h1').symm (by simp)
/-- int(text) -/
theorem call_int_txt : CallR X (.type "int") (fun xs H Q => ∃ z n, xs = [.str z] ∧ intText? z = some n ∧ z.length ≤ 640 ∧ Q (.int n) H) := by
  intro pins s σ H xs us Q I r h
  obtain ⟨z, n, rfl, hn, hl, q⟩ := h
  obtain ⟨u, rfl, ru⟩ := vals1 r
  obtain ⟨t, rfl⟩ := (show ∃ t, u = Value.str z t from ru)
  exact PySem.W.KIN.call_text hn hl ⟨.int n, H, I.tok _, ⟨_, rfl⟩, q⟩
/-- str(x), x a text or an int -/
theorem call_str_any : CallR X (.type "str") (fun xs H Q => (∃ i, xs = [.int i] ∧ i.natAbs.log2 < 1920 ∧ Q (.str (toString i)) H) ∨ ∃ z, xs = [.str z] ∧ Q (.str z) H) := by
  refine call_str_int.or ?_
  intro pins s σ H xs us Q I r h
  obtain ⟨z, rfl, q⟩ := h
  obtain ⟨u, rfl, ru⟩ := vals1 r
  obtain ⟨t, rfl⟩ := (show ∃ t, u = Value.str z t from ru)
  exact PySem.P.str_of_str ⟨.str z, H, I, ⟨_, rfl⟩, q⟩
end
section
variable {prog : Program} {w : World} {A : Around} {E : Value → Shared → Prop} {s : Shared}
end
section
variable {X : Cx}
end
section
variable {prog : Program} {w : World} {A : Around} {E : Value → Shared → Prop} {s : Shared}
end
section
variable {X : Cx}
end
end L3

set_option Elab.async false
set_option linter.all false
set_option maxRecDepth 100000
set_option maxHeartbeats 4000000
namespace L3
open PySem PySem.Spec PyProof.Rows L2
/-! ### words, lines, a world's text -/
def free (c : Nat) (z : Str) : Prop := c ∉ z.cps.toList
theorem cut_first {α : Type} [DecidableEq α] {c : α} : ∀ {a b r s : List α}, c ∉ a → c ∉ b → a ++ c :: r = b ++ c :: s → a = b ∧ r = s
  | [], [], r, s, _, _, h => ⟨rfl, by simpa using h⟩
  | [], y :: b, r, s, _, hb, h => by
    have e : c = y := by simpa using (List.cons.inj h).1
    exact absurd (by rw [e]; simp) hb
  | x :: a, [], r, s, ha, _, h => by
    have e : x = c := by simpa using (List.cons.inj h).1
    exact absurd (by rw [e]; simp) ha
  | x :: a, y :: b, r, s, ha, hb, h => by
    obtain ⟨e1, e2⟩ := List.cons.inj h
    obtain ⟨q1, q2⟩ := cut_first (fun z => ha (List.mem_cons_of_mem _ z)) (fun z => hb (List.mem_cons_of_mem _ z)) e2
    exact ⟨by rw [e1, q1], q2⟩
theorem join_two (c : Nat) (x y : Str) (r : List Str) : (Str.join ⟨#[c]⟩ (x :: y :: r)).cps.toList = x.cps.toList ++ c :: (Str.join ⟨#[c]⟩ (y :: r)).cps.toList := by
  show (x ++ (⟨#[c]⟩ : Str) ++ Str.join ⟨#[c]⟩ (y :: r)).cps.toList = _
  rw [Str.cps_append, Str.cps_append]
  simp
theorem str_ext {a b : Str} (h : a.cps.toList = b.cps.toList) : a = b := Str.ext' (Array.toList_inj.mp h)
theorem join_inj {c : Nat} : ∀ {ws vs : List Str}, ws ≠ [] → vs ≠ [] → (∀ w ∈ ws, free c w) → (∀ v ∈ vs, free c v) → Str.join ⟨#[c]⟩ ws = Str.join ⟨#[c]⟩ vs → ws = vs
  | [], _, h, _, _, _, _ => absurd rfl h
  | _ :: _, [], _, h, _, _, _ => absurd rfl h
  | [x], [y], _, _, _, _, h => by rw [show x = y from h]
  | [x], y :: z :: s, _, _, hx, _, h => by
    have e := congrArg (fun q : Str => q.cps.toList) h
    rw [join_two] at e
    have e2 : x.cps.toList = y.cps.toList ++ c :: (Str.join ⟨#[c]⟩ (z :: s)).cps.toList := e
    exact absurd (by rw [e2]; simp) (hx x (by simp))
  | x :: y :: r, [z], _, _, _, hz, h => by
    have e := congrArg (fun q : Str => q.cps.toList) h
    rw [join_two] at e
    have e2 : x.cps.toList ++ c :: (Str.join ⟨#[c]⟩ (y :: r)).cps.toList = z.cps.toList := e
    exact absurd (by rw [← e2]; simp) (hz z (by simp))
  | x :: y :: r, z :: v :: s, _, _, hx, hz, h => by
    have e := congrArg (fun q : Str => q.cps.toList) h
    rw [join_two, join_two] at e
    obtain ⟨q1, q2⟩ := cut_first (hx x (by simp)) (hz z (by simp)) e
    rw [str_ext q1, join_inj (ws := y :: r) (vs := v :: s) (by simp) (by simp) (fun w hw => hx w (List.mem_cons_of_mem _ hw)) (fun w hw => hz w (List.mem_cons_of_mem _ hw)) (str_ext q2)]
theorem split_ne (x y : Str) : Txt.split x y ≠ [] := by
  unfold Txt.split
  split
  · simp
  · split
    · simp
    · rw [StrLaws.partsBetween_eq]
      obtain ⟨p, r, e⟩ := StrLaws.partsFrom_ne x y.length 0 (Builtin.Str.occurrences x y 0 x.length (x.length + 1))
      rw [e]
      simp
theorem split_join {c : Nat} {ws : List Str} (h : ws ≠ []) (hf : ∀ w ∈ ws, free c w) : Txt.split (Str.join ⟨#[c]⟩ ws) ⟨#[c]⟩ = ws :=
  join_inj (split_ne _ _) h (StrLaws.split_free _ c) hf (StrLaws.join_split _ _)
def strI (n : Int) : Str := toString n
theorem sp32 : (" " : Str) = ⟨#[32]⟩ := by decide +kernel
theorem low_free {z : Str} {c : Nat} (h : z.cps.toList.all isLow = true) (hc : isLow c = false) : free c z := fun hm => by
  have := List.all_eq_true.mp h c hm
  rw [hc] at this; cases this
theorem name_low {z : Str} (h : isNameS z = true) : z.cps.toList.all isLow = true := by
  unfold isNameS at h
  rw [Bool.and_eq_true] at h
  exact h.2
theorem num_tab : ∀ k : Nat, k < 20 → (strI (k : Int)).length ≤ 2 ∧ 1 ≤ (strI (k : Int)).length ∧ ((strI (k : Int)).cps.toList.all fun c => decide (48 ≤ c ∧ c ≤ 57)) = true ∧ (strI (k : Int) = "0" ∨ (strI (k : Int)).cps.toList[0]? ≠ some 48) := by
  decide +kernel
theorem num_facts {n : Int} (h0 : 0 ≤ n) (h1 : n < 20) : (strI n).length ≤ 2 ∧ 1 ≤ (strI n).length ∧ ((strI n).cps.toList.all fun c => decide (48 ≤ c ∧ c ≤ 57)) = true ∧ (strI n = "0" ∨ (strI n).cps.toList[0]? ≠ some 48) := by
  obtain ⟨k, rfl⟩ := Int.eq_ofNat_of_zero_le h0
  exact num_tab k (by omega)
theorem num_free {n : Int} {c : Nat} (h0 : 0 ≤ n) (h1 : n < 20) (hc : ¬ (48 ≤ c ∧ c ≤ 57)) : free c (strI n) := fun hm => by
  have := List.all_eq_true.mp (num_facts h0 h1).2.2.1 c hm
  exact hc (of_decide_eq_true this)

def dT (d : WD) : PyData := .list (d.signs.map dS ++ d.ways.map dI ++ [dI d.starts, dS d.fair])
/-- what is asked of a world's data that is written -/
structure Writ (d : WD) : Prop where
  gd : Good d
  rm : ∀ n : Int, n < d.signs.length → n < 20 ∨ d.signs.length ≤ 20
end L3
namespace L3
open PySem PySem.Spec PyProof.Rows L2
section
variable {X : Cx} {K : PySem.W.Frag}
end
end L3
namespace L3
open PySem PySem.Spec PyProof.Rows L2
theorem atI_back {α : Type} {xs : List α} {k : Nat} (h1 : 1 ≤ k) (h2 : k ≤ xs.length) : atI xs (-(k : Int)) = xs[xs.length - k]? := by
  have e : ixN xs.length (-(k : Int)) = some (xs.length - k) := by
    unfold ixN
    rw [if_neg (by omega), if_pos (by omega)]
    congr 1
    omega
  unfold atI
  rw [e]
  rfl
end L3

set_option Elab.async false
set_option linter.all false
set_option maxRecDepth 100000
set_option maxHeartbeats 4000000
namespace L3
open PySem PySem.Spec PyProof.Rows L2
/-! ### an exception in flight whose context is None -/
/-- the exception at e: its class, its first field, no context, its traceback at T, which is new since base and bears the mark fl -/
def TrV (h base : Heap) (e : Addr) (cls fl : Value) : Prop :=
  ∃ oe vs T oT ts a0, h.get? e = some oe ∧ oe.cls = cls ∧ oe.data = .fields vs ∧ vs[0]? = some a0 ∧ vs[2]? = some .none ∧ vs[1]? = some (.ref T) ∧ base.get? T = none ∧ T ≠ e ∧ h.get? T = some oT ∧ oT.data = .fields ts ∧ ts[3]? = some fl
def FlV (base : Heap) (l : List Env) (e : Addr) (cls fl : Value) (h : Heap) : Prop := base.StaysIn h ∧ base.get? e = none ∧ h.FunFrames base l ∧ TrV h base e cls fl
section
variable {M : Model} {A : Around} {E : Value → Shared → Prop} {s : Shared} {base : Heap} {env : Env} {outer : List Env} {L e : Addr} {cls fl : Value} {Q : Unit → Shared → Prop}
/-- a new entry of the traceback -/
theorem entryV {oe : Obj} {vs : Array Value} {head a0 : Value} {hadNext : Bool} (hfr : A.frames = some (env :: outer)) (hl : s.heap.FunFrames base (env :: outer)) (hf : env.frame = some L)
    (he : s.heap.get? e = some oe) (hkb : base.StaysIn s.heap) (hen : base.get? e = none) (hd : oe.data = .fields vs) (hsz : 1 < vs.size) (h0 : vs[0]? = some a0) (h2 : vs[2]? = some .none)
    (h : ∀ h', FlV base (env :: outer) e oe.cls (rawInt L) h' → s.heap.UpToSlots h' → Q () { s with heap := h' }) :
    wpAny M A (do let a ← frameOf env; let pl ← entryPlaceOf L hadNext; let b ← EntryCells.newEntry head a .none (rawInt L) .none pl; setField (.ref e) 1 b) Q E s := by
  have out : e ∉ (env :: outer).filterMap (·.frame) := fun hm => by
    obtain ⟨_, o, ho, hnf⟩ := hl.mem hm
    rw [he] at ho
    cases ho
    exact hnf vs hd
  refine wpAny_bind (wpAny_frameOf_fun hfr hl hf fun h₁ hs₁ => wpAny_bind (wpAny_entryPlaceOf fun pl hpl => ?_))
  unfold EntryCells.newEntry newFields
  refine wpAny_bind (wpAny_newObj_type ?_ (hpl.sizeOk5 _ _ _ _ _))
  have he₁ : h₁.get? e = some oe := (hs₁.2.1 e out).trans he
  have kb : base.StaysIn h₁ := fun b o q => (hs₁.2.1 b fun hm => by rw [(hl.mem hm).1] at q; cases q).trans (hkb b o q)
  generalize hob : ({ cls := .type "traceback", dict := none, data := .fields ([head, .ref L, .none, rawInt L, .none] ++ (if pl.isEmpty then List.replicate 6 Value.none else pl)).toArray } : Obj) = ob
  have he₂ := Heap.get?_push_of_some (h := h₁) ob he₁
  have hnew : (h₁.push ob).get? h₁.objs.size = some ob := Heap.get?_push_size h₁ (by rw [← hob]; rfl)
  refine wpAny_setField he₂ hd hsz ?_
  have hTe : h₁.objs.size ≠ e := Nat.ne_of_gt (Heap.lt_size he₁)
  have hd₃ := Obj.data_mapFields hd (·.setIfInBounds 1 (Value.ref h₁.objs.size))
  have he₃ := Heap.get?_update_self (Obj.mapFields (·.setIfInBounds 1 (Value.ref h₁.objs.size))) he₂ (Obj.isFreed_of_fields hd₃)
  have hT₃ := (Heap.get?_update_other (h₁.push ob) (Obj.mapFields (·.setIfInBounds 1 (Value.ref h₁.objs.size))) (Ne.symm hTe)).trans hnew
  have stay : ∀ b o, b ≠ e → h₁.get? b = some o → ((h₁.push ob).update e (Obj.mapFields (·.setIfInBounds 1 (Value.ref h₁.objs.size)))).get? b = some o := fun b o hbe q => by
    rw [Heap.get?_update_other _ _ (Ne.symm hbe)]
    exact Heap.get?_push_of_some _ q
  have plain : ∀ b o, s.heap.get? b = some o → (∀ vs, o.data ≠ .fields vs) → b ≠ e := fun b o q hnf z => by
    rw [z, he] at q
    cases q
    exact hnf vs hd
  refine h _ ⟨fun b o q => stay b o (fun z => by rw [z, hen] at q; cases q) (kb b o q), hen, hl.of_keeps fun b o q hnf => ?_, ?_⟩ fun b o q hnf => ?_
  · obtain ⟨sl, hs⟩ := hs₁.2.2 b o q
    exact ⟨_, stay b _ (plain b o q hnf) hs, rfl⟩
  · refine ⟨_, _, h₁.objs.size, ob, ([head, .ref L, .none, rawInt L, .none] ++ (if pl.isEmpty then List.replicate 6 Value.none else pl)).toArray, a0, he₃, Obj.cls_mapFields _ _, hd₃, ?_, ?_, by simp [hsz], kb.fresh, hTe, hT₃, by rw [← hob], ?_⟩
    · rw [Array.getElem?_setIfInBounds_ne (by decide)]; exact h0
    · rw [Array.getElem?_setIfInBounds_ne (by decide)]; exact h2
    · simp
  · obtain ⟨sl, hs⟩ := hs₁.2.2 b o q
    exact ⟨sl, stay b _ (plain b o q hnf) hs⟩
/-- the frame is noted, for the first time -/
theorem note_firstV {oe : Obj} {vs : Array Value} {a0 : Value} (hfr : A.frames = some (env :: outer)) (hl : s.heap.FunFrames base (env :: outer)) (hf : env.frame = some L)
    (he : s.heap.get? e = some oe) (hkb : base.StaysIn s.heap) (hen : base.get? e = none) (hd : oe.data = .fields vs) (h0 : vs[0]? = some a0) (h1 : vs[1]? = some .none) (h2 : vs[2]? = some .none)
    (h : ∀ h', FlV base (env :: outer) e oe.cls (rawInt L) h' → s.heap.UpToSlots h' → Q () { s with heap := h' }) : wpAny M A (noteFrame (.ref e) env) Q E s := by
  unfold noteFrame
  simp only [hf]
  refine wpAny_bind (wpAny_field he hd h1 ?_)
  rw [if_neg (by decide)]
  exact entryV hfr hl hf he hkb hen hd (Array.getElem?_eq_some_iff.mp h1).1 h0 h2 h
/-- .. and on its way -/
theorem note_onV (hfr : A.frames = some (env :: outer)) (hf : env.frame = some L) (x : FlV base (env :: outer) e cls .none s.heap)
    (h : ∀ h', FlV base (env :: outer) e cls (rawInt L) h' → s.heap.UpToSlots h' → Q () { s with heap := h' }) : wpAny M A (noteFrame (.ref e) env) Q E s := by
  obtain ⟨hkb, hen, hl, oe, vs, T, oT, ts, a0, he, hc, hd, h0, h2, h1, hnT, hTe, hT, hdT, h3⟩ := x
  subst hc
  unfold noteFrame
  simp only [hf]
  refine wpAny_bind (wpAny_field he hd h1 ?_)
  rw [if_pos (show (Value.ref T != Value.none) = true from by simp)]
  refine wpAny_bind (wpAny_field hT hdT h3 ?_)
  rw [if_neg (show ¬ ((Value.none == rawInt L) = true) from by simp [rawInt])]
  refine wpAny_bind (wpAny_setField hT hdT (Array.getElem?_eq_some_iff.mp h3).1 ?_)
  have other : ∀ b, b ≠ T → (s.heap.update T (Obj.mapFields (·.setIfInBounds 3 Value.none))).get? b = s.heap.get? b := fun b hb => Heap.get?_update_other _ _ (Ne.symm hb)
  have plain : ∀ b o, s.heap.get? b = some o → (∀ vs, o.data ≠ .fields vs) → b ≠ T := fun b o q hnf z => by
    rw [z, hT] at q
    cases q
    exact hnf ts hdT
  refine entryV hfr (hl.of_keeps fun b o q hnf => ⟨o, (other b (plain b o q hnf)).trans q, rfl⟩) hf ((other e (Ne.symm hTe)).trans he)
    (fun b o q => (other b fun z => by rw [z, hnT] at q; cases q).trans (hkb b o q)) hen hd (Array.getElem?_eq_some_iff.mp h1).1 h0 h2
    fun h' x' up => h h' x' fun b o q hnf => up b o ((other b (plain b o q hnf)).trans q) hnf
/-- the mark goes -/
theorem landV {l : List Env} (x : FlV base l e cls fl s.heap) (h : ∀ h', FlV base l e cls .none h' → s.heap.UpToSlots h' → Q () { s with heap := h' }) : wpAny M A (setFlight (.ref e) none) Q E s := by
  obtain ⟨hkb, hen, hl, oe, vs, T, oT, ts, a0, he, hc, hd, h0, h2, h1, hnT, hTe, hT, hdT, h3⟩ := x
  have hsz3 : 3 < ts.size := (Array.getElem?_eq_some_iff.mp h3).1
  have other : ∀ b, b ≠ T → (s.heap.update T (Obj.mapFields (·.setIfInBounds 3 ((none : Option Addr).elim Value.none fun f => rawInt f)))).get? b = s.heap.get? b := fun b hb => Heap.get?_update_other _ _ (Ne.symm hb)
  have plain : ∀ b o, s.heap.get? b = some o → (∀ vs, o.data ≠ .fields vs) → b ≠ T := fun b o q hnf z => by
    rw [z, hT] at q
    cases q
    exact hnf ts hdT
  unfold setFlight
  refine wpAny_bind (wpAny_field he hd h1 ?_)
  rw [if_pos (show (Value.ref T != Value.none) = true from by simp)]
  refine wpAny_setField hT hdT hsz3 (h _ ⟨fun b o q => (other b fun z => by rw [z, hnT] at q; cases q).trans (hkb b o q), hen,
    hl.of_keeps fun b o q hnf => ⟨o, (other b (plain b o q hnf)).trans q, rfl⟩,
    oe, vs, T, _, _, a0, (other e (Ne.symm hTe)).trans he, hc, hd, h0, h2, h1, hnT, hTe, Heap.get?_update_self _ hT (Obj.isFreed_of_fields (Obj.data_mapFields hdT _)), Obj.data_mapFields hdT _, by simp [hsz3]⟩
    fun b o q hnf => ⟨o.slots, (other b (plain b o q hnf)).trans q⟩)
/-- a def is left, by a new exception -/
theorem leaves_madeV {h : Heap} {args : List Value} (hfr : A.frames = some (env :: outer)) (hf : env.frame = some L) (hkb : base.StaysIn h) (hl : h.FunFrames base (env :: outer)) (hx : Heap.MadeExcOf h s.heap e cls args)
    (hQ : ∀ h', FlV base outer e cls .none h' → s.heap.UpToSlots h' → Q () { s with heap := h' }) : wpAny M A (leaving env (.ref e)) Q E s := by
  obtain ⟨t, he, htn, ht⟩ := hx.there
  have fresh : ∀ b, h.get? b = none → base.get? b = none := fun b hb => by
    cases q : base.get? b with
    | none => rfl
    | some o' => rw [hkb b o' q] at hb; cases hb
  unfold leaving
  refine wpAny_bind (note_firstV (a0 := .ref t) hfr (hl.of_keeps fun b o q _ => ⟨o, hx.keeps b o q, rfl⟩) hf he (fun b o q => hx.keeps b o (hkb b o q)) (fresh e hx.new) rfl rfl rfl rfl fun h' x' up => ?_)
  refine landV (s := { s with heap := h' }) x' fun h'' ⟨y1, y2, ⟨_, _, y3⟩, y4⟩ up' => hQ h'' ⟨y1, y2, y3, y4⟩ (up.trans up')
/-- a def is left, by one that came through it -/
theorem leaves_onV (hfr : A.frames = some (env :: outer)) (hf : env.frame = some L) (x : FlV base (env :: outer) e cls .none s.heap)
    (hQ : ∀ h', FlV base outer e cls .none h' → s.heap.UpToSlots h' → Q () { s with heap := h' }) : wpAny M A (leaving env (.ref e)) Q E s := by
  unfold leaving
  refine wpAny_bind (note_onV hfr hf x fun h' x' up => ?_)
  refine landV (s := { s with heap := h' }) x' fun h'' ⟨y1, y2, ⟨_, _, y3⟩, y4⟩ up' => hQ h'' ⟨y1, y2, y3, y4⟩ (up.trans up')
end
end L3

set_option Elab.async false
set_option linter.all false
set_option maxRecDepth 100000
set_option maxHeartbeats 4000000
namespace L3
open PySem PySem.Spec PyProof.Rows L2
/-! ### exceptions of one's own classes: how they lie behind a call -/
/-- the exception at a, of the class at C, with its traceback at T; neither was there in h0, neither is tracked -/
def FlyN (h0 : Heap) (H : Hp) (h : Heap) (a C T : Addr) : Prop :=
  h0.get? a = none ∧ h0.get? T = none ∧ H a = none ∧ H T = none ∧ T ≠ a ∧
  ∃ oe vs oT ts a0, h.get? a = some oe ∧ oe.cls = .ref C ∧ oe.data = .fields vs ∧ vs[0]? = some a0 ∧ vs[1]? = some (.ref T) ∧ h.get? T = some oT ∧ oT.data = .fields ts ∧ ts[3]? = some .none ∧ vs[2]? = some .none
/-- an exception behind a call -/
def CXe (P : Program) (w : World) : CXT := fun outer H s E e s' =>
  ∃ a C T H', e = .ref a ∧ s'.os = s.os ∧ AllBare s'.gens ∧ Un (frs outer) [] H H' s.heap s'.heap ∧ HOk P w H' s'.heap ∧ FlyN s.heap H' s'.heap a C T ∧ E e (some C) H'

/-- what is tracked stays, where the tracked objects stay -/
theorem hok_stay {P : Program} {w : World} {H : Hp} {h h' : Heap} (x : HOk P w H h) (k : ∀ b o, (H b).isSome = true → h.get? b = some o → h'.get? b = some o) : HOk P w H h' := fun a o e =>
  (x a o e).stay (fun b u hb q => k b u (by rcases hb with rfl | hb <;> simp [*]) q) (fun _ q => q) fun _ _ q => q
theorem hok_there {P : Program} {w : World} {H : Hp} {h : Heap} {a : Addr} (x : HOk P w H h) (e : h.get? a = none) : H a = none := by
  cases q : H a with
  | none => rfl
  | some o =>
    exfalso
    have z := x a o q
    obtain ⟨o', z'⟩ : ∃ o', h.get? a = some o' := by
      cases o with
      | lst xs => obtain ⟨_, _, _, _, e⟩ := z; exact ⟨_, e⟩
      | tup xs => obtain ⟨_, _, _, _, e, _⟩ := z; exact ⟨_, e⟩
      | dK kvs => obtain ⟨_, _, _, _, _, _, _, e, _⟩ := z; exact ⟨_, e⟩
      | dT kvs => obtain ⟨_, _, _, _, _, _, _, e, _⟩ := z; exact ⟨_, e⟩
      | set S n => obtain ⟨_, _, _, _, e, _⟩ := z; exact ⟨_, e⟩
      | ins C dx fs => obtain ⟨_, _, _, e, _⟩ := z; exact ⟨_, e⟩
      | own y => obtain ⟨_, e⟩ := z; exact ⟨_, e⟩
      | xd fs => obtain ⟨_, ⟨_, _, _, e, _⟩, _⟩ := z; exact ⟨_, e⟩
      | rng lo hi => obtain ⟨_, _, _, e⟩ := z; exact ⟨_, e⟩
      | frz ob u => obtain ⟨e, _⟩ := z; exact ⟨_, e⟩
      | tbl ps => exact ⟨_, z⟩
      | met f y => exact ⟨_, z⟩
      | ext φ => obtain ⟨_, ⟨o, e⟩, _⟩ := z; exact ⟨_, e⟩
    rw [e] at z'
    cases z'
section
variable {P : Program} {w : World} {K : PySem.W.Frag} {mg : Str → Option Value} {base : Heap} {N : List Str} {qual : Str} {scope : Scope} {f : Addr} {cd : Value} {A : Around} {outer : List Env} {s₀ : Shared} {H₀ : Hp} {E : XK}
theorem frs_mem {l : List Env} {b : Addr} {env : Env} (he : env ∈ l) (hb : env.frame = some b) : b ∈ frs l := List.mem_filterMap.mpr ⟨env, he, hb⟩
/-- a new exception leaves the def -/
theorem leave_made {pins : List (Addr × Obj)} {σ : St} {H : Hp} {s : Shared} {h' : Heap} {e C : Addr} {vs : List Value} (I : Inv (cxOf (CXe P w) P w K mg base N qual scope f cd A outer s₀ H₀ E) pins σ H s)
    (hm : Heap.MadeExcOf s.heap h' e (.ref C) vs) (hE : E (.ref e) (some C) H) : (cxOf (CXe P w) P w K mg base N qual scope f cd A outer s₀ H₀ E).xe (.ref e) { s with heap := h' } := by
  show wpAny (model P w) (A.deeper (envOfC qual scope s₀.heap.objs.size f cd)) (leaving (envOfC qual scope s₀.heap.objs.size f cd) (.ref e)) _ _ _
  have hst := I.stack
  have hfree := I.stkFree
  have hsub : ∀ b ∈ frs outer, b ∈ frs (envOfC qual scope s₀.heap.objs.size f cd :: outer) := fun b hb => by
    obtain ⟨env, he, hf⟩ := List.mem_filterMap.mp hb
    exact List.mem_filterMap.mpr ⟨env, List.mem_cons_of_mem _ he, hf⟩
  have hown : ∀ b ∈ frs (envOfC qual scope s₀.heap.objs.size f cd :: outer), b = s₀.heap.objs.size ∨ b ∈ frs outer := fun b hb => by
    obtain ⟨env, he, hf⟩ := List.mem_filterMap.mp hb
    rcases List.mem_cons.mp he with rfl | he
    · exact .inl (Option.some.inj hf).symm
    · exact .inr (List.mem_filterMap.mpr ⟨env, he, hf⟩)
  refine leaves_madeV (base := PySem.W.hideAll s.heap (frs (envOfC qual scope s₀.heap.objs.size f cd :: outer))) (h := s.heap) (outer := outer) (L := s₀.heap.objs.size) I.ok.frames rfl (fun b o q => PySem.W.of_hideAll _ q)
    (PySem.W.funFrames_hide hst fun env he b hb => frs_mem he hb) hm fun h₂ ⟨f1, f2, f3, f4⟩ hup => ?_
  have keep : ∀ b o, s.heap.get? b = some o → b ∉ frs (envOfC qual scope s₀.heap.objs.size f cd :: outer) → h₂.get? b = some o := fun b o q n => f1 b o (PySem.W.hideAll_get _ q n)
  have slot : ∀ b o, s.heap.get? b = some o → b ∈ frs (envOfC qual scope s₀.heap.objs.size f cd :: outer) → ∃ sl, h₂.get? b = some { o with slots := sl } := fun b o q n => by
    obtain ⟨_, o', ho', hd⟩ := Heap.FunFrames.mem hst n
    rw [q] at ho'
    cases ho'
    exact hup b o (hm.keeps b o q) hd
  obtain ⟨oe, vs', T, oT, ts, a0, he, hcls, hd, h0, h2, h1, hnT, hTe, hT, hdT, h3⟩ := f4
  have noT : s.heap.get? T = none := by
    cases q : s.heap.get? T with
    | none => rfl
    | some o =>
      exfalso
      by_cases n : T ∈ frs (envOfC qual scope s₀.heap.objs.size f cd :: outer)
      · obtain ⟨_, o', ho', hdn⟩ := Heap.FunFrames.mem hst n
        rw [q] at ho'
        cases ho'
        obtain ⟨sl, z⟩ := slot T o q n
        rw [hT] at z
        cases z
        exact hdn ts hdT
      · rw [PySem.W.hideAll_get _ q n] at hnT
        cases hnT
  have old : ∀ b, s.heap.get? b = none → s₀.heap.get? b = none := fun b q => by
    cases z : s₀.heap.get? b with
    | none => rfl
    | some o =>
      obtain ⟨o', z'⟩ := I.base.there b o z (by exact (fun y => nomatch y))
      rw [q] at z'
      cases z'
  have neL : ∀ b o, s₀.heap.get? b = some o → b ≠ s₀.heap.objs.size := fun b o z => Nat.ne_of_lt (Heap.lt_size z)
  refine ⟨e, C, T, H, rfl, I.os, I.bare, ⟨fun b o q n hb hx => ?_, fun b o q n hb hx => ?_, fun b o q n hx => I.base.free b o q n (fun y => nomatch y), fun b o q hx => ?_, I.base.tups, I.base.frzs, I.base.tbls⟩, ?_,
    ⟨old e hm.new, old T noT, hok_there I.hok hm.new, hok_there I.hok noT, hTe, oe, vs', oT, ts, _, he, hcls, hd, h0, h1, hT, hdT, h3, h2⟩, hE⟩
  · exact keep b o (I.base.keep b o q n hb (fun y => nomatch y)) fun z => (hown b z).elim (neL b o q) hb
  · obtain ⟨sl, q1⟩ := I.base.slot b o q n hb (fun y => nomatch y)
    obtain ⟨sl2, q2⟩ := slot b _ q1 (hsub b hb)
    exact ⟨sl2, q2⟩
  · obtain ⟨o', q1⟩ := I.base.there b o q (fun y => nomatch y)
    by_cases n : b ∈ frs (envOfC qual scope s₀.heap.objs.size f cd :: outer)
    · obtain ⟨sl, q2⟩ := slot b o' q1 n
      exact ⟨_, q2⟩
    · exact ⟨o', keep b o' q1 n⟩
  · refine hok_stay I.hok fun b o hb q => keep b o q fun n => ?_
    rw [hfree b n] at hb
    cases hb
end
section
variable {K : PySem.W.Frag} {mg : Str → Option Value} {base : Heap} {x : Str} {C : Addr} {bmB : List Value} {newId : String}
/-- a class of exceptions of the module's, as the heap has it -/
theorem exc_own (M : Mod K mg base) (hm : mg x = some (.ref C)) (q : PySem.W.excIn K C bmB newId = true) : OwnCls x C bmB newId mg base := by
  refine ⟨hm, ?_⟩
  have X := M.kin
  unfold PySem.W.excIn at q
  split at q
  case h_2 => cases q
  case h_1 dd cd sl ho =>
    split at q
    case h_2 => cases q
    case h_1 C' bm k0 k1 k2 k3 n k5 hmro hs =>
      simp only [Bool.and_eq_true, beq_iff_eq, Bool.not_eq_true'] at q
      obtain ⟨⟨⟨⟨⟨e1, e2⟩, e3⟩, e4⟩, e5⟩, e6⟩ := q
      subst e1 e2
      cases cd with
      | mk nm bs mro ns qn hdc sn sub ab col del =>
        dsimp only at hmro e3 e5 e6
        subst hmro e3
        cases sl with
        | mk l =>
          dsimp only at hs
          subst hs
          exact ⟨bm, ns, nm, qn, bs, hdc, sn, sub, ab, col, dd, k0, k1, k2, k3, k5, _, X _ _ ho, .of_isNs (PySem.W.isNs_of_in X e5), PySem.W.nsMap_none_of_in X e5 e6, PySem.W.tail_of_in X e4⟩
end
/-- an exception of one's own class, made by raise, reaches what this body wants of exceptions -/
def Raises (X : Cx) (E : XK) : Prop := ∀ (pins : List (Addr × Obj)) (σ : St) (H : Hp) (s : Shared) (h' : Heap) (e C : Addr) (vs : List Value), Inv X pins σ H s → Heap.MadeExcOf s.heap h' e (.ref C) vs → E (.ref e) (some C) H → X.xe (.ref e) { s with heap := h' }
section
variable {X : Cx} {x : Str} {C : Addr} {e : Expr} {es : List Expr} {t : TA} {E : XK} {B newId initId : String} {bmB : List Value} {np cpos pos : Pos}
/-- raise C(e, ..) -/
def tRaise (C : Addr) (E : XK) (t : TA) : L2.TS := fun _ σ H => t σ H fun vs H1 => vs.length ≤ 1000 ∧ ∀ a, E (.ref a) (some C) H1
theorem ps_raise (hr : Raises X E) (hh : X.calm = true) (hg : Gl X x) (hm : X.mg x = some (.ref C)) (q : PySem.W.excIn X.K C bmB newId = true) (FB : ExcBaseFacts B newId initId bmB) (ha : PA X (e :: es) t)
    (hdb : (x == ("__debug__" : Str)) = false := by decide) (he : starEach (e :: es) X.env = (false, eval e X.env) :: starEach es X.env := by rfl) (hpl : (backTo cpos (starEach es X.env)).any (·.1) = false := by rfl) :
    PS X (.Raise (some (.Call (.Name x np) (e :: es) [] cpos)) none pos) (tRaise C E t) := by
  intro pins s σ H D I h
  have OC : OwnCls x C bmB newId X.mg X.base := exc_own I.ok.mod hm q
  obtain ⟨tl, N, nm, qn, bs, hdct, sn, sub, ab, col, dd, k0, k1, k2, k3, k5, mN, hC, hN, hni, T⟩ := OC.obj
  refine wpAny_Raise_call_subT (C := C) (nm := nm) (q := qn) (N := N) (bs := bs) (bm := tl) (hdct := hdct) (sn := sn) (sub := sub) (ab := ab) (col := col) (dd := dd) (k0 := k0) (k1 := k1) (k2 := k2) (k3 := k3) (k5 := k5)
    FB (mN := mN) (T.hasType FB.hasBase) (I.ok.hd hh) (by rw [he]; show (false || (backTo cpos (starEach es X.env)).any (·.1)) = false; rw [hpl]; rfl) hni (ld_glob I hg hm ⟨rfl, ?_⟩ hdb)
  have h2 := ha cpos pins s σ H _ I h
  rw [he] at h2 ⊢
  refine Calls.evalArgs_plain (wpAny_mono h2 (fun us s2 h3 => ?_) fun _ _ y => y)
  obtain ⟨vs, H1, I1, r, hl, hE⟩ := h3
  refine ⟨rfl, by rw [← r.length, sizeLine_eq]; omega, I1.bk _ _ hC, hN.keeps I1.bk, T.keeps I1.bk, fun h' a hma => hr pins σ H1 s2 h' a C us I1 hma (hE a)⟩
end
end L3

set_option Elab.async false
set_option linter.all false
set_option maxRecDepth 100000
set_option maxHeartbeats 4000000
namespace L3
open PySem PySem.Spec PyProof.Rows L2
/-! ### try, except -/
/-- what is wanted of an exception that a suite lets out: the names and the heap behind it -/
abbrev XS := Value → Option Addr → L2.St → Hp → Prop
def XP (X : Cx) (pins : List (Addr × Obj)) (E : XS) (e : Value) (s' : Shared) : Prop := ∃ σ H s, L2.Inv X pins σ H s ∧ CXe X.prog X.w X.stack H s (fun e c H' => E e c σ H') e s'
/-- an expression that may let an exception out -/
def PEx (X : Cx) (ex : Expr) (t : L2.St → Hp → VK → XK → Prop) : Prop :=
  ∀ (pins : List (Addr × Obj)) (s : Shared) (σ : L2.St) (H : Hp) (Q : VK) (E : XK), L2.Inv X pins σ H s → t σ H Q E → wpAny (model X.prog X.w) X.A (eval ex X.env) (EP X pins σ Q) (XP X pins fun e c σ' H' => σ' = σ ∧ E e c H') s
/-- a suite that may let an exception out -/
def PSx (X : Cx) (b : List Stmt) (t : L2.Ends → XS → L2.St → Hp → Prop) : Prop :=
  ∀ (pins : List (Addr × Obj)) (s : Shared) (σ : L2.St) (H : Hp) (D : L2.Ends) (E : XS), L2.Inv X pins σ H s → t D E σ H → wpAny (model X.prog X.w) X.A (execs b X.env) (SP X pins D) (XP X pins E) s
section
variable {X : Cx} {k : Nat} {f C : Addr} {fd : FuncData} {ps : List Str} {sp : Sp} {x : Str} {p pos : Pos} {e : Expr} {es : List Expr} {t : TA}
theorem xp_mono {pins : List (Addr × Obj)} {E E' : XS} (h : ∀ e c σ H, E e c σ H → E' e c σ H) {v : Value} {s' : Shared} (x : XP X pins E v s') : XP X pins E' v s' := by
  obtain ⟨σ, H, s, I, a, C, T, H', e1, e2, e3, e4, e5, e6, e7⟩ := x
  exact ⟨σ, H, s, I, a, C, T, H', e1, e2, e3, e4, e5, e6, h _ _ _ _ e7⟩
end
section
variable {X : Cx} {pins : List (Addr × Obj)} {σ : L2.St} {H : Hp} {s : Shared}
/-- within an except suite -/
abbrev _root_.L2.Cx.caught (X : Cx) (a : Addr) : Cx := { X with A := X.A.mark (some (.ref a)), calm := false, xe := fun _ _ => False }
theorem inv_caught (I : L2.Inv X pins σ H s) (a : Addr) : L2.Inv (X.caught a) pins σ H s :=
  ⟨⟨I.ok.mod, I.ok.kind, I.ok.glob, I.ok.blt, I.ok.above, I.ok.inj, I.ok.has, I.ok.cab, fun z => (nomatch z), I.ok.frames, I.ok.stk, I.ok.exf, I.ok.bs, I.ok.bsz, I.ok.noex, I.ok.exfs, I.ok.funs, I.ok.frf⟩, I.os, I.bare, I.base, I.loc, I.cell, I.free, I.freeC, I.pin, I.hok, I.len⟩
/-- the name of an except clause goes behind its suite -/
theorem unbind_ok {M : Model} {A : Around} {E : Value → Shared → Prop} {i : Nat} {n : Str} {pos : Pos} {Q : Unit → Shared → Prop} (I : L2.Inv X pins σ H s) (hN : X.N.Nodup) (hi : X.N[i]? = some n) (hl : X.env.scope.names.lookup n = some .local)
    (h : ∀ s', L2.Inv X pins (σ.set i none) H s' → Q () s') : wpAny M A (do bindName X.env n .none; unbindBehindTheSuite X.env n pos) Q E s := by
  obtain ⟨m, hn, hlk⟩ := id I.loc
  have hcls : (X.env.scope.kind == .class || (X.env.scope.kind == .module && X.env.locals != X.env.globals)) = false := by rw [I.ok.kind]; rfl
  refine wpAny_nameGoes_keeps hl hn hcls fun h' v hn' hs => ?_
  have hnone : H X.env.locals = none := I.free
  have up : ∀ b o, X.s₀.heap.get? b = some o → h'.get? b = s.heap.get? b := fun b o e => hs.2 b (Nat.ne_of_lt (Nat.lt_of_lt_of_le (Heap.lt_size e) I.ok.above))
  refine h _ ⟨I.ok, I.os, I.bare, ⟨fun b o e z hb hx => ?_, fun b o e z hb hx => ?_, I.base.free, fun b o e hx => ?_, I.base.tups, I.base.frzs, I.base.tbls⟩, ⟨_, hn', fun j y v' e1 e2 e3 => ?_⟩, fun y c e => ?_, I.free, I.freeC, fun p hp => ?_, ?_, ?_⟩
  · exact (up b o e).trans (I.base.keep b o e z hb hx)
  · obtain ⟨sl, e1⟩ := I.base.slot b o e z hb hx
    exact ⟨sl, (up b o e).trans e1⟩
  · obtain ⟨o', e1⟩ := I.base.there b o e hx
    exact ⟨o', (up b o e).trans e1⟩
  · by_cases hj : j = i
    · subst hj
      rw [List.getElem?_set] at e2
      split at e2
      · split at e2 <;> cases e2
      · exact absurd rfl ‹_›
    · rw [List.getElem?_set_ne (Ne.symm hj)] at e2
      obtain ⟨u', r', q⟩ := hlk j y v' e1 e2 e3
      refine ⟨u', r', ?_⟩
      rcases q with ⟨k, e⟩ | ⟨k, c, e, z⟩
      · refine .inl ⟨k, ?_⟩
        have : y ≠ n := fun e => hj (nodup_ix hN e1 (e ▸ hi))
        simp [this, e]
      · exact .inr ⟨k, c, e, z.sameBut hs (I.cne y c e)⟩
  · obtain ⟨w', z⟩ := I.cell y c e
    exact ⟨w', z.sameBut hs (I.cne y c e)⟩
  · obtain ⟨e, z, ne, nf, d⟩ := I.pin p hp
    exact ⟨(hs.2 p.1 ne).trans e, z, ne, nf, d⟩
  · refine hok_stay I.hok fun b o hb q => (hs.2 b fun z => ?_).trans q
    rw [z, hnone] at hb
    cases hb
  · rw [List.length_set]
    exact I.len
end
end L3

set_option Elab.async false
set_option linter.all false
set_option maxRecDepth 100000
set_option maxHeartbeats 4000000
namespace L3
open PySem PySem.Spec PyProof.Rows L2
/-- a caught exception of the class at C -/
def XcAt (a C : Addr) (h : Heap) : Prop := ∃ o vs, h.get? a = some o ∧ o.cls = .ref C ∧ o.data = .fields vs ∧ vs[2]? = some .none
def XcO (a C : Addr) : HO := .ext (XcAt a C)
theorem xc_ok {P : Program} {w : World} {H : Hp} {h : Heap} {a C : Addr} (x : XcAt a C h) : ObjOk P w H h a (XcO a C) := by
  obtain ⟨o, vs, e, c, d, z⟩ := x
  exact ⟨⟨o, vs, e, c, d, z⟩, ⟨o, e⟩, fun h1 h2 ⟨o', vs', e', c', d'⟩ k => ⟨o', vs', k _ e', c', d'⟩⟩
section
variable {X : Cx} {pins : List (Addr × Obj)} {σ : L2.St} {H H' : Hp} {s s' : Shared} {a C T : Addr}
/-- the state behind an exception, however often it was looked at since -/
theorem landed_un {h₅ : Heap} (I : L2.Inv X pins σ H s) (hos : s'.os = s.os) (hba : AllBare s'.gens) (hun : Un (frs X.stack) [] H H' s.heap s'.heap) (hok : HOk X.prog X.w H' s'.heap) (fly : FlyN s.heap H' s'.heap a C T)
    (fl : FlV (PySem.W.hideAll s'.heap (a :: T :: frs X.stack)) X.stack a (.ref C) .none h₅) (up : s'.heap.UpToSlots h₅) :
    Un (frs X.stack) [] H H' s.heap h₅ ∧ HOk X.prog X.w H' h₅ := by
  have I' : L2.Inv X pins σ H' s' := I.call' hos hun hok hba (fun b z => nomatch z)
  obtain ⟨f1, f2, f3, f4⟩ := fl
  obtain ⟨n1, n2, n3, n4, _, _⟩ := fly
  have keep : ∀ b o, s'.heap.get? b = some o → b ≠ a → b ≠ T → b ∉ frs X.stack → h₅.get? b = some o := fun b o q z1 z2 z3 => f1 b o (PySem.W.hideAll_get _ q fun z => by
    rcases List.mem_cons.mp z with z | z
    · exact z1 z
    · rcases List.mem_cons.mp z with z | z
      · exact z2 z
      · exact z3 z)
  have slot : ∀ b o, s'.heap.get? b = some o → b ∈ frs X.stack → ∃ sl, h₅.get? b = some { o with slots := sl } := fun b o q n => by
    obtain ⟨_, o', ho', hd⟩ := Heap.FunFrames.mem I'.stack n
    rw [q] at ho'
    cases ho'
    exact up b o q hd
  have na : ∀ b o, s.heap.get? b = some o → b ≠ a := fun b o q z => by rw [z, n1] at q; cases q
  have nT : ∀ b o, s.heap.get? b = some o → b ≠ T := fun b o q z => by rw [z, n2] at q; cases q
  refine ⟨⟨fun b o q n hb hx => ?_, fun b o q n hb hx => ?_, fun b o q n hx => hun.free b o q n hx, fun b o q hx => ?_, hun.tups, hun.frzs, hun.tbls⟩, ?_⟩
  · exact keep b o (hun.keep b o q n hb hx) (na b o q) (nT b o q) hb
  · obtain ⟨sl, q1⟩ := hun.slot b o q n hb hx
    obtain ⟨sl2, q2⟩ := slot b _ q1 hb
    exact ⟨sl2, q2⟩
  · obtain ⟨o', q1⟩ := hun.there b o q hx
    by_cases n : b ∈ frs X.stack
    · obtain ⟨sl, q2⟩ := slot b o' q1 n
      exact ⟨_, q2⟩
    · exact ⟨o', keep b o' q1 (na b o q) (nT b o q) n⟩
  · refine hok_stay hok fun b o hb q => keep b o q (fun z => ?_) (fun z => ?_) fun z => ?_
    · rw [z, n3] at hb; cases hb
    · rw [z, n4] at hb; cases hb
    · rw [I'.stkFree b z] at hb; cases hb
/-- .. and with the exception tracked -/
theorem landed_inv {h₅ : Heap} {tk : Nat} (I : L2.Inv X pins σ H s) (hos : s'.os = s.os) (hba : AllBare s'.gens) (hun : Un (frs X.stack) [] H H' s.heap s'.heap) (hok : HOk X.prog X.w H' s'.heap) (fly : FlyN s.heap H' s'.heap a C T)
    (fl : FlV (PySem.W.hideAll s'.heap (a :: T :: frs X.stack)) X.stack a (.ref C) .none h₅) (up : s'.heap.UpToSlots h₅) : L2.Inv X pins σ (upd H' a (XcO a C)) { s' with heap := h₅ } := by
  obtain ⟨u, hk⟩ := landed_un I hos hba hun hok fly fl up
  obtain ⟨n1, n2, n3, n4, _, _⟩ := fly
  obtain ⟨_, _, _, oe, vs, _, _, _, _, he, hc, hd, _, h2, _⟩ := id fl
  have ne : ∀ b u, H' b = some u → b ≠ a := fun b u q z => by rw [z, n3] at q; cases q
  have hk2 : HOk X.prog X.w (upd H' a (XcO a C)) h₅ := fun b o q => by
    by_cases hb : b = a
    · subst hb
      rw [upd_same] at q
      cases q
      exact xc_ok ⟨oe, vs, he, hc, hd, h2⟩
    · rw [upd_ne hb] at q
      exact (hk b o q).stay (fun c u _ z => z) (fun c z => by rw [upd_ne (ne c _ z)]; exact z) fun c xs z => by rw [upd_ne (ne c _ z)]; exact z
  refine I.call' (s' := { s' with heap := h₅ }) hos ⟨u.keep, u.slot, fun b o q n hx => ?_, u.there, fun b xs q => ?_, fun b o w q => ?_, fun b ps q => ?_⟩ hk2 hba (fun b z => nomatch z)
  · have : b ≠ a := fun z => by rw [z, n1] at q; cases q
    rw [upd_ne this]
    exact u.free b o q n hx
  · have z := u.tups b xs q
    rw [upd_ne (ne b _ z)]
    exact z
  · have z := u.frzs b o w q
    rw [upd_ne (ne b _ z)]
    exact z
  · obtain ⟨more, z⟩ := u.tbls b ps q
    exact ⟨more, by rw [upd_ne (ne b _ z)]; exact z⟩
end
section
variable {X : Cx} {i : Nat} {n cn : Str} {D : Addr} {b₀ : Stmt} {body suite : List Stmt} {np hpos pos : Pos}
/-- try: .. except D as n: .. , where each exception is one of D -/
def tTry (K : PySem.W.Frag) (D : Addr) (i : Nat) (tb : L2.Ends → XS → L2.St → Hp → Prop) (th : Addr → L2.TS) : L2.TS := fun Ds σ H =>
  tb Ds (fun e c σ1 H1 => ∃ a C, e = .ref a ∧ c = some C ∧ PySem.W.exmOne K (.ref C) (.ref D) = some true ∧ (H1 a = none →
    th a { nx := fun σ2 H2 => Ds.nx (σ2.set i none) H2, rt := Ds.rt, bk := fun σ2 H2 => Ds.bk (σ2.set i none) H2, ct := fun σ2 H2 => Ds.ct (σ2.set i none) H2 } (σ1.set i (some (.ref a))) (upd H1 a (XcO a C)))) σ H
theorem ps_try {tb : L2.Ends → XS → L2.St → Hp → Prop} {th : Addr → L2.TS} (hst : X.stack = X.env :: X.outer) (hfr : X.env.frame = some X.env.locals) (hN : X.N.Nodup) (hi : X.N[i]? = some n) (hl : X.env.scope.names.lookup n = some .local)
    (hg : Gl X cn) (hm : X.mg cn = some (.ref D)) (hb : PSx X body tb) (hs : ∀ a, PSs (X.caught a) (b₀ :: suite) (th a)) (hdb : (cn == ("__debug__" : Str)) = false := by decide) :
    PS X (.Try body [.ExceptHandler (some (.Name cn np)) (some n) (b₀ :: suite) hpos] [] [] pos) (tTry X.K D i tb th) := by
  intro pins s σ H Ds I h
  refine wpAny_Try_except (wpAny_mono (hb pins s σ H Ds _ I h) (fun f s1 h1 => ?_) fun v s1 h1 => ?_)
  · cases f with
    | next => exact wpAny_execs_nil h1
    | ret u => exact h1
    | brk => exact h1
    | cont => exact h1
  · obtain ⟨σ1, H0, s0, I0, a, C, T, H', rfl, hos, hba, hun, hok, fly, a', C', ea, ec, hx, hE⟩ := h1
    cases ea
    cases ec
    have I' : L2.Inv X pins σ1 H' s1 := I0.call' hos hun hok hba (fun b z => nomatch z)
    obtain ⟨n1, n2, n3, n4, nTa, oe, vs, oT, ts, a0, he, hc, hd, h0, hT1, hT, hdT, h3, h2⟩ := id fly
    have fl1 : FlV (PySem.W.hideAll s1.heap (a :: T :: frs X.stack)) X.stack a (.ref C) .none s1.heap :=
      ⟨fun b o q => PySem.W.of_hideAll _ q, PySem.W.hideAll_none _ (.head _), PySem.W.funFrames_hide I'.stack fun env hev b hbv => .tail _ (.tail _ (frs_mem hev hbv)),
        oe, vs, T, oT, ts, a0, he, hc, hd, h0, h2, hT1, PySem.W.hideAll_none _ (.tail _ (.head _)), nTa, hT, hdT, h3⟩
    rw [hst] at fl1
    refine note_onV (L := X.env.locals) (by rw [I.ok.frames, hst]) hfr fl1 fun h₄ hl₄ up₄ => ?_
    refine landV (s := { s1 with heap := h₄ }) hl₄ fun h₅ fl₅ up₅ => ?_
    have up5 := up₄.trans up₅
    rw [← hst] at fl₅
    have J5 : L2.Inv (X.caught a) pins σ1 (upd H' a (XcO a C)) { s1 with heap := h₅ } := inv_caught (landed_inv (tk := 0) I0 hos hba hun hok fly fl₅ up5) a
    refine wpAny_handleBy_cons (codeAny_handlers_test (ld_glob (X := X.caught a) J5 hg hm ?_ hdb)) (by intro q; cases q)
    obtain ⟨_, _, _, ob, _, _, _, _, _, hob, hobc, _⟩ := id fl₅
    have LT : PySem.W.Looks (model X.prog X.w) h₅ (typeOf (.ref a)) (.ref C) := hobc ▸ (PySem.W.Looks.ld hob).andThen .now
    refine (PySem.W.exm_one (K := X.K) J5.kIn LT hx).here ?_
    refine codeAny_handlers_suite_as ?_
    rw [hst] at fl₅
    refine landV (s := { s1 with heap := h₅ }) fl₅ fun h₆ fl₆ up₆ => ?_
    rw [← hst] at fl₆
    have J6 : L2.Inv (X.caught a) pins σ1 (upd H' a (XcO a C)) { s1 with heap := h₆ } := inv_caught (landed_inv (tk := 0) I0 hos hba hun hok fly fl₆ (up5.trans up₆)) a
    refine store_ok (X := X.caught a) J6 hN hi (.inl hl) (show RelV (.ref a) (.ref a) from rfl) (fun s7 J7 => ?_) (.inr hl)
    refine wpAny_mono (hs a pins s7 _ _ _ J7 (hE n3)) (fun f s8 h8 => ?_) fun _ _ z => False.elim z
    have back : ∀ {σ2 : L2.St} {H2 : Hp}, L2.Inv (X.caught a) pins σ2 H2 s8 → L2.Inv X pins σ2 H2 s8 := fun J =>
      ⟨I.ok, J.os, J.bare, J.base, J.loc, J.cell, J.free, J.freeC, J.pin, J.hok, J.len⟩
    cases f with
    | next =>
      obtain ⟨σ2, H2, J, q⟩ := h8
      exact unbind_ok (back J) hN hi hl fun s9 J9 => ⟨_, _, J9, q⟩
    | brk =>
      obtain ⟨σ2, H2, J, q⟩ := h8
      exact unbind_ok (back J) hN hi hl fun s9 J9 => ⟨_, _, J9, q⟩
    | cont =>
      obtain ⟨σ2, H2, J, q⟩ := h8
      exact unbind_ok (back J) hN hi hl fun s9 J9 => ⟨_, _, J9, q⟩
    | ret u =>
      obtain ⟨v, σ2, H2, J, rv, q⟩ := h8
      exact unbind_ok (back J) hN hi hl fun s9 J9 => ⟨v, _, _, J9, rv, q⟩
end
end L3

set_option Elab.async false
set_option linter.all false
set_option maxRecDepth 100000
set_option maxHeartbeats 4000000
namespace L3
open PySem PySem.Spec PySem.Calls PyProof.Rows PySem.W L2 Builtin Builtin.ObjectAttr Builtin.Getset_descriptor
/-! ### isinstance of a caught exception -/
section
variable {prog : Program} {w : PySem.World} {A : Around} {E : Value → Shared → Prop} {h : Heap} {g : Array GenState} {d : Drawn} {t : Nat} {os : OsState} {K : Frag} {a C : Addr}
theorem exc_class_get {tp : Value} {R : Result → Shared → Prop} (X : K.In h) (LT : Looks (model prog w) h (typeOf (.ref a)) (.ref C)) (hm : mroIn K C (.type "object") = some true)
    (hq : R (.ok (.ret (.ref C))) ⟨h, g, d, t, os⟩) : codeAny (model prog w) A (.call (.builtin "getset_descriptor.__get__") ⟨[.builtin "object.__class__", .ref a, tp], []⟩) R ⟨h, g, d, t, os⟩ := by
  have L1 := looks_mroIn (M := model prog w) X hm
  refine codeAny_call_builtin KF.slot_gs.plain KF.entry_gs (KF.slot_gs.check _ _ _ _ _ _ _ _ KF.type_class (KF.args_gs _ _ _) ?_)
  unfold Builtin.«getset_descriptor.__get__» descrGet
  rw [dga_obj]
  refine wpAny_bind (wpAny_pure ?_)
  unfold descrGetter descrCheckInstance descrNameAndClass isInstance
  simp only [KF.owner_class]
  repeat lk
  refine ⟨Code.quiet_builtin _ (by decide +kernel), codeAny_builtin KF.entry_class ?_⟩
  unfold Builtin.«object.__class__» shownTypeOf
  repeat lk
  exact hq
theorem exc_class_find (X : K.In h) (ha : findIn K (.ref C) "__class__" = some (some (.builtin "object.__class__"))) (hn : specialIn K (.builtin "object.__class__") "__get__" = some (some (.builtin "getset_descriptor.__get__")))
    (htk : takesIn K (.builtin "object.__class__") = some true) : Looks (model prog w) h (find (.ref a) (.ref C) "__class__") (.bind (.builtin "getset_descriptor.__get__") (.builtin "object.__class__")) := by
  have L1 := looks_findIn (M := model prog w) X ha
  have L2 : Looks (model prog w) h (getOf (some (.builtin "object.__class__"))) (some (.builtin "getset_descriptor.__get__")) := looks_specialIn X hn
  have L3 := looks_takesIn (M := model prog w) X htk
  refine L1.andThen (L2.andThen ?_)
  exact (show Looks (model prog w) h (dataDescriptor? (some (.builtin "object.__class__")) (some (.builtin "getset_descriptor.__get__"))) (some (.builtin "getset_descriptor.__get__", .builtin "object.__class__")) from L3.andThen .now).andThen (Looks.tag .now)
theorem exc_class_entry {tk : Tok} {Q : Fin → Shared → Prop} (X : K.In h) (LT : Looks (model prog w) h (typeOf (.ref a)) (.ref C)) (hm : mroIn K C (.type "object") = some true)
    (ha : findIn K (.ref C) "__class__" = some (some (.builtin "object.__class__"))) (hn : specialIn K (.builtin "object.__class__") "__get__" = some (some (.builtin "getset_descriptor.__get__"))) (htk : takesIn K (.builtin "object.__class__") = some true)
    (hq : Q (.done (.ret (.ref C))) ⟨h, g, d, t, os⟩) : wpAny (model prog w) A (Builtin.«object.__getattribute__» ⟨[.ref a, .str "__class__" tk], []⟩) Q E ⟨h, g, d, t, os⟩ := by
  have LF := exc_class_find (prog := prog) (w := w) (a := a) X ha hn htk
  refine wpAny_bind (wpAny_pure (wpAny_bind (wpAny_pure (wpAny_bind (LT.at (wpAny_bind (LF.at ?_)))))))
  show wpAny _ _ (holding [_] (call (.builtin "getset_descriptor.__get__") [.builtin "object.__class__", .ref a, .ref C]) >>= ret) _ _ _
  exact wpAny_bind (wpAny_holding (wpAny_call (exc_class_get X LT hm (wpAny_pure hq))))
theorem exc_class_call {tk : Tok} {R : Result → Shared → Prop} (X : K.In h) (LT : Looks (model prog w) h (typeOf (.ref a)) (.ref C)) (hm : mroIn K C (.type "object") = some true) (hbe : mroIn K C (.type "BaseException") = some true)
    (ha : findIn K (.ref C) "__class__" = some (some (.builtin "object.__class__"))) (hn : specialIn K (.builtin "object.__class__") "__get__" = some (some (.builtin "getset_descriptor.__get__"))) (htk : takesIn K (.builtin "object.__class__") = some true)
    (hq : R (.ok (.ret (.ref C))) ⟨h, g, d, t, os⟩) : codeAny (model prog w) A (.call (.builtin "BaseException.__getattribute__") ⟨[.ref a, .str "__class__" tk], []⟩) R ⟨h, g, d, t, os⟩ := by
  have hk : builtinKind "BaseException.__getattribute__" = some .slot := by decide +kernel
  have hsplit : splitId "BaseException.__getattribute__" = some ("BaseException", "__getattribute__") := by decide +kernel
  have LB : Looks (model prog w) h (isInstance (.ref a) (.type "BaseException")) true := LT.andThen (looks_mroIn (M := model prog w) X hbe)
  have hargs := F.args_bexc_ga (.ref a) (.str "__class__" tk)
  refine codeAny_call_builtin F.excAttr_ValueError.ga.plain F.entry_bexc_ga ?_
  simp only [checkBuiltinCall, hk, hsplit]
  refine wpAny_bind (LB.at ?_)
  refine wpAny_of_eq (a := ()) (by first | exact hargs | simpa using hargs) ?_
  exact exc_class_entry X LT hm ha hn htk hq
theorem exc_class_attr {Q : Option Value → Shared → Prop} (X : K.In h) (LT : Looks (model prog w) h (typeOf (.ref a)) (.ref C)) (hga : findIn K (.ref C) "__getattribute__" = some (some (.builtin "BaseException.__getattribute__")))
    (hgh : findIn K (.ref C) "__getattr__" = some none) (hm : mroIn K C (.type "object") = some true) (hbe : mroIn K C (.type "BaseException") = some true)
    (ha : findIn K (.ref C) "__class__" = some (some (.builtin "object.__class__"))) (hn : specialIn K (.builtin "object.__class__") "__get__" = some (some (.builtin "getset_descriptor.__get__"))) (htk : takesIn K (.builtin "object.__class__") = some true)
    (hq : Q (some (.ref C)) ⟨h, g, d, t + 1, os⟩) : wpAny (model prog w) A (getAttr? (.ref a) "__class__") Q E ⟨h, g, d, t, os⟩ := by
  have L1 := looks_findIn (M := model prog w) X hga
  have L2 := looks_findIn (M := model prog w) X hgh
  have hbs := F.excAttr_ValueError.ga.bind (.ref a)
  have hx2 : (Value.builtin "BaseException.__getattribute__" == Value.builtin "object.__getattribute__") = false := by decide +kernel
  unfold getAttr? getAttrBy? getAttrBy
  refine wpAny_bind (wpAny_mkText (wpAny_bind (wpAny_attempt (wpAny_holding (wpAny_bind (LT.at (wpAny_bind (L1.at ?_))))))))
  dsimp only
  rw [hx2, Bool.and_false, if_neg Bool.false_ne_true]
  unfold getAttrByItsOwn hookBefore
  rw [if_pos (show onTheHeap (.ref C) = true from rfl)]
  refine wpAny_bind (L2.at (wpAny_bind (wpAny_attempt (wpAny_holding ?_))))
  unfold callGetattribute boundAndCalled
  rw [Bool.false_and, if_neg Bool.false_ne_true, hbs]
  refine wpAny_bind (wpAny_pure ?_)
  refine wpAny_call (exc_class_call X LT hm hbe ha hn htk ?_)
  exact wpAny_pure (wpAny_pure hq)
/-- what is needed of a class of exceptions -/
structure ExcK (K : Frag) (C : Addr) : Prop where
  ga : findIn K (.ref C) "__getattribute__" = some (some (.builtin "BaseException.__getattribute__"))
  gh : findIn K (.ref C) "__getattr__" = some none
  ob : mroIn K C (.type "object") = some true
  be : mroIn K C (.type "BaseException") = some true
  cl : findIn K (.ref C) "__class__" = some (some (.builtin "object.__class__"))
  gt : specialIn K (.builtin "object.__class__") "__get__" = some (some (.builtin "getset_descriptor.__get__"))
  tk : takesIn K (.builtin "object.__class__") = some true
  hd : hasDictIn K C = true
theorem xc_type {M : Model} (x : XcAt a C h) : Looks M h (typeOf (.ref a)) (.ref C) := by
  obtain ⟨o, vs, e, c, dd⟩ := x
  exact c ▸ (Looks.ld e).andThen .now
theorem kitx_exc (B : ExcK K C) : KitX K (.ref a) (.ref C) (XcAt a C) where
  ty := fun _ _ _ x => xc_type x
  it := fun _ _ X _ => by
    obtain ⟨cdD, hcD, _⟩ := any_some B.hd
    unfold clsIn at hcD
    split at hcD
    · rename_i c' d' cd' sl' ho
      intro A' Q' E' s' k q
      unfold isType loadHead
      exact wpAny_bind (wpAny_loadPart (k _ _ (X _ _ ho)) (wpAny_pure q))
    · cases hcD
  ne := fun h tp dd its n sl X htp => by
    obtain ⟨cdD, hcD, _⟩ := any_some B.hd
    refine Bool.eq_false_iff.mpr fun q => ?_
    have e : C = tp := Value.ref.inj (beq_iff_eq.mp q)
    subst e
    unfold clsIn at hcD
    split at hcD
    · rename_i c' d' cd' sl' ho
      have z := (X _ _ ho).symm.trans htp
      cases z
    · cases hcD
  ca := fun {prog w A E Q s} X x k => by
    obtain ⟨hh, g, d, t, os⟩ := s
    exact exc_class_attr X (xc_type x) B.ga B.gh B.ob B.be B.cl B.gt B.tk k
end
section
variable {X : Cx}
/-- isinstance(e, c), e a caught exception, c a class -/
inductive rIsX_R (K : Frag) (c : V) (xs : List V) (H : Hp) (Q : VK) : Prop
  | mk (p : _) (C : _) (u : _) (b : _) (h0 : xs = [.ref p, c]) (h1 : H p = some (XcO p C)) (h2 : ExcK K C) (h3 : RelV c u) (h4 : kitOne K (.ref C) u = some b) (h5 : Q (.bl b) H) : rIsX_R K c xs H Q
def rIsX (K : Frag) (c : V) : List V → Hp → VK → Prop := fun xs H Q => rIsX_R K c xs H Q
theorem relV_cls {c : V} {u v : Value} (h : RelV c u) (h2 : RelV c v) (hc : (∃ C, c = .ref C) ∨ ∃ n, c = .ty n) : u = v := by
  rcases hc with ⟨C, rfl⟩ | ⟨n, rfl⟩
  · exact (show u = Value.ref C from h).trans (show v = Value.ref C from h2).symm
  · exact (show u = Value.type n from h).trans (show v = Value.type n from h2).symm
theorem call_isX {K : Frag} (hK : X.K = K) {c : V} (hc : (∃ C, c = .ref C) ∨ ∃ n, c = .ty n) : CallR X (.builtin "isinstance") (rIsX K c) := by
  subst hK
  intro pins s σ H xs us Q I r h
  obtain ⟨p, C, u', b, rfl, hp, B, rc, hk, q⟩ := h
  obtain ⟨u, v, rfl, ru, rv⟩ := vals2 r
  cases (show u = Value.ref p from ru)
  obtain rfl := relV_cls rc rv hc
  have x : XcAt p C s.heap := (I.hok p _ hp).1
  exact kia_one (kitx_exc (a := p) B) I.kIn x hk (fun z => nomatch z) fun tk => ⟨.bl b, H, I.tok _, rfl, q⟩
theorem refs_same : ∀ {cs : List V} {us ws : List Value}, (∀ c ∈ cs, ∃ C, c = V.ref C) → Vals cs us → Vals cs ws → us = ws
  | [], _, _, _, .nil, .nil => rfl
  | c :: r, _, _, h, .cons a b, .cons a' b' => by
    obtain ⟨C, rfl⟩ := h c (.head _)
    have e1 := (show _ = Value.ref C from a).trans (show _ = Value.ref C from a').symm
    rw [e1, refs_same (fun c hc => h c (.tail _ hc)) b b']
/-- isinstance(e, (c, ..)), e a caught exception -/
inductive rIsXT_R (K : Frag) (cs : List V) (us : List Value) (xs : List V) (H : Hp) (Q : VK) : Prop
  | mk (p : _) (C : _) (t : _) (b : _) (h0 : xs = [.ref p, .ref t]) (h1 : H p = some (XcO p C)) (h2 : ExcK K C) (h3 : H t = some (.tup cs)) (h4 : kitAny K (.ref C) us = some b) (h5 : Q (.bl b) H) : rIsXT_R K cs us xs H Q
def rIsXT (K : Frag) (cs : List V) (us : List Value) : List V → Hp → VK → Prop := fun xs H Q => rIsXT_R K cs us xs H Q
theorem call_isXT {K : Frag} (hK : X.K = K) {cs : List V} {ws : List Value} (hc : ∀ c ∈ cs, ∃ C, c = V.ref C) (rw' : Vals cs ws) : CallR X (.builtin "isinstance") (rIsXT K cs ws) := by
  subst hK
  intro pins s σ H xs us Q I r h
  obtain ⟨p, C, t, b, rfl, hp, B, ht, hk, q⟩ := h
  obtain ⟨u, v, rfl, ru, rv⟩ := vals2 r
  cases (show u = Value.ref p from ru)
  cases (show v = Value.ref t from rv)
  have x : XcAt p C s.heap := (I.hok p _ hp).1
  obtain ⟨_, its, rt, ⟨oc, od, oda, osl⟩, e1, e2, n, e3⟩ := (show ObjOk X.prog X.w H s.heap t (.tup cs) from I.hok t _ ht)
  dsimp only at e2 e3
  subst e2 e3
  obtain rfl := refs_same hc rw' rt
  exact kia_tup (kitx_exc (a := p) B) I.kIn x e1 hk (fun z => nomatch z) fun tk => ⟨.bl b, H, I.tok _, rfl, q⟩
end
end L3

set_option Elab.async false
set_option linter.all false
set_option maxRecDepth 100000
set_option maxHeartbeats 4000000
namespace L3
open PySem PySem.Spec PyProof.Rows L2
/-! ### defs that raise -/
section
variable {P : Program} {w : World} {K : PySem.W.Frag} {mg : Str → Option Value} {base : Heap}
/-- a def that may raise: its body as a term of rules -/
theorem fun_okX {x qual : Str} {st : Stmt} {f : Addr} {fd : FuncData} {N ps : List Str} {k : Nat} {sp : Sp} (F : Fun K x qual st f fd) (S : FnScope N ps (defScope st)) (len : ∀ vs H Q E, sp vs H Q E → vs.length = ps.length)
    (hbody : ∀ (cdv : Value) (A : Around) (outer : List Env) (s : Shared) (H : Hp) (vs : List V) (Q : VK) (E : XK), Room k (A.deeper (envOfC qual (defScope st) s.heap.objs.size f cdv)) → sp vs H Q E →
      ∃ t, PSs (cxOf (CXe P w) P w K mg base N qual (defScope st) f cdv A outer s H E) (defBody st) t ∧ t { nx := fun _ H' => Q .non H', rt := Q } (start N vs) H) : FnOk P w K mg base (CXe P w) (k + 1) f fd ps sp := by
  obtain ⟨oc, od, kV, doc, pm, an, cdv, ct, osl, rfl, lk, hcd⟩ := F.ex
  exact fn_of lk hcd S len fun A outer s H vs Q E hr hsp => hbody cdv A outer s H vs Q E hr hsp
end
section
variable {P : Program} {w : World} {K : PySem.W.Frag} {mg : Str → Option Value} {base : Heap} {N : List Str} {qual : Str} {scope : Scope} {f : Addr} {cd : Value} {A : Around} {outer : List Env} {s₀ : Shared} {H₀ : Hp} {E : XK}
theorem raises_cx : Raises (cxOf (CXe P w) P w K mg base N qual scope f cd A outer s₀ H₀ E) E := fun pins σ H s h' e C vs I hm hE => leave_made I hm hE
/-- an exception of a callee goes on -/
theorem passes_cx : Passes (CXe P w) (cxOf (CXe P w) P w K mg base N qual scope f cd A outer s₀ H₀ E) E := by
  intro pins σ H s e s' I hx
  obtain ⟨a, C, T, H', rfl, hos, hba, hun, hok, fly, hE⟩ := hx
  have I' : L2.Inv (cxOf (CXe P w) P w K mg base N qual scope f cd A outer s₀ H₀ E) pins σ H' s' := I.call' hos hun hok hba (fun b z => nomatch z)
  obtain ⟨n1, n2, n3, n4, nTa, oe, vs, oT, ts, a0, he, hc, hd, h0, hT1, hT, hdT, h3, h2⟩ := id fly
  show wpAny (model P w) (A.deeper (envOfC qual scope s₀.heap.objs.size f cd)) (leaving (envOfC qual scope s₀.heap.objs.size f cd) (.ref a)) _ _ _
  have hst := I'.stack
  have hfree := I'.stkFree
  have hsub : ∀ b ∈ frs outer, b ∈ frs (envOfC qual scope s₀.heap.objs.size f cd :: outer) := fun b hb => by
    obtain ⟨env, he, hf⟩ := List.mem_filterMap.mp hb
    exact List.mem_filterMap.mpr ⟨env, List.mem_cons_of_mem _ he, hf⟩
  have hown : ∀ b ∈ frs (envOfC qual scope s₀.heap.objs.size f cd :: outer), b = s₀.heap.objs.size ∨ b ∈ frs outer := fun b hb => by
    obtain ⟨env, he, hf⟩ := List.mem_filterMap.mp hb
    rcases List.mem_cons.mp he with rfl | he
    · exact .inl (Option.some.inj hf).symm
    · exact .inr (List.mem_filterMap.mpr ⟨env, he, hf⟩)
  have fl1 : FlV (PySem.W.hideAll s'.heap (a :: T :: frs (envOfC qual scope s₀.heap.objs.size f cd :: outer))) (envOfC qual scope s₀.heap.objs.size f cd :: outer) a (.ref C) .none s'.heap :=
    ⟨fun b o q => PySem.W.of_hideAll _ q, PySem.W.hideAll_none _ (.head _), PySem.W.funFrames_hide hst fun env hev b hbv => .tail _ (.tail _ (frs_mem hev hbv)),
      oe, vs, T, oT, ts, a0, he, hc, hd, h0, h2, hT1, PySem.W.hideAll_none _ (.tail _ (.head _)), nTa, hT, hdT, h3⟩
  refine leaves_onV (outer := outer) (L := s₀.heap.objs.size) I.ok.frames rfl fl1 fun h₂ fl₂ up => ?_
  obtain ⟨f1, f2, f3, f4⟩ := fl₂
  have keep : ∀ b o, s'.heap.get? b = some o → b ≠ a → b ≠ T → b ∉ frs (envOfC qual scope s₀.heap.objs.size f cd :: outer) → h₂.get? b = some o := fun b o q z1 z2 z3 => f1 b o (PySem.W.hideAll_get _ q fun z => by
    rcases List.mem_cons.mp z with z | z
    · exact z1 z
    · rcases List.mem_cons.mp z with z | z
      · exact z2 z
      · exact z3 z)
  have slot : ∀ b o, s'.heap.get? b = some o → b ∈ frs (envOfC qual scope s₀.heap.objs.size f cd :: outer) → ∃ sl, h₂.get? b = some { o with slots := sl } := fun b o q n => by
    obtain ⟨_, o', ho', hdn⟩ := Heap.FunFrames.mem hst n
    rw [q] at ho'
    cases ho'
    exact up b o q hdn
  have old : ∀ b, s.heap.get? b = none → s₀.heap.get? b = none := fun b q => by
    cases z : s₀.heap.get? b with
    | none => rfl
    | some o =>
      obtain ⟨o', z'⟩ := I.base.there b o z (fun y => nomatch y)
      rw [q] at z'
      cases z'
  have na : ∀ b o, s₀.heap.get? b = some o → b ≠ a := fun b o q z => by rw [z, old a n1] at q; cases q
  have nT : ∀ b o, s₀.heap.get? b = some o → b ≠ T := fun b o q z => by rw [z, old T n2] at q; cases q
  have neL : ∀ b o, s₀.heap.get? b = some o → b ≠ s₀.heap.objs.size := fun b o z => Nat.ne_of_lt (Heap.lt_size z)
  obtain ⟨oe', vs', T', oT', ts', a0', he', hcls', hd', h0', h2', h1', hnT', hTe', hT', hdT', h3'⟩ := f4
  have far : ∀ o, s'.heap.get? T' = some o → T' ≠ a → T' ≠ T → False := fun o q z1 z2 => by
    by_cases n : T' ∈ frs (envOfC qual scope s₀.heap.objs.size f cd :: outer)
    · obtain ⟨_, o', ho', hdn⟩ := Heap.FunFrames.mem hst n
      rw [q] at ho'
      cases ho'
      obtain ⟨sl, z⟩ := slot T' o q n
      rw [hT'] at z
      cases z
      exact hdn ts' hdT'
    · rw [PySem.W.hideAll_get _ q fun z => by
        rcases List.mem_cons.mp z with z | z
        · exact z1 z
        · rcases List.mem_cons.mp z with z | z
          · exact z2 z
          · exact n z] at hnT'
      cases hnT'
  have e1 : s₀.heap.get? T' = none := by
    cases q : s₀.heap.get? T' with
    | none => rfl
    | some o =>
      obtain ⟨o', z'⟩ := I'.base.there T' o q (fun y => nomatch y)
      exact (far o' z' (na _ _ q) (nT _ _ q)).elim
  have e2 : H' T' = none := by
    cases q : H' T' with
    | none => rfl
    | some u =>
      cases z : s'.heap.get? T' with
      | none => rw [hok_there hok z] at q; cases q
      | some o => exact (far o z (fun y => by rw [y, n3] at q; cases q) (fun y => by rw [y, n4] at q; cases q)).elim
  refine ⟨a, C, T', H', rfl, I'.os, I'.bare, ⟨fun b o q n hb hx => ?_, fun b o q n hb hx => ?_, fun b o q n hx => I'.base.free b o q n (fun y => nomatch y), fun b o q hx => ?_, I'.base.tups, I'.base.frzs, I'.base.tbls⟩, ?_,
    ⟨old a n1, e1, n3, e2, hTe', oe', vs', oT', ts', _, he', hcls', hd', h0', h1', hT', hdT', h3', h2'⟩, hE⟩
  · exact keep b o (I'.base.keep b o q n hb (fun y => nomatch y)) (na _ _ q) (nT _ _ q) fun z => (hown b z).elim (neL b o q) hb
  · obtain ⟨sl, q1⟩ := I'.base.slot b o q n hb (fun y => nomatch y)
    obtain ⟨sl2, q2⟩ := slot b _ q1 (hsub b hb)
    exact ⟨sl2, q2⟩
  · obtain ⟨o', q1⟩ := I'.base.there b o q (fun y => nomatch y)
    by_cases n : b ∈ frs (envOfC qual scope s₀.heap.objs.size f cd :: outer)
    · obtain ⟨sl, q2⟩ := slot b o' q1 n
      exact ⟨_, q2⟩
    · exact ⟨o', keep b o' q1 (na _ _ q) (nT _ _ q) n⟩
  · refine hok_stay hok fun b o hb q => keep b o q (fun z => ?_) (fun z => ?_) fun z => ?_
    · rw [z, n3] at hb; cases hb
    · rw [z, n4] at hb; cases hb
    · rw [hfree b z] at hb; cases hb
end
section
variable {X : Cx} {k : Nat} {f C : Addr} {fd : FuncData} {ps : List Str} {sp : Sp} {x : Str} {p pos : Pos} {e : Expr} {es : List Expr} {t : TA}
/-- f(e, ..), f may let an exception out -/
def tCallX (sp : Sp) (t : TA) : L2.St → Hp → VK → XK → Prop := fun σ H Q E => t σ H fun vs H1 => sp vs H1 Q E
theorem pex_call (F : FnOk X.prog X.w X.K X.mg X.base (CXe X.prog X.w) k f fd ps sp) (hr : Room k X.A) (hg : Gl X x) (hm : X.mg x = some (.ref f)) (hk : PySem.W.keepIn X.K (.ref f) = true) (hb : Binds X.K fd ps []) (ha : PA X.nox (e :: es) t)
    (hdb : (x == ("__debug__" : Str)) = false := by decide) (he : starEach (e :: es) X.env = (false, eval e X.env) :: starEach es X.env := by rfl) (hpl : (backTo pos (starEach es X.env)).any (·.1) = false := by rfl) :
    PEx X (.Call (.Name x p) (e :: es) [] pos) (tCallX sp t) := by
  intro pins s σ H Q E I h
  refine wpAny_Call_Name_kw (ld_glob I hg hm ?_ hdb)
  refine PySem.W.callWith_K (h₀ := X.base) I.ok.mod.kin hk (wpAny_mono (ha pos pins s σ H _ (I.wish _) h) (fun us s1 h1 => ?_) fun _ _ z => False.elim z) he hpl
  obtain ⟨vs, H1, I1', r, q⟩ := h1
  have I1 : L2.Inv X pins σ H1 s1 := I1'.unwish
  refine ⟨I1.kIn, ?_⟩
  have hl : (us ++ []).length = ps.length := by rw [List.append_nil, ← r.length]; exact F.len _ _ _ _ q
  have hbd := hb s1 us I1.kIn hl
  rw [List.append_nil] at hbd
  refine wpAny_call (codeAny_mono (F.run X.A X.stack s1 H1 ⟨us, []⟩ us vs Q E hr I1.env0 hbd r q) fun res s' hq => ?_)
  cases res with
  | error v =>
    obtain ⟨a, C', T, H', e1, e2, e3, e4, e5, e6, e7⟩ := hq
    exact ⟨σ, _, _, I1, a, C', T, H', e1, e2, e3, e4, e5, e6, rfl, e7⟩
  | ok fl =>
    cases fl with
    | ret u => exact I1.after hq
    | next => exact False.elim hq
    | brk => exact False.elim hq
    | cont => exact False.elim hq
end
end L3

set_option Elab.async false
set_option linter.all false
set_option maxRecDepth 100000
set_option maxHeartbeats 4000000
namespace L3
open PySem PySem.Spec PyProof.Rows L2
/-! ### what makes no world -/
end L3

set_option Elab.async false
set_option linter.all false
set_option maxRecDepth 100000
set_option maxHeartbeats 4000000
namespace L3
open PySem PySem.Spec PyProof.Rows L2
/-! ### {key: number}, both constants -/
section
variable {X : Cx} {i j1 j2 : Nat} {pos p1 p2 : Pos}
end
end L3

set_option Elab.async false
set_option linter.all false
set_option maxRecDepth 100000
set_option maxHeartbeats 1000000
namespace L3
open PySem PySem.Spec PyProof.Rows L2
/-! ### displays of many constants, in one step -/
section
variable {X : Cx} {e : Expr} {es : List Expr} {v : V} {vs : List V} {t : TA}
end
/-! ### an argument, a display's item, that is no starred one: the item's own form is looked at alone -/
def starB : Expr → Bool
  | .Starred _ _ => true
  | _ => false
theorem star_c {e : Expr} {es : List Expr} {env : Env} (h : starB e = false) : starEach (e :: es) env = (false, eval e env) :: starEach es env := by
  cases e <;> first | rfl | cases h
theorem pa_c {X : Cx} {e : Expr} {es : List Expr} {te : TE} {t : TA} (ha : PE X e te) (hr : PA X es t) (h : starB e = false := by rfl) : PA X (e :: es) (tCons te t) := pa_cons ha hr (star_c h)
/-- the same, as a thing of its own (so that what it says is not looked into) -/
structure QA (X : Cx) (es : List Expr) (t : TA) : Prop where
  h : PA X es t
end L3

set_option Elab.async false
set_option linter.all false
set_option maxRecDepth 100000
set_option maxHeartbeats 4000000
namespace L3
open PySem PySem.Spec PyProof.Rows L2
/-! ### a comprehension some of whose own names are taken by one within it -/
structure CompOkC (sc : Scope) (N Nc : List Str) (ix : List (Option Nat)) (scope : Scope) : Prop where
  kind : scope.kind = .function
  cells : ∀ y ∈ scope.names, y.2 = .cell → scope.names.lookup y.1 = some .cell
  names : ∀ y ∈ scope.names, y.2 = .local → scope.names.lookup y.1 = some .local
  free : ∀ y ∈ scope.names, y.2 = .free → sc.names.lookup y.1 = some .cell ∨ sc.names.lookup y.1 = some .free
  len : ix.length = Nc.length
  chk : ((ix.zip Nc).all fun p => match p.1 with | none => true | some j => N[j]? == some p.2 && scope.names.lookup p.2 == some .free) = true
section
variable {X : Cx} {pins : List (Addr × Obj)} {σ : St} {H : Hp} {s : Shared} {Nc : List Str} {ix : List (Option Nat)} {scope : Scope}
end
end L3

set_option Elab.async false
set_option linter.all false
set_option maxRecDepth 100000
set_option maxHeartbeats 4000000
namespace L3
open PySem PySem.Spec PyProof.Rows L2
/-! ### a list made longer by a tuple -/
theorem ext_tup (l : Addr) (items : Array Value) (n : Nat) (b : Addr) (items2 : Array Value) (n2 : Nat) (dd : Option Addr) (sl : Array (Option Value)) (hs0 : ¬(!items.isEmpty && Builtin.List.listTooLong (items.size + items2.size)) = true) (hs1 : items.size ≤ sizeLine) (hs2 : items.size + items2.size ≤ sizeLine + 1) :
    Meets (Builtin.«list.extend» ⟨[.ref l, .ref b], []⟩) (fun _ R s => s.heap.get? l = some { cls := .type "list", dict := none, data := .seq items n, slots := #[] } ∧ s.heap.get? b = some { cls := .type "tuple", dict := dd, data := .seq items2 n2, slots := sl } ∧ R (.ok (.ret Value.none)) { s with heap := s.heap.update l (Obj.mapSeq fun x => x ++ items2), toks := s.toks }) :=
  .of_wp fun prog w A R s h => by
    obtain ⟨hp, g, d, tk, os⟩ := s; obtain ⟨hl, hb, h⟩ := h; have f1 := AutoSeq1.idx_int; have f2 := AutoSeq1.sub_tuple_tuple; have f3 := AutoSeq1.sub_list_list; have f4 := AutoSeq1.sub_tuple_list; have f5 := AutoSeq1.sub_list_tuple;
    have hz' : (items ++ items2).size ≤ sizeLine + 1 := by rw [Array.size_append]; exact hs2
    wp_walk using (wpAny_updateSeq hl rfl (hz := hs1) (_hz' := hz')), wpAny_loadPart' hl, wpAny_loadPart' hb; exact ⟨_, rfl, h⟩
section
variable {X : Cx} {K : PySem.W.Frag}
inductive rExtendT_R (K : PySem.W.Frag) (x : V) (vs : List V) (H : Hp) (Q : VK) : Prop
  | mk (l : _) (b : _) (xs : _) (zs : _) (h0 : x = .ref l) (h1 : vs = [.ref b]) (h2 : H l = some (.lst xs)) (h3 : SqT K H b zs) (h4 : xs.length + zs.length ≤ sizeLine) (h5 : Q .non (upd H l (.lst (xs ++ zs)))) : rExtendT_R K x vs H Q
def rExtendT (K : PySem.W.Frag) : V → List V → Hp → VK → Prop := fun x vs H Q => rExtendT_R K x vs H Q
theorem mt_extendT (hK : X.K = K) : MtM X "list.extend" (rExtendT K) := by
  subst hK
  intro pins s σ H x vs v us Q I rx rv h
  obtain ⟨l, b, xs, zs, rfl, rfl, hH, hB, hz, q⟩ := h
  cases rx
  obtain ⟨u, rfl, ru⟩ := rv.one
  cases ru
  obtain ⟨z, its, n, r, hl, e⟩ := I.lstM hH
  obtain ⟨its2, r2, ⟨o, e2, hc, n2, hd⟩, z2⟩ := I.tuple hB
  obtain ⟨c, dd, da, sl⟩ := o
  have hc' : c = .type "tuple" := hc
  have hd' : da = .seq its2.toArray n2 := hd
  subst hc' hd'
  have hl2 := r2.length
  have hsz : its.toArray.size + its2.toArray.size ≤ sizeLine := by rw [List.size_toArray, List.size_toArray]; omega
  have hlong : ¬ (!its.toArray.isEmpty && Builtin.List.listTooLong (its.toArray.size + its2.toArray.size)) = true := by
    rw [notLongL hsz, Bool.and_false]
    exact Bool.false_ne_true
  refine call_meets F.slot_list_extend ⟨_, e, rfl⟩ F.entry_list_extend (F.args_list_extend_2 _ _)
    (ext_tup l its.toArray n b its2.toArray n2 dd sl hlong (by rw [List.size_toArray]; omega) (by omega)) ⟨e, e2, ?_⟩
  refine ⟨.non, _, I.lset (its' := its ++ its2) hH e (by simp) (r.append r2) ?_, rfl, q⟩
  rw [List.length_append]
  omega
end
/-! ### del xs[k:] -/
theorem del_cut {sel : Nat → Bool} : ∀ (xs : List Value) (n k : Nat), (∀ i, n ≤ i → i < n + xs.length → sel i = decide (n + k ≤ i)) → ((xs.zipIdx n).filterMap fun (x, i) => if sel i = true then none else some x) = xs.take k
  | [], n, k, _ => by simp
  | x :: r, n, k, h => by
    have h0 := h n (Nat.le_refl _) (by simp)
    rw [List.zipIdx_cons, List.filterMap_cons]
    cases k with
    | zero =>
      have e : sel n = true := by rw [h0]; simp
      simp only [e, if_true]
      have := del_cut (sel := sel) r (n + 1) 0 fun i h1 h2 => by rw [h i (by omega) (by simp; omega)]; exact decide_eq_decide.mpr ⟨fun _ => by omega, fun _ => by omega⟩
      simpa using this
    | succ k =>
      have e : sel n = false := by rw [h0]; exact decide_eq_false (by omega)
      simp only [e, Bool.false_eq_true, if_false]
      rw [List.take_succ_cons, del_cut (sel := sel) r (n + 1) k fun i h1 h2 => by rw [h i (by omega) (by simp; omega)]; exact decide_eq_decide.mpr ⟨fun _ => by omega, fun _ => by omega⟩]
theorem del_from {prog : Program} {w : World} {A : Around} {E : Value → Shared → Prop} {s : Shared} {l sl : Addr} {items : Array Value} {n : Nat} {vl : Value} {k : Nat} {Q : Unit → Shared → Prop} (ho : s.heap.get? l = some { cls := .type "list", data := .seq items n }) (hs : s.heap.IsSliceOf sl vl .none .none) (pl : IsPart vl (some (k : Int))) (hk : k ≤ items.size) (hsz : items.size ≤ sizeLine)
    (h : ∀ f : Array Value → Array Value, f items = (items.toList.take k).toArray → Q () { s with heap := s.heap.update l (Obj.mapSeq f) }) : wpAny (model prog w) A (delItem (.ref l) (.ref sl)) Q E s := by
  have hT : s.TypeIs (.ref l) "list" := ⟨_, ho, rfl⟩
  obtain ⟨os, hos, hcs, hds⟩ := id hs
  have hTs : s.TypeIs (.ref sl) "slice" := ⟨os, hos, hcs⟩
  refine wpAny_delItem_slot hT (by decide) F.slot_list_delitem (wpAny_call_entry F.slot_list_delitem hT F.entry_list_delitem ?_ (F.args_list_delitem_2 _ _))
  show wpAny _ _ (Builtin.List.listSubscript? (.ref sl) >>= _) _ _ s
  refine wpAny_bind ?_
  unfold Builtin.List.listSubscript?
  refine wpAny_bind (wpAny_specialOf hTs slice_no_index ?_)
  simp only [Option.isNone_none, if_true]
  refine wpAny_pure ?_
  show wpAny _ _ (typeOf (.ref sl) >>= _) _ _ s
  refine wpAny_bind (wpAny_typeOf hTs ?_)
  rw [if_neg (by decide)]
  rw [listSliceParts_eq]
  refine wpAny_bind (wpAny_bind (wpAny_field hos hds (x := .none) rfl (wpAny_bind (wpAny_listPart .none ?_))))
  rw [if_neg (show ¬ ((rawPart none == rawInt 0) = true) from Bool.false_ne_true)]
  refine wpAny_bind (wpAny_field hos hds (x := vl) rfl (wpAny_bind (wpAny_listPart pl ?_)))
  refine wpAny_bind (wpAny_field hos hds (x := .none) rfl (wpAny_bind (wpAny_listPart .none (wpAny_pure ?_))))
  refine wpAny_bind (m := Builtin.List.listItems (.ref l)) ?_
  unfold Builtin.List.listItems
  refine wpAny_bind (wpAny_seqItems ho rfl (wpAny_pure ?_))
  have eb : sliceIndices (rawPart (some (k : Int))) (rawPart none) (rawPart none) items.size = pure ((k : Int), (items.size : Int), (1 : Int)) := by
    rw [sliceIndices_raw _ _ _ _ (by simp)]
    have e1 : (sliceBounds (some (k : Int)) none none items.size) = ((k : Int), (items.size : Int), (1 : Int)) := by
      unfold sliceBounds
      simp
      omega
    rw [e1]
  refine wpAny_bind (wpAny_of_eq eb ?_)
  refine wpAny_bind (wpAny_rule (wpAny_bind ?_))
  show wpAny _ _ (updateSeq l _) _ _ s
  have hf := del_cut (sel := fun i => if (1 : Int) > 0 then decide ((k : Int) ≤ i) && decide ((i : Int) < (items.size : Int)) && ((i : Int) - k) % 1 == 0 else decide ((items.size : Int) < i) && decide ((i : Int) ≤ k) && ((k : Int) - i) % (-1) == 0) items.toList 0 k fun i h1 h2 => by
    have h2' : i < items.size := by simpa using h2
    simp only [show (1 : Int) > 0 by decide, if_true]
    rw [Int.emod_one]
    simp
    omega
  have hf' := congrArg List.toArray hf
  refine wpAny_updateSeq ho rfl ?_ hsz ?_
  · exact wpAny_bind (wpAny_letGo (wpAny_pure ⟨_, rfl, h _ hf'⟩))
  · refine Nat.le_trans (Nat.le_of_eq (congrArg Array.size hf')) ?_
    rw [List.size_toArray, List.length_take]
    omega
section
variable {X : Cx}
def tDelFrom (te : TE) (tl : TE) : L2.TS := fun D σ H => te σ H fun x H1 => tl σ H1 fun y H2 => ∃ l xs k, x = .ref l ∧ y = .int ((k : Nat) : Int) ∧ H2 l = some (.lst xs) ∧ k ≤ xs.length ∧ D.nx σ (upd H2 l (.lst (xs.take k)))
theorem ps_delFrom {o lo : Expr} {te tl : TE} {p2 p3 pos : Pos} (ho : PE X o te) (hl : PE X lo tl) : PS X (.Delete [.Subscript o (.Slice (some lo) none none p2) p3] pos) (tDelFrom te tl) := by
  intro pins s σ H D I h
  refine wpAny_Delete (wpAny_deleteEach_cons (wpAny_delete_Subscript (thn (ho pins s σ H _ I h) fun u s1 ⟨x, H1, I1, rx, q1⟩ => ?_)))
  refine wpAny_Slice ?_
  rw [evalPart_some]
  refine thn (hl pins s1 σ H1 _ I1 q1) fun vl s2 ⟨y, H2, I2, ry, l, xs, k, ex, ey, hH, hk, q⟩ => ?_
  subst ex ey
  obtain rfl : u = Value.ref l := rx
  obtain ⟨t, rfl⟩ := (show ∃ t, vl = Value.int ((k : Nat) : Int) t from ry)
  rw [evalPart_none]
  refine wpAny_pure (wpAny_pure ?_)
  have I3 : Inv X pins σ H2 { s2 with heap := s2.heap.push { cls := .type "slice", data := .fields #[.int ((k : Nat) : Int) t, .none, .none] } } := I2.kept (t' := s2.toks) fun b ob q => Heap.get?_push_of_some _ q
  obtain ⟨z, its, n, r, hlen, e⟩ := I3.lstM hH
  refine del_from e (Heap.IsSliceOf.new ..) (.int _ t) (by rw [List.size_toArray]; omega) (by rw [List.size_toArray]; omega) fun f hf => wpAny_deleteEach_nil ?_
  refine ⟨σ, _, I3.lset (its' := its.take k) (t' := s2.toks) hH e ?_ (r.take k) (by rw [List.length_take]; omega), q⟩
  simpa using hf
end
/-! ### a dict of the module: texts to ints -/
structure DicK (K : PySem.W.Frag) (P : Params) (D : Addr) (kvs : List (Str × Int)) : Prop where
  ex : ∃ (es : Array DictEntry) (n : Nat), K.lookup D = some ⟨.type "dict", none, .dict es n, #[]⟩ ∧ PySem.W.KeysLit P es.toList
  at_ : ∀ p ∈ kvs, ∃ t, PySem.W.nsIn K D p.1 = some (some (.int p.2 t))
  lo : (D == sysModules) = false
inductive rIxD_R (K : PySem.W.Frag) (P : Params) (x : V) (y : V) (H : Hp) (Q : VK) : Prop
  | mk (D : _) (z : _) (kvs : _) (i : _) (h0 : x = .ref D) (h1 : y = .str z) (h2 : DicK K P D kvs) (h3 : (z, i) ∈ kvs) (h4 : Q (.int i) H) : rIxD_R K P x y H Q
def rIxD (K : PySem.W.Frag) (P : Params) : R2 := fun x y H Q => rIxD_R K P x y H Q
section
variable {X : Cx} {K : PySem.W.Frag} {P : Params}
theorem ix_dic (hK : X.K = K) (hw : X.w.params = P) : IxR X (rIxD K P) := by
  subst hK hw
  intro value slice pins s σ H x y v u Q I rx ry h hs
  obtain ⟨D, z, kvs, i, rfl, rfl, d, hm, q⟩ := h
  obtain ⟨t, rfl⟩ := (show ∃ t, u = Value.str z t from ry)
  obtain rfl : v = Value.ref D := rx
  obtain ⟨m, F⟩ := I.fr
  obtain ⟨es, n, lk, hk⟩ := d.ex
  obtain ⟨t2, ea⟩ := d.at_ _ hm
  exact PySem.W.topItem_K F I.mod.kin lk hk ea ⟨.int i, H, I.tok _, ⟨t2, rfl⟩, q⟩ hs
end
/-! ### the script + a list -/
end L3

set_option Elab.async false
set_option linter.all false
set_option maxRecDepth 100000
set_option maxHeartbeats 4000000
namespace L3
open PySem PySem.Spec L2
/-! ### sentences: trees of tuples -/
inductive Lb where
  | yes
  | sign (s : Str)
  | op (w : Str)
  | wit (m : Int)
  | many (w : Str)
inductive Tr where
  | node (c : Lb) (ks : List Tr)
def Tr.lb : Tr → Lb
  | .node c _ => c
def Tr.ks : Tr → List Tr
  | .node _ ks => ks
theorem Tr.eta (t : Tr) : t = .node t.lb t.ks := by cases t; rfl
def W1 : List Str := ["all", "some", "not", "next", "always", "ever", "before", "once", "sofar"]
def W2 : List Str := ["until", "since"]
def lbOk : Lb → Nat → Prop
  | .yes, n => n = 0
  | .sign s, n => n = 0 ∧ isNameS s = true
  | .op w, n => (w ∈ W1 ∧ n = 1) ∨ (w ∈ W2 ∧ n = 2)
  | .wit m, n => (0 ≤ m ∧ m ≤ 5) ∧ n = 2
  | .many w, n => (w = "and" ∨ w = "or") ∧ n ≤ 400
def wordL : Lb → Str
  | .yes => "yes"
  | .sign _ => "sign"
  | .op w => w
  | .wit _ => "within"
  | .many w => w
/-- the tuple at a, of the heap or of the module; vs: the sentences that stand right in it -/
def Shape (K : PySem.W.Frag) (H : Hp) (a : Addr) (vs : List V) : Lb → Prop
  | .yes => vs = [] ∧ SqT K H a [.str "yes"]
  | .sign s => vs = [] ∧ SqT K H a [.str "sign", .str s]
  | .op w => SqT K H a (.str w :: vs)
  | .wit m => SqT K H a (.str "within" :: .int m :: vs)
  | .many w => ∃ b, SqT K H a [.str w, .ref b] ∧ SqT K H b vs
def At (K : PySem.W.Frag) : Nat → Hp → V → Tr → Prop
  | 0, _, _, _ => False
  | n + 1, H, v, t => ∃ a vs, v = .ref a ∧ Shape K H a vs t.lb ∧ lbOk t.lb t.ks.length ∧ vs.length = t.ks.length ∧ ∀ (i : Nat) u k, vs[i]? = some u → t.ks[i]? = some k → At K n H u k
def SameT (H H' : Hp) : Prop := ∀ (K : PySem.W.Frag) b xs, SqT K H b xs → SqT K H' b xs
theorem Same.tup {H H' : Hp} (s : Same H H') : SameT H H' := fun K b xs e => Same.seqT s e
theorem SameX.tup {p : Addr} {H H' : Hp} {xs : List V} (s : SameX p H H') (hp : H p = some (.lst xs)) : SameT H H' := fun K b ys h => by
  rcases h with (h | ⟨o, h⟩) | h
  · exact .inl (.inl (s _ _ (ne_of h hp (by intro z; cases z)) h))
  · exact .inl (.inr ⟨o, s _ _ (ne_of h hp (by intro z; cases z)) h⟩)
  · exact .inr h
theorem SameT.trans {H H1 H2 : Hp} (a : SameT H H1) (b : SameT H1 H2) : SameT H H2 := fun K c xs e => b _ _ _ (a _ _ _ e)
variable {K : PySem.W.Frag}
theorem Shape.mono {H H' : Hp} (s : SameT H H') {a : Addr} {vs : List V} {c : Lb} (h : Shape K H a vs c) : Shape K H' a vs c := by
  cases c with
  | yes => exact ⟨h.1, s _ _ _ h.2⟩
  | sign z => exact ⟨h.1, s _ _ _ h.2⟩
  | op w => exact s _ _ _ h
  | wit m => exact s _ _ _ h
  | many w => obtain ⟨b, h1, h2⟩ := h; exact ⟨b, s _ _ _ h1, s _ _ _ h2⟩
theorem At.mono {H H' : Hp} (s : SameT H H') : ∀ {n : Nat} {v : V} {t : Tr}, At K n H v t → At K n H' v t
  | 0, _, _, h => h
  | n + 1, v, t, ⟨a, vs, e, sh, ok, l, q⟩ => ⟨a, vs, e, sh.mono s, ok, l, fun i u k h1 h2 => At.mono s (q i u k h1 h2)⟩
theorem At.up {H : Hp} : ∀ {n : Nat} {v : V} {t : Tr}, At K n H v t → At K (n + 1) H v t
  | 0, _, _, h => h.elim
  | n + 1, v, t, ⟨a, vs, e, sh, ok, l, q⟩ => ⟨a, vs, e, sh, ok, l, fun i u k h1 h2 => At.up (q i u k h1 h2)⟩
theorem At.le {H : Hp} {n m : Nat} {v : V} {t : Tr} (h : At K n H v t) (hm : n ≤ m) : At K m H v t := by
  induction hm with
  | refl => exact h
  | step _ ih => exact ih.up
def AtL (K : PySem.W.Frag) (n : Nat) (H : Hp) (vs : List V) (ts : List Tr) : Prop := vs.length = ts.length ∧ ∀ (i : Nat) u k, vs[i]? = some u → ts[i]? = some k → At K n H u k
theorem AtL.mono {n : Nat} {H H' : Hp} {vs : List V} {ts : List Tr} (s : SameT H H') (h : AtL K n H vs ts) : AtL K n H' vs ts := ⟨h.1, fun i u k h1 h2 => (h.2 i u k h1 h2).mono s⟩
theorem AtL.le {n m : Nat} {H : Hp} {vs : List V} {ts : List Tr} (h : AtL K n H vs ts) (hm : n ≤ m) : AtL K m H vs ts := ⟨h.1, fun i u k h1 h2 => (h.2 i u k h1 h2).le hm⟩
theorem AtL.nil {n : Nat} {H : Hp} : AtL K n H [] [] := ⟨rfl, fun i u k h => by simp at h⟩
theorem AtL.one {n : Nat} {H : Hp} {v : V} {t : Tr} (h : At K n H v t) : AtL K n H [v] [t] := ⟨rfl, fun i u k h1 h2 => by
  cases i with
  | zero => cases h1; cases h2; exact h
  | succ i => simp at h1⟩
theorem AtL.app {n : Nat} {H : Hp} {vs us : List V} {ts rs : List Tr} (h : AtL K n H vs ts) (g : AtL K n H us rs) : AtL K n H (vs ++ us) (ts ++ rs) := by
  refine ⟨by rw [List.length_append, List.length_append, h.1, g.1], fun i u k h1 h2 => ?_⟩
  by_cases hi : i < vs.length
  · rw [List.getElem?_append_left hi] at h1
    rw [List.getElem?_append_left (by rw [← h.1]; exact hi)] at h2
    exact h.2 i u k h1 h2
  · rw [List.getElem?_append_right (by omega)] at h1
    rw [List.getElem?_append_right (by rw [← h.1]; omega), ← h.1] at h2
    exact g.2 _ u k h1 h2
theorem AtL.rev {n : Nat} {H : Hp} {vs : List V} {ts : List Tr} (h : AtL K n H vs ts) : AtL K n H vs.reverse ts.reverse := by
  refine ⟨by rw [List.length_reverse, List.length_reverse, h.1], fun i u k h1 h2 => ?_⟩
  have hi := (List.getElem?_eq_some_iff.mp h1).1
  rw [List.length_reverse] at hi
  rw [List.getElem?_reverse hi] at h1
  rw [List.getElem?_reverse (by rw [← h.1]; exact hi), ← h.1] at h2
  exact h.2 _ u k h1 h2
theorem AtL.last {n : Nat} {H : Hp} {vs : List V} {ts : List Tr} (h : AtL K n H vs ts) (hne : vs ≠ []) : ∃ us u rs r, vs = us ++ [u] ∧ ts = rs ++ [r] ∧ AtL K n H us rs ∧ At K n H u r := by
  have hl := List.length_pos_iff.mpr hne
  have ht : ts ≠ [] := fun e => by rw [e] at h; have := h.1; simp at this; exact hne this
  have e1 := List.dropLast_concat_getLast hne
  have e2 := List.dropLast_concat_getLast ht
  have hl1 : vs.dropLast.length = ts.dropLast.length := by rw [List.length_dropLast, List.length_dropLast, h.1]
  refine ⟨vs.dropLast, vs.getLast hne, ts.dropLast, ts.getLast ht, e1.symm, e2.symm, ⟨hl1, fun i u k h1 h2 => ?_⟩, ?_⟩
  · have hi := (List.getElem?_eq_some_iff.mp h1).1
    refine h.2 i u k ?_ ?_
    · rw [← e1, List.getElem?_append_left hi]; exact h1
    · rw [← e2, List.getElem?_append_left (by rw [← hl1]; exact hi)]; exact h2
  · refine h.2 (vs.length - 1) _ _ ?_ ?_
    · rw [List.getLast_eq_getElem]; exact List.getElem?_eq_getElem _
    · rw [List.getLast_eq_getElem, h.1]; exact List.getElem?_eq_getElem _
/-! ### rooms or ways; the order in which they are gone through -/
mutual
def roomT : Tr → Bool
  | .node c ks => match c with
    | .yes => true
    | .sign _ => true
    | .op w => if w = "all" ∨ w = "some" then true else if w = "not" then roomL ks else false
    | .wit _ => false
    | .many _ => roomL ks
def roomL : List Tr → Bool
  | [] => true
  | t :: r => roomT t && roomL r
end
theorem roomL_all : ∀ ks : List Tr, roomL ks = ks.all roomT
  | [] => by rw [roomL]; rfl
  | t :: r => by rw [roomL, roomL_all r, List.all_cons]
mutual
def post : Tr → List Tr
  | .node c ks => postL ks ++ [.node c ks]
def postL : List Tr → List Tr
  | [] => []
  | t :: r => post t ++ postL r
end
theorem post_eq (t : Tr) : post t = postL t.ks ++ [t] := by cases t; rw [post]; rfl
theorem postL_app : ∀ (a b : List Tr), postL (a ++ b) = postL a ++ postL b
  | [], b => by rw [List.nil_append, postL, List.nil_append]
  | t :: r, b => by rw [List.cons_append, postL, postL_app r b, postL, List.append_assoc]
theorem postL_one (t : Tr) : postL [t] = post t := by rw [postL, postL, List.append_nil]
theorem post_turn (ws : List Tr) (w : Tr) : (postL (ws ++ [w])).reverse = w :: (postL (ws ++ w.ks)).reverse := by
  rw [postL_app, postL_app, postL_one, post_eq w]
  simp
/-! the stack: what is told of all so far, by F -/
mutual
def valT {α : Type} (F : Lb → List α → α) : Tr → α
  | .node c ks => F c (valL F ks)
def valL {α : Type} (F : Lb → List α → α) : List Tr → List α
  | [] => []
  | t :: r => valT F t :: valL F r
end
theorem valL_map {α : Type} (F : Lb → List α → α) : ∀ ks : List Tr, valL F ks = ks.map (valT F)
  | [] => by rw [valL]; rfl
  | t :: r => by rw [valL, valL_map F r]; rfl
theorem valT_eq {α : Type} (F : Lb → List α → α) (t : Tr) : valT F t = F t.lb (t.ks.map (valT F)) := by
  cases t with
  | node c ks => rw [valT, valL_map]; rfl
section
variable {α : Type} {F : Lb → List α → α}
def stepF (F : Lb → List α → α) (st : List α) (t : Tr) : List α := st.take (st.length - t.ks.length) ++ [F t.lb (st.drop (st.length - t.ks.length))]
def okRun (F : Lb → List α → α) : List α → List Tr → Prop
  | _, [] => True
  | st, t :: r => (t.ks.length ≤ st.length ∧ st.drop (st.length - t.ks.length) = t.ks.map (valT F)) ∧ okRun F (stepF F st t) r
def runF (F : Lb → List α → α) : List α → List Tr → List α
  | st, [] => st
  | st, t :: r => runF F (stepF F st t) r
theorem stepF_app (st : List α) (t : Tr) : stepF F (st ++ t.ks.map (valT F)) t = st ++ [valT F t] := by
  unfold stepF
  have e : (st ++ t.ks.map (valT F)).length - t.ks.length = st.length := by rw [List.length_append, List.length_map]; omega
  rw [e, List.take_left, List.drop_left, ← valT_eq F t]
mutual
theorem run_post : ∀ (t : Tr) (st : List α) (r : List Tr), (okRun F (st ++ [valT F t]) r → okRun F st (post t ++ r)) ∧ runF F st (post t ++ r) = runF F (st ++ [valT F t]) r
  | .node c ks, st, r => by
    obtain ⟨h1, h2⟩ := run_postL ks st (.node c ks :: r)
    have e' : stepF F (st ++ ks.map (valT F)) (.node c ks) = st ++ [valT F (.node c ks)] := stepF_app st (.node c ks)
    rw [post, List.append_assoc, List.singleton_append]
    refine ⟨fun h => h1 ⟨⟨?_, ?_⟩, ?_⟩, ?_⟩
    · show ks.length ≤ _
      rw [List.length_append, List.length_map]; omega
    · show (st ++ ks.map (valT F)).drop ((st ++ ks.map (valT F)).length - ks.length) = ks.map (valT F)
      have e : (st ++ ks.map (valT F)).length - ks.length = st.length := by rw [List.length_append, List.length_map]; omega
      rw [e, List.drop_left]
    · rw [e']; exact h
    · rw [h2, runF, e']
theorem run_postL : ∀ (ks : List Tr) (st : List α) (r : List Tr), (okRun F (st ++ ks.map (valT F)) r → okRun F st (postL ks ++ r)) ∧ runF F st (postL ks ++ r) = runF F (st ++ ks.map (valT F)) r
  | [], st, r => by
    rw [postL, List.nil_append, List.map_nil, List.append_nil]
    exact ⟨id, rfl⟩
  | t :: ks, st, r => by
    obtain ⟨h1, h2⟩ := run_post t st (postL ks ++ r)
    obtain ⟨h3, h4⟩ := run_postL ks (st ++ [valT F t]) r
    rw [postL, List.append_assoc, List.map_cons]
    have e : st ++ valT F t :: ks.map (valT F) = st ++ [valT F t] ++ ks.map (valT F) := by simp
    rw [e]
    exact ⟨fun h => h1 (h3 h), by rw [h2, h4]⟩
end
theorem run_all (t : Tr) : okRun F [] (post t) ∧ runF F [] (post t) = [valT F t] := by
  obtain ⟨h1, h2⟩ := run_post (F := F) t [] []
  rw [List.append_nil] at h1 h2
  exact ⟨h1 trivial, h2⟩
end

/-! ### small helps -/
theorem iteD {p A B : Prop} [Decidable p] (h : p) (a : A) : if decide p = true then A else B := by rw [if_pos (decide_eq_true h)]; exact a
theorem iteN {p A B : Prop} [Decidable p] (h : ¬ p) (b : B) : if decide p = true then A else B := by rw [if_neg (by simpa using h)]; exact b
theorem qD {p : Prop} [Decidable p] {Q : VK} {H : Hp} (h : p) (q : Q (.bl true) H) : Q (.bl (decide p)) H := by rw [decide_eq_true h]; exact q
theorem sl_tupK {X : Cx} {K : PySem.W.Frag} (hK : X.K = K) : SlR X (rSlT K) := by subst hK; exact sl_tup
theorem iteIn {w : Str} {ss : List Str} {A B : Prop} (h : w ∈ ss) (a : A) : if inV (.str w) (ss.map V.str) = true then A else B := by rw [if_pos (inV_str.mpr h)]; exact a
theorem iteNin {w : Str} {ss : List Str} {A B : Prop} (h : w ∉ ss) (b : B) : if inV (.str w) (ss.map V.str) = true then A else B := by rw [if_neg (fun e => h (inV_str.mp e))]; exact b
def LK : List (Str × Int) := [("all", 2), ("some", 2), ("not", 2), ("next", 2), ("always", 2), ("ever", 2), ("before", 2), ("once", 2), ("sofar", 2), ("until", 3), ("since", 3)]
theorem op_words : ∀ w ∈ W1 ++ W2, w ≠ "yes" ∧ w ≠ "sign" ∧ w ∉ (["and", "or"] : List Str) ∧ w ≠ "within" ∧ w ∉ (["yes", "sign"] : List Str) := by decide +kernel
theorem many_words : ∀ w ∈ (["and", "or"] : List Str), w ≠ "yes" ∧ w ≠ "sign" ∧ w ≠ "within" ∧ w ∉ (["yes", "sign"] : List Str) ∧ w ∉ (["yes", "sign", "all", "some"] : List Str) ∧ w ∈ (["not", "and", "or"] : List Str) := by decide +kernel
theorem lk1 : ∀ w ∈ W1, (w, (2 : Int)) ∈ LK := by decide +kernel
theorem lk2 : ∀ w ∈ W2, (w, (3 : Int)) ∈ LK := by decide +kernel
theorem str_ty {K : PySem.W.Frag} {H : Hp} (z : Str) : ∃ t, TyOf K H (.str z) t ∧ PySem.W.kitOne K t (.type "str") = some true := ⟨_, .str _, rfl⟩
/-- a sentence's tuple: its word stands first -/
theorem Shape.tup {H : Hp} {a : Addr} {vs : List V} {c : Lb} (h : Shape K H a vs c) : ∃ xs, SqT K H a (.str (wordL c) :: xs) := by
  cases c with
  | yes => exact ⟨[], h.2⟩
  | sign s => exact ⟨[.str s], h.2⟩
  | op w => exact ⟨vs, h⟩
  | wit m => exact ⟨.int m :: vs, h⟩
  | many w => obtain ⟨b, h1, _⟩ := h; exact ⟨[.ref b], h1⟩
/-! ### isinstance(x, tuple), also of the module's; == of deep things -/
inductive rIsT_R (K : PySem.W.Frag) (xs : List V) (H : Hp) (Q : VK) : Prop
  | mk (x : _) (h0 : xs = [x, .ty "tuple"]) (h1 : ((∃ a ys, x = .ref a ∧ SqT K H a ys ∧ Q (.bl true) H) ∨ ∃ t, TyOf K H x t ∧ PySem.W.kitOne K t (.type "tuple") = some false ∧ Q (.bl false) H)) : rIsT_R K xs H Q
def rIsT (K : PySem.W.Frag) : List V → Hp → VK → Prop := fun xs H Q => rIsT_R K xs H Q
theorem call_isT {X : Cx} (hK : X.K = K) : CallR X (.builtin "isinstance") (rIsT K) := by
  subst hK
  intro pins s σ H xs us Q I r h
  obtain ⟨x, rfl, h⟩ := h
  obtain ⟨u, v, rfl, ru, rv⟩ := vals2 r
  obtain rfl : v = Value.type "tuple" := rv
  rcases h with ⟨a, ys, rfl, hq, q⟩ | ⟨t, ht, hk, q⟩
  · obtain rfl : u = Value.ref a := ru
    obtain ⟨its, r, ⟨o, h1, h2, h3⟩, hz⟩ := I.tuple hq
    exact PySem.W.kia_one (b := true) PySem.W.kitx_tuple I.kIn ⟨o, h1, h2⟩ rfl (fun z => nomatch z) fun tk => ⟨.bl true, H, I.tok _, rfl, q⟩
  · exact isinst_ok I ru ht hk fun tk => ⟨.bl false, H, I.tok _, rfl, q⟩
end L3

set_option Elab.async false
set_option linter.all false
set_option maxRecDepth 100000
set_option maxHeartbeats 4000000
namespace L3
open PySem PySem.Spec PyProof.Rows L2
/-! ### for x in reversed(xs) -/
section
variable {X : Cx} {K : PySem.W.Frag} {tg : Expr}
theorem op_catTK (hK : X.K = K) : OpR X (binaryOp .Add) (rCatT K) := by subst hK; exact op_catT
end
end L3

set_option Elab.async false
set_option linter.all false
set_option maxRecDepth 100000
set_option maxHeartbeats 4000000
namespace L3
open PySem PySem.Spec L2
/-! ### cores -/
abbrev nYes : Tr := .node .yes []
abbrev nNot (t : Tr) : Tr := .node (.op "not") [t]
abbrev nNext (t : Tr) : Tr := .node (.op "next") [t]
abbrev nSome (t : Tr) : Tr := .node (.op "some") [t]
abbrev nAnd (a b : Tr) : Tr := .node (.many "and") [a, b]
abbrev nUnt (a b : Tr) : Tr := .node (.op "until") [a, b]
abbrev nSin (a b : Tr) : Tr := .node (.op "since") [a, b]
def andT : List Tr → Tr
  | [] => nYes
  | [x] => x
  | x :: y :: r => nAnd x (andT (y :: r))
def orT : List Tr → Tr
  | [] => nNot nYes
  | [x] => x
  | x :: y :: r => nNot (nAnd (nNot x) (nNot (orT (y :: r))))
def withinT : Nat → Tr → Tr → Tr
  | 0, _, s => s
  | n + 1, f, s => nNot (nAnd (nNot s) (nNot (nAnd f (nNext (withinT n f s)))))
def coreF (c : Lb) (cs : List Tr) : Tr := match c with
  | .yes => nYes
  | .sign s => .node (.sign s) []
  | .many w => if w = "and" then andT cs else orT cs
  | .wit m => withinT m.toNat (cs.getD 0 nYes) (cs.getD 1 nYes)
  | .op w => if w = "all" then nNot (nSome (nNot (cs.getD 0 nYes))) else if w = "ever" then nUnt nYes (cs.getD 0 nYes) else if w = "always" then nNot (nUnt nYes (nNot (cs.getD 0 nYes)))
    else if w = "once" then nSin nYes (cs.getD 0 nYes) else if w = "sofar" then nNot (nSin nYes (nNot (cs.getD 0 nYes))) else .node (.op w) cs
/-! measures: each by one step -/
def psz (t : Tr) : Nat := (post t).length
theorem psz_eq (t : Tr) : psz t = (t.ks.map psz).sum + 1 := by
  have key : ∀ ks : List Tr, (postL ks).length = (ks.map psz).sum := by
    intro ks
    induction ks with
    | nil => rfl
    | cons a r ih => rw [postL, List.length_append, ih, List.map_cons, List.sum_cons]; rfl
  unfold psz
  rw [post_eq t, List.length_append, key]
  rfl
/-! what is true of a measure at coreF -/
section
theorem psz_node (c : Lb) (ks : List Tr) : psz (.node c ks) = (ks.map psz).sum + 1 := psz_eq _
end
/-! ### cores of cores -/
/-! ### all of it, by the height -/
def OkN : Nat → Tr → Prop
  | 0, _ => False
  | n + 1, t => lbOk t.lb t.ks.length ∧ ∀ k ∈ t.ks, OkN n k
/-! ### tuples that are sentences -/
theorem post_len (c : Lb) (ks : List Tr) : (post (.node c ks)).length = (postL ks).length + 1 := by rw [post, List.length_append]; rfl
theorem at_yes {K : PySem.W.Frag} {n : Nat} {H : Hp} {t : Addr} (e : SqT K H t [.str "yes"]) : At K (n + 1) H (.ref t) (.node .yes []) := ⟨t, [], rfl, ⟨rfl, e⟩, rfl, rfl, fun i u k h => by simp at h⟩
theorem at_sign {K : PySem.W.Frag} {n : Nat} {H : Hp} {t : Addr} {z : Str} (e : SqT K H t [.str "sign", .str z]) (hz : isNameS z = true) : At K (n + 1) H (.ref t) (.node (.sign z) []) := ⟨t, [], rfl, ⟨rfl, e⟩, ⟨rfl, hz⟩, rfl, fun i u k h => by simp at h⟩
theorem at_op1 {K : PySem.W.Frag} {n : Nat} {H : Hp} {t : Addr} {w : Str} {u : V} {k : Tr} (e : SqT K H t [.str w, u]) (hw : w ∈ W1) (h : At K n H u k) : At K (n + 1) H (.ref t) (.node (.op w) [k]) := ⟨t, [u], rfl, e, .inl ⟨hw, rfl⟩, rfl, (AtL.one h).2⟩
theorem at_op2 {K : PySem.W.Frag} {n : Nat} {H : Hp} {t : Addr} {w : Str} {u v : V} {k r : Tr} (e : SqT K H t [.str w, u, v]) (hw : w ∈ W2) (h : At K n H u k) (g : At K n H v r) : At K (n + 1) H (.ref t) (.node (.op w) [k, r]) := ⟨t, [u, v], rfl, e, .inr ⟨hw, rfl⟩, rfl, ((AtL.one h).app (AtL.one g)).2⟩
theorem at_wit {K : PySem.W.Frag} {n : Nat} {H : Hp} {t : Addr} {m : Int} {u v : V} {k r : Tr} (e : SqT K H t [.str "within", .int m, u, v]) (hm : 0 ≤ m ∧ m ≤ 5) (h : At K n H u k) (g : At K n H v r) : At K (n + 1) H (.ref t) (.node (.wit m) [k, r]) := ⟨t, [u, v], rfl, e, ⟨hm, rfl⟩, rfl, ((AtL.one h).app (AtL.one g)).2⟩
theorem at_mny {K : PySem.W.Frag} {n : Nat} {H : Hp} {t b : Addr} {w : Str} {us : List V} {ks : List Tr} (e : SqT K H t [.str w, .ref b]) (eb : SqT K H b us) (h : AtL K n H us ks) (hw : w = "and" ∨ w = "or") (hk : ks.length ≤ 400) : At K (n + 1) H (.ref t) (.node (.many w) ks) := ⟨t, us, rfl, ⟨b, e, eb⟩, ⟨hw, hk⟩, h.1, h.2⟩
theorem atI_last {xs : List V} {u : V} : atI (xs ++ [u]) (-1) = some u := by
  have := atI_back (xs := xs ++ [u]) (k := 1) (by decide) (by simp)
  simpa using this
end L3

set_option Elab.async false
set_option linter.all false
set_option maxRecDepth 100000
set_option maxHeartbeats 4000000
namespace L3
open PySem PySem.Spec L2
/-! ### a sentence as data -/
end L3

set_option Elab.async false
set_option linter.all false
set_option maxRecDepth 100000
set_option maxHeartbeats 4000000
namespace L3
open PySem PySem.Spec L2
/-! ### what is_formed says False of -/
abbrev NW : List Str := ["yes", "sign", "and", "or", "within"]
inductive Fm (K : PySem.W.Frag) (H : Hp) : V → Prop
  | noT {v : V} : Kd H v → isTy H "tuple" v = false → Fm K H v
  | emp {a : Addr} : SqT K H a [] → Fm K H (.ref a)
  | noS {a : Addr} {x : V} {xs : List V} : SqT K H a (x :: xs) → Kd H x → isTy H "str" x = false → Fm K H (.ref a)
  | yes {a : Addr} {xs : List V} : SqT K H a (.str "yes" :: xs) → xs.length ≠ 0 → Fm K H (.ref a)
  | sgnL {a : Addr} {xs : List V} : SqT K H a (.str "sign" :: xs) → xs.length ≠ 1 → Fm K H (.ref a)
  | sgn {a : Addr} {x : V} : SqT K H a [.str "sign", x] → Kd H x → isNameV x = false → Fm K H (.ref a)
  | manyL {a : Addr} {w : Str} {xs : List V} : w ∈ (["and", "or"] : List Str) → SqT K H a (.str w :: xs) → xs.length ≠ 1 → Fm K H (.ref a)
  | manyN {a : Addr} {w : Str} {x : V} : w ∈ (["and", "or"] : List Str) → SqT K H a [.str w, x] → Kd H x → isTy H "tuple" x = false → Fm K H (.ref a)
  | witL {a : Addr} {xs : List V} : SqT K H a (.str "within" :: xs) → xs.length ≠ 3 → Fm K H (.ref a)
  | witN {a : Addr} {x y z : V} : SqT K H a [.str "within", x, y, z] → Kd H x → isIntV x = false → Fm K H (.ref a)
  | witM {a : Addr} {m : Int} {y z : V} : SqT K H a [.str "within", .int m, y, z] → ¬ (0 ≤ m ∧ m ≤ 5) → Fm K H (.ref a)
  | word {a : Addr} {w : Str} {xs : List V} : SqT K H a (.str w :: xs) → w ∈ (["signs", "Next"] : List Str) → Fm K H (.ref a)
  | lens {a : Addr} {w : Str} {i : Int} {xs : List V} : SqT K H a (.str w :: xs) → w ∉ NW → (w, i) ∈ LK → ((xs.length + 1 : Nat) : Int) ≠ i → Fm K H (.ref a)
/-! ### sentences with something in them that is none -/
inductive Bt where
  | lf
  | nd (c : Lb) (ks : List Bt)

mutual
def bsz : Bt → Nat
  | .lf => 1
  | .nd _ ks => bszL ks + 1
def bszL : List Bt → Nat
  | [] => 0
  | b :: r => bsz b + bszL r
end
/-- as lbOk, with more room behind and, or -/
def lbOkB : Lb → Nat → Prop
  | .yes, n => lbOk .yes n
  | .sign s, n => lbOk (.sign s) n
  | .op w, n => lbOk (.op w) n
  | .wit m, n => lbOk (.wit m) n
  | .many w, n => (w = "and" ∨ w = "or") ∧ n ≤ 1000
theorem lbOk.b {c : Lb} {n : Nat} (h : lbOk c n) : lbOkB c n := by
  cases c with
  | many w => exact ⟨h.1, Nat.le_trans h.2 (by decide)⟩
  | yes => exact h
  | sign s => exact h
  | op w => exact h
  | wit m => exact h


/-- what is_formed says True of -/
def FmT (K : PySem.W.Frag) (H : Hp) (v : V) : Prop := ∃ a us c, v = .ref a ∧ Shape K H a us c ∧ lbOkB c us.length
theorem At.fmT {K : PySem.W.Frag} {H : Hp} {n : Nat} {v : V} {t : Tr} (h : At K n H v t) : FmT K H v := by
  cases n with
  | zero => exact h.elim
  | succ n =>
    obtain ⟨a, vs, e, sh, ok, l, _⟩ := h
    exact ⟨a, vs, t.lb, e, sh, by rw [l]; exact ok.b⟩
/-- x in a dict of the module: yes or no -/
inductive rInD2_R (K : PySem.W.Frag) (P : Params) (x : V) (y : V) (H : Hp) (Q : VK) : Prop
  | mk (z : _) (D : _) (kvs : _) (b : _) (h0 : x = .str z) (h1 : y = .ref D) (h2 : DicK K P D kvs) (h3 : ((b = true ∧ ∃ i, (z, i) ∈ kvs) ∨ (b = false ∧ PySem.W.nsIn K D z = some none))) (h4 : Q (.bl b) H) : rInD2_R K P x y H Q
def rInD2 (K : PySem.W.Frag) (P : Params) : R2 := fun x y H Q => rInD2_R K P x y H Q
theorem op_inD2 {X : Cx} {K : PySem.W.Frag} {P : Params} (hK : X.K = K) (hw : X.w.params = P) : OpR X (compareOp .In) (rInD2 K P) := by
  subst hK hw
  intro pins s σ H x y v u Q I rx ry h
  obtain ⟨z, D, kvs, b, rfl, rfl, d, hb, q⟩ := h
  obtain ⟨t, rfl⟩ := (show ∃ t, v = Value.str z t from rx)
  obtain rfl : u = Value.ref D := ry
  obtain ⟨m, F⟩ := I.fr
  obtain ⟨es, n, lk, hk⟩ := d.ex
  rcases hb with ⟨rfl, i, hm⟩ | ⟨rfl, ea⟩
  · obtain ⟨t2, ea⟩ := d.at_ _ hm
    exact PySem.W.topIn_K F I.mod.kin lk hk ea d.lo ⟨.bl true, H, I.tok _, rfl, q⟩
  · exact PySem.W.topIn_K F I.mod.kin lk hk ea d.lo ⟨.bl false, H, I.tok _, rfl, q⟩
theorem qN {p : Prop} [Decidable p] {Q : VK} {H : Hp} (h : ¬ p) (q : Q (.bl false) H) : Q (.bl (decide p)) H := by rw [decide_eq_false h]; exact q
end L3

set_option Elab.async false
set_option linter.all false
set_option maxRecDepth 100000
set_option maxHeartbeats 4000000
namespace L3
open PySem PySem.Spec L2
/-! ### k12: where something that is none is put in -/
end L3

set_option Elab.async false
set_option linter.all false
set_option maxRecDepth 100000
set_option maxHeartbeats 4000000
namespace L3
open PySem PySem.Spec PyProof.Rows L2
/-! ### sentences as texts -/
abbrev HD9 : List Str := ["not", "next", "always", "ever", "before", "once", "sofar", "all", "some"]
abbrev BES : List Str := ["until", "since", "and", "or", "within", "0", "1", "2", "3", "4", "5"]
def plainS (z : Str) : Prop := isNameS z = true ∧ z ≠ "yes" ∧ z ∉ HD9 ∧ z ∉ BES
def wlF {α : Type} (q : Str → α) (c : Lb) (ws : List α) (d : α) : List α := match c with
  | .yes => [q "yes"]
  | .sign z => [q z]
  | .op w => if w ∈ W2 then [q "(", ws.getD 0 d, q w, ws.getD 1 d, q ")"] else q w :: ws
  | .wit m => [q "(", ws.getD 0 d, q "within", q (strI m), ws.getD 1 d, q ")"]
  | .many w => [q "(", q w] ++ ws ++ [q ")"]
def wwF (c : Lb) (ts : List Str) : List Str := wlF id c ts Str.empty
def wdF (c : Lb) (ws : List (List Str)) : List Str := (wlF (fun z => [z]) c ws []).flatten
def txF (c : Lb) (ts : List Str) : Str := Str.join " " (wwF c ts)
def wds : Tr → List Str := valT wdF
def txt : Tr → Str := valT txF
theorem wds_eq (t : Tr) : wds t = wdF t.lb (t.ks.map wds) := valT_eq wdF t
theorem txt_eq (t : Tr) : txt t = txF t.lb (t.ks.map txt) := valT_eq txF t
theorem wlF_map {α β : Type} {q : Str → α} {p : Str → β} (f : α → β) (h : ∀ z, f (q z) = p z) (c : Lb) (ws : List α) (d : α) : (wlF q c ws d).map f = wlF p c (ws.map f) (f d) := by
  have g : ∀ i, (ws.map f).getD i (f d) = f (ws.getD i d) := fun i => by
    rw [List.getD_eq_getElem?_getD, List.getD_eq_getElem?_getD, List.getElem?_map]
    cases ws[i]? <;> rfl
  cases c with
  | yes => simp [wlF, h]
  | sign z => simp [wlF, h]
  | wit m => simp [wlF, h, g]
  | many w => simp [wlF, h]
  | op w =>
    simp only [wlF]
    split
    · simp [h, g]
    · simp [h]
theorem join_app (c : Nat) : ∀ {a b : List Str}, a ≠ [] → b ≠ [] → (Str.join ⟨#[c]⟩ (a ++ b)).cps.toList = (Str.join ⟨#[c]⟩ a).cps.toList ++ c :: (Str.join ⟨#[c]⟩ b).cps.toList
  | [], _, h, _ => absurd rfl h
  | [x], y :: r, _, _ => join_two c x y r
  | [x], [], _, h => absurd rfl h
  | x :: y :: r, b, _, hb => by
    have := join_app c (a := y :: r) (by simp) hb
    show (Str.join ⟨#[c]⟩ (x :: y :: (r ++ b))).cps.toList = _
    rw [join_two, join_two]
    rw [show y :: (r ++ b) = (y :: r) ++ b from rfl, this]
    simp
theorem join_flat (c : Nat) : ∀ {L : List (List Str)}, L ≠ [] → (∀ l ∈ L, l ≠ []) → Str.join ⟨#[c]⟩ (L.map (Str.join ⟨#[c]⟩)) = Str.join ⟨#[c]⟩ L.flatten
  | [], h, _ => absurd rfl h
  | [l], _, _ => by simp; rfl
  | l :: l2 :: r, _, h => by
    have ih := join_flat c (L := l2 :: r) (by simp) fun x hx => h x (List.mem_cons_of_mem _ hx)
    have hf : (l2 :: r).flatten ≠ [] := by
      have := h l2 (by simp)
      intro e
      rw [List.flatten_cons, List.append_eq_nil_iff] at e
      exact this e.1
    apply str_ext
    show (Str.join ⟨#[c]⟩ (Str.join ⟨#[c]⟩ l :: Str.join ⟨#[c]⟩ l2 :: r.map _)).cps.toList = _
    rw [join_two, List.flatten_cons, join_app c (h l (by simp)) hf, ← ih]
    rfl
theorem wdF_ne {c : Lb} {ws : List (List Str)} : wdF c ws ≠ [] := by
  unfold wdF
  cases c with
  | yes => simp [wlF]
  | sign z => simp [wlF]
  | wit m => simp [wlF]
  | many w => simp [wlF]
  | op w =>
    simp only [wlF]
    split <;> simp
theorem wds_ne (t : Tr) : wds t ≠ [] := by rw [wds_eq]; exact wdF_ne
/-- as OkN, and all signs plain -/
def PlN : Nat → Tr → Prop
  | 0, _ => False
  | n + 1, t => lbOk t.lb t.ks.length ∧ (∀ z, t.lb = .sign z → plainS z) ∧ ∀ k ∈ t.ks, PlN n k
theorem wl_ne {c : Lb} {n : Nat} {ts : List Tr} (ok : lbOk c ts.length) : ∀ l ∈ wlF (fun z => [z]) c (ts.map wds) [], l ≠ [] := by
  have hk : ∀ l ∈ ts.map wds, l ≠ [] := fun l hl => by
    obtain ⟨t, _, rfl⟩ := List.mem_map.mp hl
    exact wds_ne t
  have g : ∀ i, i < ts.length → (ts.map wds).getD i [] ≠ [] := fun i hi => by
    rw [List.getD_eq_getElem?_getD, List.getElem?_map, List.getElem?_eq_getElem hi]
    exact wds_ne _
  cases c with
  | yes => intro l hl; simp [wlF] at hl; rw [hl]; simp
  | sign z => intro l hl; simp [wlF] at hl; rw [hl]; simp
  | wit m =>
    have h2 : ts.length = 2 := ok.2
    have g0 := g 0 (by omega)
    have g1 := g 1 (by omega)
    intro l hl
    simp only [wlF, List.mem_cons, List.not_mem_nil, or_false] at hl
    rcases hl with rfl | rfl | rfl | rfl | rfl | rfl
    · simp
    · exact g0
    · simp
    · simp
    · exact g1
    · simp
  | many w =>
    intro l hl
    simp only [wlF, List.mem_append, List.mem_cons, List.not_mem_nil, or_false] at hl
    rcases hl with ((rfl | rfl) | hl) | rfl
    · simp
    · simp
    · exact hk l hl
    · simp
  | op w =>
    intro l hl
    simp only [wlF] at hl
    split at hl
    · rename_i hw
      have h2 : ts.length = 2 := by
        rcases ok with ⟨h1, _⟩ | ⟨_, h⟩
        · exact absurd hw ((by decide +kernel : ∀ w ∈ W1, w ∉ W2) w h1)
        · exact h
      have g0 := g 0 (by omega)
      have g1 := g 1 (by omega)
      simp only [List.mem_cons, List.not_mem_nil, or_false] at hl
      rcases hl with rfl | rfl | rfl | rfl | rfl
      · simp
      · exact g0
      · simp
      · exact g1
      · simp
    · rcases List.mem_cons.mp hl with rfl | hl
      · simp
      · exact hk l hl
theorem wlF_ne {α : Type} {q : Str → α} {c : Lb} {ws : List α} {d : α} : wlF q c ws d ≠ [] := by
  cases c with
  | yes => simp [wlF]
  | sign z => simp [wlF]
  | wit m => simp [wlF]
  | many w => simp [wlF]
  | op w =>
    simp only [wlF]
    split <;> simp
theorem txt_wds : ∀ {n : Nat} {t : Tr}, PlN n t → txt t = Str.join " " (wds t)
  | 0, _, h => h.elim
  | n + 1, t, ⟨ok, _, hk⟩ => by
    have ih : t.ks.map txt = (t.ks.map wds).map (Str.join " ") := by
      rw [List.map_map]
      exact List.map_congr_left fun k h => txt_wds (hk k h)
    rw [txt_eq, wds_eq, txF, wwF, wdF, ih]
    have h2 := wlF_map (q := fun z => [z]) (p := id) (Str.join " ") (fun z => rfl) t.lb (t.ks.map wds) []
    rw [show Str.join " " ([] : List Str) = Str.empty from rfl] at h2
    rw [← h2, sp32]
    exact join_flat 32 wlF_ne (wl_ne (n := n) ok)
/-! every word: short, without a blank -/
def okW (z : Str) : Prop := z.length ≤ 8 ∧ free 32 z
theorem name_okW {z : Str} (h : isNameS z = true) : okW z := ⟨name_short h, low_free (name_low h) (by decide)⟩
theorem ws_okW : ∀ z ∈ ((["yes", "(", ")", "within", "and", "or"] : List Str) ++ W1 ++ W2), okW z := by
  have : ∀ z ∈ ((["yes", "(", ")", "within", "and", "or"] : List Str) ++ W1 ++ W2), z.length ≤ 8 ∧ z.cps.toList.all (fun c => decide (c ≠ 32)) = true := by decide +kernel
  intro z hz
  obtain ⟨h1, h2⟩ := this z hz
  refine ⟨h1, fun hm => ?_⟩
  have := List.all_eq_true.mp h2 32 hm
  simp at this
theorem num_okW {m : Int} (h : 0 ≤ m ∧ m ≤ 5) : okW (strI m) := ⟨by have := (num_facts h.1 (by omega : m < 20)).1; omega, num_free h.1 (by omega) (by decide)⟩
theorem wds_okW : ∀ {n : Nat} {t : Tr}, PlN n t → ∀ w ∈ wds t, okW w
  | 0, _, h => h.elim
  | n + 1, t, ⟨ok, pl, hk⟩ => by
    have ih : ∀ l ∈ t.ks.map wds, ∀ w ∈ l, okW w := fun l hl => by
      obtain ⟨k, hk2, rfl⟩ := List.mem_map.mp hl
      exact wds_okW (hk k hk2)
    have g : ∀ i w, w ∈ (t.ks.map wds).getD i [] → okW w := fun i w hw => by
      rw [List.getD_eq_getElem?_getD] at hw
      cases e : (t.ks.map wds)[i]? with
      | none => rw [e] at hw; simp at hw
      | some l => rw [e] at hw; exact ih l (List.mem_of_getElem? e) w hw
    rw [wds_eq]
    intro w hw
    obtain ⟨l, hl, hwl⟩ := List.mem_flatten.mp hw
    revert hl ok pl
    generalize t.lb = c
    generalize t.ks.map wds = L at ih g
    cases c with
    | yes => intro ok pl hl; simp [wlF] at hl; subst hl; rw [List.mem_singleton.mp hwl]; exact ws_okW _ (by simp)
    | sign z => intro ok pl hl; simp [wlF] at hl; subst hl; rw [List.mem_singleton.mp hwl]; exact name_okW (pl z rfl).1
    | wit m =>
      intro ok pl hl
      simp only [wlF, List.mem_cons, List.not_mem_nil, or_false] at hl
      rcases hl with rfl | rfl | rfl | rfl | rfl | rfl
      · rw [List.mem_singleton.mp hwl]; exact ws_okW _ (by simp)
      · exact g 0 w hwl
      · rw [List.mem_singleton.mp hwl]; exact ws_okW _ (by simp)
      · rw [List.mem_singleton.mp hwl]; exact num_okW ok.1
      · exact g 1 w hwl
      · rw [List.mem_singleton.mp hwl]; exact ws_okW _ (by simp)
    | many wd =>
      intro ok pl hl
      simp only [wlF, List.mem_append, List.mem_cons, List.not_mem_nil, or_false] at hl
      rcases hl with ((rfl | rfl) | hl) | rfl
      · rw [List.mem_singleton.mp hwl]; exact ws_okW _ (by simp)
      · rw [List.mem_singleton.mp hwl]; rcases ok.1 with rfl | rfl <;> exact ws_okW _ (by simp)
      · exact ih l hl w hwl
      · rw [List.mem_singleton.mp hwl]; exact ws_okW _ (by simp)
    | op wd =>
      intro ok pl hl
      have hwd : okW wd := ws_okW _ (by rcases ok with ⟨h, _⟩ | ⟨h, _⟩ <;> simp [h])
      simp only [wlF] at hl
      split at hl
      · simp only [List.mem_cons, List.not_mem_nil, or_false] at hl
        rcases hl with rfl | rfl | rfl | rfl | rfl
        · rw [List.mem_singleton.mp hwl]; exact ws_okW _ (by simp)
        · exact g 0 w hwl
        · rw [List.mem_singleton.mp hwl]; exact hwd
        · exact g 1 w hwl
        · rw [List.mem_singleton.mp hwl]; exact ws_okW _ (by simp)
      · rcases List.mem_cons.mp hl with rfl | hl
        · rw [List.mem_singleton.mp hwl]; exact hwd
        · exact ih l hl w hwl
theorem join_len9 (c : Nat) : ∀ {ws : List Str}, (∀ w ∈ ws, w.length ≤ 8) → (Str.join ⟨#[c]⟩ ws).length ≤ 9 * ws.length
  | [], _ => by show (Str.empty).length ≤ _; simp [Str.empty, Str.length]
  | [x], h => by have := h x (by simp); show x.length ≤ _; simp; omega
  | x :: y :: r, h => by
    have ih := join_len9 c (ws := y :: r) fun w hw => h w (List.mem_cons_of_mem _ hw)
    have h1 := h x (by simp)
    have e : (Str.join ⟨#[c]⟩ (x :: y :: r)).length = x.length + 1 + (Str.join ⟨#[c]⟩ (y :: r)).length := by
      have := congrArg List.length (join_two c x y r)
      rw [List.length_append, List.length_cons] at this
      simp only [Array.length_toList] at this
      unfold Str.length
      omega
    rw [e, List.length_cons]
    omega
theorem wds_len : ∀ {n : Nat} {t : Tr}, PlN n t → (wds t).length ≤ 4 * psz t
  | 0, _, h => h.elim
  | n + 1, t, ⟨ok, pl, hk⟩ => by
    have ih : ((t.ks.map wds).map List.length).sum ≤ 4 * (t.ks.map psz).sum := by
      have : ∀ ks : List Tr, (∀ k ∈ ks, (wds k).length ≤ 4 * psz k) → ((ks.map wds).map List.length).sum ≤ 4 * (ks.map psz).sum := by
        intro ks
        induction ks with
        | nil => intro _; simp
        | cons a r ih2 =>
          intro h
          have h1 := h a (by simp)
          have h2 := ih2 fun k hk => h k (List.mem_cons_of_mem _ hk)
          simp only [List.map_cons, List.sum_cons] at h2 ⊢
          omega
      exact this _ fun k h => wds_len (hk k h)
    rw [psz_eq, wds_eq, wdF, List.length_flatten]
    have hl : t.ks.length = (t.ks.map wds).length := by simp
    rw [hl] at ok
    revert ok ih
    generalize t.lb = c
    generalize t.ks.map wds = L
    intro ok ih
    have two : L.length = 2 → L = [L.getD 0 [], L.getD 1 []] := fun h => by
      match L, h with
      | [a, b], _ => rfl
    cases c with
    | yes => simp [wlF]; omega
    | sign z => simp [wlF]; omega
    | wit m =>
      rw [two ok.2] at ih
      simp [wlF] at ih ⊢
      omega
    | many wd =>
      simp [wlF]
      omega
    | op wd =>
      simp only [wlF]
      split
      · rename_i hw
        have h2 : L.length = 2 := by
          rcases ok with ⟨h1, _⟩ | ⟨_, h⟩
          · exact absurd hw ((by decide +kernel : ∀ w ∈ W1, w ∉ W2) wd h1)
          · exact h
        rw [two h2] at ih
        simp at ih ⊢
        omega
      · simp
        omega
theorem txt_len {n : Nat} {t : Tr} (h : PlN n t) : (txt t).length ≤ 36 * psz t := by
  rw [txt_wds h, sp32]
  have h1 := join_len9 32 fun w hw => (wds_okW h w hw).1
  have h2 := wds_len h
  omega
theorem txt_split {n : Nat} {t : Tr} (h : PlN n t) : Txt.split (txt t) " " = wds t := by
  rw [txt_wds h, sp32]
  exact split_join (wds_ne t) fun w hw => (wds_okW h w hw).2
/-! ### read again -/
inductive BI where
  | w (s : Str)
  | t (t : Tr)
inductive WI where
  | hd (s : Str)
  | br (xs : List BI)
def takeS : List WI → Tr → List WI × Option Tr
  | [], t => ([], some t)
  | .hd w :: r, t => takeS r (.node (.op w) [t])
  | .br xs :: r, t => (.br (xs ++ [.t t]) :: r, none)
inductive Brk : List BI → Tr → Prop
  | many {w : Str} (hw : w = "and" ∨ w = "or") (ks : List Tr) (hk : ks.length ≤ 400) : Brk (.w w :: ks.map .t) (.node (.many w) ks)
  | two {w : Str} (hw : w ∈ W2) (a b : Tr) : Brk [.t a, .w w, .t b] (.node (.op w) [a, b])
  | wit {m : Int} (hm : 0 ≤ m ∧ m ≤ 5) (a b : Tr) : Brk [.t a, .w "within", .w (strI m), .t b] (.node (.wit m) [a, b])
inductive Tk : Str → List WI → List WI × Option Tr → Prop
  | hd {w : Str} {st : List WI} (h : w ∈ HD9) : Tk w st (.hd w :: st, none)
  | op {st : List WI} : Tk "(" st (.br [] :: st, none)
  | cl {xs : List BI} {t : Tr} {st : List WI} (h : Brk xs t) : Tk ")" (.br xs :: st) (takeS st t)
  | be {w : Str} {xs : List BI} {st : List WI} (h : w ∈ BES) : Tk w (.br xs :: st) (.br (xs ++ [.w w]) :: st, none)
  | yes {st : List WI} : Tk "yes" st (takeS st (.node .yes []))
  | sg {z : Str} {st : List WI} (h : plainS z) : Tk z st (takeS st (.node (.sign z) []))
inductive Runs : List Str → List WI × Option Tr → List WI × Option Tr → Prop
  | nil {s : List WI × Option Tr} : Runs [] s s
  | cons {w : Str} {ws : List Str} {st : List WI} {s1 s2 : List WI × Option Tr} (h : Tk w st s1) (r : Runs ws s1 s2) : Runs (w :: ws) (st, none) s2
theorem dig_bes {m : Int} (h : 0 ≤ m ∧ m ≤ 5) : strI m ∈ BES := by
  rcases (show m = 0 ∨ m = 1 ∨ m = 2 ∨ m = 3 ∨ m = 4 ∨ m = 5 by omega) with rfl | rfl | rfl | rfl | rfl | rfl <;> decide +kernel
theorem reads : ∀ {n : Nat} {t : Tr}, PlN n t → ∀ (st : List WI) (rest : List Str) (fin : List WI × Option Tr), Runs rest (takeS st t) fin → Runs (wds t ++ rest) (st, none) fin
  | 0, _, h => h.elim
  | n + 1, .node c ks, ⟨ok, pl, hk⟩ => by
    intro st rest fin hr
    have ok' : lbOk c ks.length := ok
    have hk' : ∀ k ∈ ks, PlN n k := hk
    rw [wds_eq]
    show Runs (wdF c (ks.map wds) ++ rest) (st, none) fin
    unfold wdF
    clear ok hk
    cases c with
    | yes =>
      have h0 : ks = [] := List.length_eq_zero_iff.mp ok'
      subst h0
      exact .cons .yes hr
    | sign z =>
      have h0 : ks = [] := List.length_eq_zero_iff.mp ok'.1
      subst h0
      exact .cons (.sg (pl z rfl)) hr
    | wit m =>
      match ks, ok', hk', hr with
      | [a, b], ok', hk', hr =>
        have ra := reads (hk' a (by simp))
        have rb := reads (hk' b (by simp))
        simp only [wlF, List.map_cons, List.map_nil, List.getD_cons_zero, List.getD_cons_succ, List.flatten_cons, List.flatten_nil, List.append_assoc, List.cons_append, List.nil_append, List.append_nil]
        refine .cons .op (ra _ _ _ ?_)
        refine .cons (.be (xs := [.t a]) (by decide +kernel)) (.cons (.be (dig_bes ok'.1)) (rb _ _ _ ?_))
        exact .cons (.cl (.wit ok'.1 a b)) hr
    | many w =>
      simp only [wlF, List.flatten_append, List.flatten_cons, List.flatten_nil, List.append_assoc, List.cons_append, List.nil_append, List.append_nil]
      refine .cons .op (.cons (.be (xs := []) (by rcases ok'.1 with rfl | rfl <;> decide +kernel)) ?_)
      have key : ∀ (js : List Tr) (pre : List BI), (∀ k ∈ js, PlN n k) → Runs ((")" : Str) :: rest) (.br (pre ++ js.map BI.t) :: st, none) fin → Runs ((js.map wds).flatten ++ ((")" : Str) :: rest)) (.br pre :: st, none) fin := by
        intro js
        induction js with
        | nil => intro pre _ h; simpa using h
        | cons a r ih =>
          intro pre hj h
          rw [List.map_cons, List.flatten_cons, List.append_assoc]
          refine reads (hj a (by simp)) _ _ _ ?_
          refine ih (pre ++ [.t a]) (fun k hk => hj k (List.mem_cons_of_mem _ hk)) ?_
          rw [List.append_assoc]
          exact h
      exact key ks [.w w] hk' (.cons (.cl (.many ok'.1 ks ok'.2)) hr)
    | op w =>
      by_cases hw : w ∈ W2
      · have h2 : ks.length = 2 := by
          rcases ok' with ⟨h1, _⟩ | ⟨_, h⟩
          · exact absurd hw ((by decide +kernel : ∀ w ∈ W1, w ∉ W2) w h1)
          · exact h
        match ks, h2, hk', hr with
        | [a, b], _, hk', hr =>
          have ra := reads (hk' a (by simp))
          have rb := reads (hk' b (by simp))
          simp only [wlF, if_pos hw, List.map_cons, List.map_nil, List.getD_cons_zero, List.getD_cons_succ, List.flatten_cons, List.flatten_nil, List.append_assoc, List.cons_append, List.nil_append, List.append_nil]
          refine .cons .op (ra _ _ _ ?_)
          refine .cons (.be (xs := [.t a]) ((by decide +kernel : ∀ w ∈ W2, w ∈ BES) w hw)) (rb _ _ _ ?_)
          exact .cons (.cl (.two hw a b)) hr
      · have h1 : w ∈ W1 ∧ ks.length = 1 := by
          rcases ok' with h | ⟨h, _⟩
          · exact h
          · exact absurd h hw
        match ks, h1.2, hk', hr with
        | [a], _, hk', hr =>
          have ra := reads (hk' a (by simp))
          simp only [wlF, if_neg hw, List.map_cons, List.map_nil, List.flatten_cons, List.flatten_nil, List.append_assoc, List.cons_append, List.nil_append, List.append_nil]
          exact .cons (.hd ((by decide +kernel : ∀ w ∈ W1, w ∈ HD9) w h1.1)) (ra _ _ _ hr)
theorem reads_all {n : Nat} {t : Tr} (h : PlN n t) : Runs (wds t) ([], none) ([], some t) := by
  have := reads h [] [] ([], some t) .nil
  rwa [List.append_nil] at this
end L3

set_option Elab.async false
set_option linter.all false
set_option maxRecDepth 100000
set_option maxHeartbeats 4000000
namespace L3
open PySem PySem.Spec PyProof.Rows L2
/-! ### a list's iteration, and a comprehension, within an except suite -/
section
variable {prog : Program} {w : PySem.World} {A : Around} {E : Value → Shared → Prop} {s : Shared}
end
structure TurnH (x : Addr) (P : Program) (w : PySem.World) (K : PySem.W.Frag) (tg : Expr) (J : It) (fp : List Addr) (it : Addr) (tn : Nat → Heap → Prop) : Prop where
  obj : ∀ i h, tn i h → ∀ b ∈ fp, ∃ o, h.get? b = some o ∧ ∀ v, o.data ≠ .cell v
  keep : ∀ i h h', tn i h → (∀ b ∈ fp, ∀ o, h.get? b = some o → h'.get? b = some o) → tn i h'
  item : ∀ (X : Cx), X.prog = P → X.w = w → X.K = K → X.A.handled = some (.ref x) → ∀ (i : Nat) (pins : List (Addr × Obj)) (s : Shared) (σ : L2.St) (H : Hp) (E : Value → Shared → Prop), L2.Inv X pins σ H s → (∀ b ∈ fp, FpOk X pins H b) → tn i s.heap → J.go i H →
    wpAny (model P w) X.A (pyNext (.ref it)) (fun r s1 => ∃ u, r = some u ∧
      wpAny (model P w) X.A (letOwnedTupleGo tg (.ref it) u) (fun _ s2 => ∃ x H', L2.Inv X pins σ H' s2 ∧ RelV x u ∧ J.yld i H x H' ∧ tn (i + 1) s2.heap ∧ ∀ b ∈ fp, H' b = none) E s1) E s
  done : ∀ (X : Cx), X.prog = P → X.w = w → X.K = K → X.A.handled = some (.ref x) → ∀ (i : Nat) (pins : List (Addr × Obj)) (s : Shared) (σ : L2.St) (H : Hp) (E : Value → Shared → Prop), L2.Inv X pins σ H s → (∀ b ∈ fp, FpOk X pins H b) → tn i s.heap → J.stop i H →
    wpAny (model P w) X.A (pyNext (.ref it)) (fun r s1 => r = none ∧ L2.Inv X pins σ H s1) E s
  self : ∀ (A : Around) (i : Nat) (s : Shared) (Q : Value → Shared → Prop) (E : Value → Shared → Prop), tn i s.heap → Q (.ref it) s → wpAny (model P w) A (pyIter (.ref it)) Q E s
section
variable {X : Cx} {pins : List (Addr × Obj)} {σ : L2.St} {H : Hp} {s : Shared} {Nc : List Str} {ix : List (Option Nat)} {scope : Scope}
end
end L3

set_option Elab.async false
set_option linter.all false
set_option maxRecDepth 100000
set_option maxHeartbeats 4000000
namespace L3
open PySem PySem.Spec PyProof.Rows L2
/-! ### the names of a sentence -/
def sgF (c : Lb) (ws : List (List Str)) : List Str := match c with
  | .sign z => [z]
  | _ => ws.flatten
def sgs : Tr → List Str := valT sgF
theorem sgs_eq (t : Tr) : sgs t = sgF t.lb (t.ks.map sgs) := valT_eq sgF t
section
variable {ss : List Str}
theorem sg_sign {z : Str} (h : z ∈ ss) : ∀ x ∈ sgs (.node (.sign z) []), x ∈ ss := fun x hx => by
  rw [sgs_eq] at hx
  have e : x = z := by simpa [sgF, Tr.lb] using hx
  rw [e]; exact h
theorem sg_yes : ∀ x ∈ sgs (.node .yes []), x ∈ ss := fun x hx => by
  rw [sgs_eq] at hx
  exact absurd hx (by simp [sgF, Tr.lb, Tr.ks])
theorem sgs_node {c : Lb} {ks : List Tr} (hc : ∀ z, c ≠ .sign z) : sgs (.node c ks) = (ks.map sgs).flatten := by
  rw [sgs_eq]
  cases c with
  | sign z => exact absurd rfl (hc z)
  | _ => rfl
theorem sg_node {c : Lb} {ks : List Tr} (hc : ∀ z, c ≠ .sign z) (h : ∀ k ∈ ks, ∀ z ∈ sgs k, z ∈ ss) : ∀ x ∈ sgs (.node c ks), x ∈ ss := fun x hx => by
  rw [sgs_node hc] at hx
  obtain ⟨l, hl, hx⟩ := List.mem_flatten.mp hx
  obtain ⟨k, hk, rfl⟩ := List.mem_map.mp hl
  exact h k hk x hx
theorem sg_one {t : Tr} (h : ∀ z ∈ sgs t, z ∈ ss) : ∀ k ∈ [t], ∀ z ∈ sgs k, z ∈ ss := fun k hk => by
  cases List.mem_singleton.mp hk
  exact h
theorem sg_app {a b : List Tr} (h : ∀ k ∈ a, ∀ z ∈ sgs k, z ∈ ss) (h2 : ∀ k ∈ b, ∀ z ∈ sgs k, z ∈ ss) : ∀ k ∈ a ++ b, ∀ z ∈ sgs k, z ∈ ss := fun k hk => (List.mem_append.mp hk).elim (h k) (h2 k)
theorem sg_two {a b : Tr} (h : ∀ z ∈ sgs a, z ∈ ss) (h2 : ∀ z ∈ sgs b, z ∈ ss) : ∀ k ∈ [a, b], ∀ z ∈ sgs k, z ∈ ss := sg_app (sg_one h) (sg_one h2)
end
theorem pl_of {K : PySem.W.Frag} : ∀ {n : Nat} {H : Hp} {v : V} {t : Tr}, At K n H v t → (∀ z ∈ sgs t, plainS z) → PlN n t
  | 0, _, _, _, h, _ => h.elim
  | n + 1, H, v, t, h, g => by
    obtain ⟨a, vs, rfl, sh, ok, hl, kids⟩ := h
    refine ⟨ok, fun z hz => g z (by rw [sgs_eq, hz]; simp [sgF]), fun k hk => ?_⟩
    obtain ⟨i, hi, e⟩ := List.getElem_of_mem hk
    have hu : i < vs.length := by omega
    refine pl_of (kids i vs[i] k (by simp [hu]) (by rw [← e]; simp [hi])) fun z hz => g z ?_
    obtain ⟨c, ks⟩ := t
    have hc : ∀ z, c ≠ .sign z := fun z e => by
      subst e
      have : ks.length = 0 := ok.1
      have hk' : k ∈ ks := hk
      rw [List.length_eq_zero_iff.mp this] at hk'
      cases hk'
    rw [sgs_node hc]
    exact List.mem_flatten.mpr ⟨_, List.mem_map.mpr ⟨k, hk, rfl⟩, hz⟩
theorem PlN.up : ∀ {n : Nat} {t : Tr}, PlN n t → PlN (n + 1) t
  | 0, _, h => h.elim
  | n + 1, t, ⟨a, b, c⟩ => ⟨a, b, fun k hk => PlN.up (c k hk)⟩
theorem mem_postLf : ∀ {ks : List Tr} {s : Tr}, s ∈ postL ks → ∃ k ∈ ks, s ∈ post k
  | [], _, h => by rw [postL] at h; cases h
  | t :: r, s, h => by
    rw [postL, List.mem_append] at h
    rcases h with h | h
    · exact ⟨t, by simp, h⟩
    · obtain ⟨k, hk, hs⟩ := mem_postLf h
      exact ⟨k, by simp [hk], hs⟩
theorem psz_kid {c : Lb} {ks : List Tr} {k : Tr} (h : k ∈ ks) : psz k ≤ psz (.node c ks) := by
  rw [psz_node]
  have key : ∀ ks : List Tr, k ∈ ks → psz k ≤ (ks.map psz).sum := by
    intro ks
    induction ks with
    | nil => intro z; cases z
    | cons x r ih =>
      intro z
      rw [List.map_cons, List.sum_cons]
      rcases List.mem_cons.mp z with rfl | z
      · omega
      · have := ih z; omega
  have := key ks h
  omega
theorem pl_post : ∀ {n : Nat} {t : Tr}, PlN n t → ∀ r ∈ post t, PlN n r ∧ psz r ≤ psz t
  | 0, _, h => h.elim
  | n + 1, .node c ks, h => fun r hr => by
    rw [post, List.mem_append] at hr
    rcases hr with hr | hr
    · obtain ⟨k, hk, hr⟩ := mem_postLf hr
      obtain ⟨q1, q2⟩ := pl_post (h.2.2 k hk) r hr
      exact ⟨q1.up, Nat.le_trans q2 (psz_kid hk)⟩
    · cases List.mem_singleton.mp hr
      exact ⟨h, Nat.le_refl _⟩
theorem ww_len {c : Lb} {ts : List Str} (ok : lbOk c ts.length) : (wwF c ts).length ≤ 403 := by
  cases c with
  | yes => exact (by decide : (1 : Nat) ≤ 403)
  | sign z => exact (by decide : (1 : Nat) ≤ 403)
  | op w =>
    show (if w ∈ W2 then _ else _ : List Str).length ≤ 403
    rcases ok with ⟨_, h⟩ | ⟨_, h⟩
    · split
      · simp
      · simp [h]
    · split
      · simp
      · simp [h]
  | wit m => exact (by decide : (6 : Nat) ≤ 403)
  | many w =>
    show ((([_, _] : List Str) ++ ts) ++ [_]).length ≤ 403
    have : ts.length ≤ 400 := ok.2
    simp
    omega
theorem ww_max {c : Lb} {ts : List Str} {B : Nat} (ok : lbOk c ts.length) (hB : 8 ≤ B) (h : ∀ x ∈ ts, x.length ≤ B) : ∀ x ∈ wwF c ts, x.length ≤ B := by
  have hw : ∀ z ∈ ((["yes", "(", ")", "within", "and", "or"] : List Str) ++ W1 ++ W2), z.length ≤ B := fun z hz => Nat.le_trans (ws_okW z hz).1 hB
  have g : ∀ i, (ts.getD i Str.empty).length ≤ B := fun i => by
    rw [List.getD_eq_getElem?_getD]
    cases e : ts[i]? with
    | none => exact Nat.zero_le _
    | some x => exact h x (List.mem_of_getElem? e)
  intro x hx
  cases c with
  | yes => cases List.mem_singleton.mp hx; exact hw _ (by decide +kernel)
  | sign z => cases List.mem_singleton.mp hx; exact Nat.le_trans (name_short ok.2) hB
  | op w =>
    change x ∈ (if w ∈ W2 then ([("(" : Str), ts.getD 0 Str.empty, w, ts.getD 1 Str.empty, (")" : Str)] : List Str) else w :: ts) at hx
    have hww : w.length ≤ B := hw w (by
      rcases ok with ⟨o, _⟩ | ⟨o, _⟩
      · exact List.mem_append_left _ (List.mem_append_right _ o)
      · exact List.mem_append_right _ o)
    split at hx
    · simp only [List.mem_cons, List.not_mem_nil, or_false] at hx
      rcases hx with rfl | rfl | rfl | rfl | rfl
      · exact hw _ (by decide +kernel)
      · exact g 0
      · exact hww
      · exact g 1
      · exact hw _ (by decide +kernel)
    · rcases List.mem_cons.mp hx with rfl | hx
      · exact hww
      · exact h x hx
  | wit m =>
    change x ∈ ([("(" : Str), ts.getD 0 Str.empty, ("within" : Str), strI m, ts.getD 1 Str.empty, (")" : Str)] : List Str) at hx
    simp only [List.mem_cons, List.not_mem_nil, or_false] at hx
    rcases hx with rfl | rfl | rfl | rfl | rfl | rfl
    · exact hw _ (by decide +kernel)
    · exact g 0
    · exact hw _ (by decide +kernel)
    · exact Nat.le_trans (num_okW ok.1).1 hB
    · exact g 1
    · exact hw _ (by decide +kernel)
  | many w =>
    change x ∈ ((([("(" : Str), w] : List Str) ++ ts) ++ ([(")" : Str)] : List Str)) at hx
    simp only [List.mem_append, List.mem_cons, List.not_mem_nil, or_false] at hx
    rcases hx with ((rfl | rfl) | hx) | rfl
    · exact hw _ (by decide +kernel)
    · rcases ok.1 with rfl | rfl <;> exact hw _ (by decide +kernel)
    · exact h x hx
    · exact hw _ (by decide +kernel)
end L3

set_option Elab.async false
set_option linter.all false
set_option maxRecDepth 100000
set_option maxHeartbeats 4000000
namespace L3
open PySem PySem.Spec PyProof.Rows L2
/-! ### the words of a sentence, from the left -/
def Pl (t : Tr) : Prop := ∃ n, PlN n t
theorem PlN.le {n m : Nat} {t : Tr} (h : PlN n t) (hm : n ≤ m) : PlN m t := by
  induction hm with
  | refl => exact h
  | step _ ih => exact ih.up
theorem pl_list {ks : List Tr} (h : ∀ k ∈ ks, Pl k) : ∃ n, ∀ k ∈ ks, PlN n k := by
  induction ks with
  | nil => exact ⟨0, fun k hk => by cases hk⟩
  | cons a r ih =>
    obtain ⟨n, hn⟩ := ih fun k hk => h k (List.mem_cons_of_mem _ hk)
    obtain ⟨m, hm⟩ := h a (by simp)
    refine ⟨n + m, fun k hk => ?_⟩
    rcases List.mem_cons.mp hk with rfl | hk
    · exact hm.le (by omega)
    · exact (hn k hk).le (by omega)
theorem Pl.node {c : Lb} {ks : List Tr} (ok : lbOk c ks.length) (hs : ∀ z, c = .sign z → plainS z) (h : ∀ k ∈ ks, Pl k) : Pl (.node c ks) := by
  obtain ⟨n, hn⟩ := pl_list h
  exact ⟨n + 1, ok, hs, hn⟩
theorem wds_node (c : Lb) (ks : List Tr) : wds (.node c ks) = wdF c (ks.map wds) := wds_eq _
theorem wds_yes : wds (.node .yes []) = [("yes" : Str)] := by rw [wds_node]; rfl
theorem wds_sign (z : Str) : wds (.node (.sign z) []) = [z] := by rw [wds_node]; rfl
theorem w1_w2 : ∀ w ∈ W1, w ∉ W2 := by decide +kernel
theorem wds_op1 {w : Str} {t : Tr} (h : w ∈ W1) : wds (.node (.op w) [t]) = w :: wds t := by
  rw [wds_node]
  simp [wdF, wlF, if_neg (w1_w2 w h)]
theorem wds_op2 {w : Str} {a b : Tr} (h : w ∈ W2) : wds (.node (.op w) [a, b]) = ("(" : Str) :: (wds a ++ w :: (wds b ++ [(")" : Str)])) := by
  rw [wds_node]
  simp [wdF, wlF, if_pos h]
theorem wds_wit {m : Int} {a b : Tr} : wds (.node (.wit m) [a, b]) = ("(" : Str) :: (wds a ++ ("within" : Str) :: strI m :: (wds b ++ [(")" : Str)])) := by
  rw [wds_node]
  simp [wdF, wlF]
theorem wds_many {w : Str} {ks : List Tr} : wds (.node (.many w) ks) = ("(" : Str) :: w :: ((ks.map wds).flatten ++ [(")" : Str)]) := by
  rw [wds_node]
  simp [wdF, wlF]
theorem hd_w1 : ∀ w ∈ HD9, w ∈ W1 := by decide +kernel
theorem w1_hd : ∀ w ∈ W1, w ∈ HD9 := by decide +kernel
theorem kids1 {t : List Tr} (h : t.length = 1) : ∃ a, t = [a] := by
  match t, h with
  | [a], _ => exact ⟨a, rfl⟩
theorem kids2 {t : List Tr} (h : t.length = 2) : ∃ a b, t = [a, b] := by
  match t, h with
  | [a, b], _ => exact ⟨a, b, rfl⟩
/-- the forms of a sentence of plain signs -/
inductive PlF : Tr → Prop
  | yes : PlF (.node .yes [])
  | sign {z : Str} (h : plainS z) : PlF (.node (.sign z) [])
  | op1 {w : Str} {t : Tr} (h : w ∈ W1) (ht : Pl t) : PlF (.node (.op w) [t])
  | op2 {w : Str} {a b : Tr} (h : w ∈ W2) (ha : Pl a) (hb : Pl b) : PlF (.node (.op w) [a, b])
  | wit {m : Int} {a b : Tr} (h : 0 ≤ m ∧ m ≤ 5) (ha : Pl a) (hb : Pl b) : PlF (.node (.wit m) [a, b])
  | many {w : Str} {ks : List Tr} (h : w = "and" ∨ w = "or") (hl : ks.length ≤ 400) (hk : ∀ k ∈ ks, Pl k) : PlF (.node (.many w) ks)
theorem Pl.form {t : Tr} (h : Pl t) : PlF t := by
  obtain ⟨n, h⟩ := h
  cases n with
  | zero => exact h.elim
  | succ n =>
  obtain ⟨c, ks⟩ := t
  obtain ⟨ok, pl, hk⟩ := h
  have ok' : lbOk c ks.length := ok
  have hk' : ∀ k ∈ ks, Pl k := fun k h => ⟨n, hk k h⟩
  cases c with
  | yes => cases List.length_eq_zero_iff.mp ok'; exact .yes
  | sign z => cases List.length_eq_zero_iff.mp ok'.1; exact .sign (pl z rfl)
  | op w =>
    rcases ok' with ⟨h1, h2⟩ | ⟨h1, h2⟩
    · obtain ⟨a, rfl⟩ := kids1 h2
      exact .op1 h1 (hk' a (by simp))
    · obtain ⟨a, b, rfl⟩ := kids2 h2
      exact .op2 h1 (hk' a (by simp)) (hk' b (by simp))
  | wit m =>
    obtain ⟨a, b, rfl⟩ := kids2 ok'.2
    exact .wit ok'.1 (hk' a (by simp)) (hk' b (by simp))
  | many w => exact .many ok'.1 ok'.2 hk'
theorem PlF.pl {t : Tr} (h : PlF t) : Pl t := by
  cases h with
  | yes => exact .node rfl (fun z e => by cases e) (fun k hk => by cases hk)
  | sign h => exact .node ⟨rfl, h.1⟩ (fun z e => by cases e; exact h) (fun k hk => by cases hk)
  | op1 h ht => exact .node (.inl ⟨h, rfl⟩) (fun z e => by cases e) (fun k hk => by cases List.mem_singleton.mp hk; exact ht)
  | op2 h ha hb => exact .node (.inr ⟨h, rfl⟩) (fun z e => by cases e) (fun k hk => by
      simp only [List.mem_cons, List.not_mem_nil, or_false] at hk
      rcases hk with rfl | rfl
      · exact ha
      · exact hb)
  | wit h ha hb => exact .node ⟨h, rfl⟩ (fun z e => by cases e) (fun k hk => by
      simp only [List.mem_cons, List.not_mem_nil, or_false] at hk
      rcases hk with rfl | rfl
      · exact ha
      · exact hb)
  | many h hl hk => exact .node ⟨h, hl⟩ (fun z e => by cases e) hk
/-! ### a word is taken in just one way -/
def treesOf : List BI → Option (List Tr)
  | [] => some []
  | .t t :: r => (treesOf r).map (t :: ·)
  | .w _ :: _ => none
theorem treesOf_map : ∀ ks : List Tr, treesOf (ks.map .t) = some ks
  | [] => rfl
  | k :: r => by rw [List.map_cons, treesOf, treesOf_map r]; rfl
def digF (z : Str) : Option Int := ([0, 1, 2, 3, 4, 5] : List Int).find? fun i => strI i == z
theorem digF_of {m : Int} (h : 0 ≤ m ∧ m ≤ 5) : digF (strI m) = some m := by
  rcases (show m = 0 ∨ m = 1 ∨ m = 2 ∨ m = 3 ∨ m = 4 ∨ m = 5 by omega) with rfl | rfl | rfl | rfl | rfl | rfl <;> decide +kernel
def brkF : List BI → Option Tr
  | .w w :: r => (treesOf r).map (.node (.many w))
  | [.t a, .w w, .t b] => some (.node (.op w) [a, b])
  | [.t a, .w _, .w m, .t b] => (digF m).map fun m => .node (.wit m) [a, b]
  | _ => none
theorem Brk.f {xs : List BI} {t : Tr} (h : Brk xs t) : brkF xs = some t := by
  cases h with
  | many hw ks hk => simp [brkF, treesOf_map]
  | two hw a b => rfl
  | wit hm a b => simp [brkF, digF_of hm]
def tkF (w : Str) (st : List WI) : Option (List WI × Option Tr) :=
  if w ∈ HD9 then some (.hd w :: st, none)
  else if w = "(" then some (.br [] :: st, none)
  else if w = ")" then (match st with | .br xs :: r => (brkF xs).map (takeS r) | _ => none)
  else if w ∈ BES then (match st with | .br xs :: r => some (.br (xs ++ [.w w]) :: r, none) | _ => none)
  else if w = "yes" then some (takeS st (.node .yes []))
  else some (takeS st (.node (.sign w) []))
theorem op_no : ("(" : Str) ∉ HD9 ∧ isNameS "(" = false := by decide +kernel
theorem cl_no : (")" : Str) ∉ HD9 ∧ ¬ ((")" : Str) = "(") ∧ isNameS ")" = false := by decide +kernel
theorem bes_no : ∀ w ∈ BES, w ∉ HD9 ∧ w ≠ "(" ∧ w ≠ ")" ∧ w ≠ "yes" ∧ w ≠ "" := by decide +kernel
theorem yes_no : ("yes" : Str) ∉ HD9 ∧ ¬ (("yes" : Str) = "(") ∧ ¬ (("yes" : Str) = ")") ∧ ("yes" : Str) ∉ BES := by decide +kernel
theorem plain_no {w : Str} (h : plainS w) : w ∉ HD9 ∧ w ≠ "(" ∧ w ≠ ")" ∧ w ∉ BES ∧ w ≠ "yes" := by
  refine ⟨h.2.2.1, fun e => ?_, fun e => ?_, h.2.2.2, h.2.1⟩
  · have := h.1; rw [e, op_no.2] at this; cases this
  · have := h.1; rw [e, cl_no.2.2] at this; cases this
theorem Tk.f {w : Str} {st : List WI} {s : List WI × Option Tr} (h : Tk w st s) : tkF w st = some s := by
  unfold tkF
  cases h with
  | hd h => rw [if_pos h]
  | op => rw [if_neg op_no.1, if_pos rfl]
  | cl h => rw [if_neg cl_no.1, if_neg cl_no.2.1, if_pos rfl]; simp [h.f]
  | be h =>
    obtain ⟨h1, h2, h3, _⟩ := bes_no w h
    rw [if_neg h1, if_neg h2, if_neg h3, if_pos h]
  | yes => rw [if_neg yes_no.1, if_neg yes_no.2.1, if_neg yes_no.2.2.1, if_neg yes_no.2.2.2, if_pos rfl]
  | sg h =>
    obtain ⟨h1, h2, h3, h4, h5⟩ := plain_no h
    rw [if_neg h1, if_neg h2, if_neg h3, if_neg h4, if_neg h5]
theorem Tk.det {w : Str} {st : List WI} {s s' : List WI × Option Tr} (h : Tk w st s) (h' : Tk w st s') : s = s' := Option.some.inj (h.f.symm.trans h'.f)
theorem Runs.det {ws : List Str} {s a b : List WI × Option Tr} (h : Runs ws s a) : Runs ws s b → a = b := by
  induction h with
  | nil => intro h; cases h; rfl
  | cons k r ih =>
    intro h
    cases h with
    | cons k' r' =>
      cases k.det k'
      exact ih r'
theorem Runs.split {c : List Str} : ∀ {a : List Str} {s s' : List WI × Option Tr}, Runs (a ++ c) s s' → ∃ s1, Runs a s s1 ∧ Runs c s1 s'
  | [], s, s', h => ⟨s, .nil, h⟩
  | w :: a, s, s', h => by
    cases h with
    | cons k r =>
      obtain ⟨s1, h1, h2⟩ := Runs.split r
      exact ⟨s1, .cons k h1, h2⟩
theorem runs_pre {t t' : Tr} {a : List Str} (h : Pl t) (h' : Pl t') (e : wds t' = wds t ++ a) : t = t' ∧ a = [] := by
  obtain ⟨n, h⟩ := h
  obtain ⟨m, h'⟩ := h'
  have r := reads_all h'
  rw [e] at r
  obtain ⟨s1, r1, r2⟩ := r.split
  cases r1.det (reads_all h)
  cases r2 with
  | nil => exact ⟨rfl, rfl⟩
/-- no two sentences begin the same row of words -/
theorem uniq {t t' : Tr} {r r' : List Str} (h : Pl t) (h' : Pl t') (e : wds t ++ r = wds t' ++ r') : t = t' ∧ r = r' := by
  rcases List.append_eq_append_iff.mp e with ⟨a, e1, e2⟩ | ⟨a, e1, e2⟩
  · obtain ⟨q1, q2⟩ := runs_pre h h' e1
    subst q2
    exact ⟨q1, e2⟩
  · obtain ⟨q1, q2⟩ := runs_pre h' h e1
    subst q2
    exact ⟨q1.symm, e2.symm⟩
/-! ### what the reader takes is what it holds -/
def biWs : BI → List Str
  | .w s => [s]
  | .t t => wds t
def wiWs : WI → List Str
  | .hd s => [s]
  | .br xs => ("(" : Str) :: (xs.map biWs).flatten
def stWs (st : List WI) : List Str := (st.reverse.map wiWs).flatten
def rep (s : List WI × Option Tr) : List Str := stWs s.1 ++ (match s.2 with | none => [] | some t => wds t)
def okBI : BI → Prop
  | .w s => s ∈ BES
  | .t t => Pl t
def okWI : WI → Prop
  | .hd w => w ∈ W1
  | .br xs => ∀ x ∈ xs, okBI x
def okS (s : List WI × Option Tr) : Prop := (∀ x ∈ s.1, okWI x) ∧ ∀ t, s.2 = some t → s.1 = [] ∧ Pl t
theorem stWs_cons (x : WI) (st : List WI) : stWs (x :: st) = stWs st ++ wiWs x := by
  unfold stWs
  simp
theorem flat_trees (ks : List Tr) : ((ks.map BI.t).map biWs).flatten = (ks.map wds).flatten := by
  rw [List.map_map]
  rfl
theorem Brk.rep {xs : List BI} {t : Tr} (h : Brk xs t) (ok : ∀ x ∈ xs, okBI x) : Pl t ∧ wds t = ("(" : Str) :: ((xs.map biWs).flatten ++ [(")" : Str)]) := by
  cases h with
  | many hw ks hk =>
    refine ⟨(PlF.many hw hk fun k h => ok (.t k) (by simp [h])).pl, ?_⟩
    rw [wds_many, List.map_cons, List.flatten_cons, flat_trees]
    rfl
  | two hw a b =>
    refine ⟨(PlF.op2 hw (ok (.t a) (by simp)) (ok (.t b) (by simp))).pl, ?_⟩
    rw [wds_op2 hw]
    simp [biWs]
  | wit hm a b =>
    refine ⟨(PlF.wit hm (ok (.t a) (by simp)) (ok (.t b) (by simp))).pl, ?_⟩
    rw [wds_wit]
    simp [biWs]
theorem takeS_rep : ∀ (st : List WI) (t : Tr), (∀ x ∈ st, okWI x) → Pl t → okS (takeS st t) ∧ rep (takeS st t) = stWs st ++ wds t
  | [], t, _, h => ⟨⟨fun x hx => (by cases hx), fun t' e => (by cases e; exact ⟨rfl, h⟩)⟩, rfl⟩
  | .hd w :: r, t, ok, h => by
    have hw : w ∈ W1 := ok (.hd w) (by simp)
    obtain ⟨a, b⟩ := takeS_rep r (.node (.op w) [t]) (fun x hx => ok x (by simp [hx])) (PlF.op1 hw h).pl
    refine ⟨a, ?_⟩
    show rep (takeS r _) = _
    rw [b, wds_op1 hw, stWs_cons]
    simp [wiWs]
  | .br xs :: r, t, ok, h => by
    refine ⟨⟨fun x hx => ?_, fun t' e => (by cases e)⟩, ?_⟩
    · rcases List.mem_cons.mp hx with rfl | hx
      · intro y hy
        rcases List.mem_append.mp hy with hy | hy
        · exact ok (.br xs) (by simp) y hy
        · cases List.mem_singleton.mp hy; exact h
      · exact ok x (by simp [hx])
    · show stWs (.br (xs ++ [.t t]) :: r) ++ [] = _
      rw [stWs_cons, stWs_cons]
      simp [wiWs, biWs]
theorem Tk.rep {w : Str} {st : List WI} {s : List WI × Option Tr} (h : Tk w st s) (ok : ∀ x ∈ st, okWI x) : okS s ∧ rep s = stWs st ++ [w] := by
  cases h with
  | hd h =>
    refine ⟨⟨fun x hx => ?_, fun t' e => (by cases e)⟩, ?_⟩
    · rcases List.mem_cons.mp hx with rfl | hx
      · exact hd_w1 _ h
      · exact ok x hx
    · show stWs (.hd w :: st) ++ [] = _
      rw [stWs_cons]; simp [wiWs]
  | op =>
    refine ⟨⟨fun x hx => ?_, fun t' e => (by cases e)⟩, ?_⟩
    · rcases List.mem_cons.mp hx with rfl | hx
      · intro y hy; cases hy
      · exact ok x hx
    · show stWs (.br [] :: st) ++ [] = _
      rw [stWs_cons]; simp [wiWs]
  | cl h =>
    rename_i xs t st2
    obtain ⟨h1, h2⟩ := h.rep (ok (.br xs) (by simp))
    obtain ⟨a, b⟩ := takeS_rep st2 t (fun x hx => ok x (by simp [hx])) h1
    refine ⟨a, ?_⟩
    rw [b, h2, stWs_cons]
    simp [wiWs]
  | be h =>
    rename_i xs st2
    refine ⟨⟨fun x hx => ?_, fun t' e => (by cases e)⟩, ?_⟩
    · rcases List.mem_cons.mp hx with rfl | hx
      · intro y hy
        rcases List.mem_append.mp hy with hy | hy
        · exact ok (.br xs) (by simp) y hy
        · cases List.mem_singleton.mp hy; exact h
      · exact ok x (by simp [hx])
    · show stWs (.br (xs ++ [.w w]) :: st2) ++ [] = _
      rw [stWs_cons, stWs_cons]
      simp [wiWs, biWs]
  | yes =>
    obtain ⟨a, b⟩ := takeS_rep st (.node .yes []) ok PlF.yes.pl
    exact ⟨a, by rw [b, wds_yes]⟩
  | sg h =>
    obtain ⟨a, b⟩ := takeS_rep st (.node (.sign w) []) ok (PlF.sign h).pl
    exact ⟨a, by rw [b, wds_sign]⟩
/-! ### from the left -/
inductive Inv : Str → List Str → Tr → List Str → Prop
  | op1 {w : Str} {t : Tr} {rest : List Str} (h : w ∈ W1) (ht : Pl t) : Inv w (wds t ++ rest) (.node (.op w) [t]) rest
  | many {w : Str} {ks : List Tr} {rest : List Str} (h : w = "and" ∨ w = "or") (hl : ks.length ≤ 400) (hk : ∀ k ∈ ks, Pl k) : Inv "(" (w :: ((ks.map wds).flatten ++ (")" : Str) :: rest)) (.node (.many w) ks) rest
  | op2 {w : Str} {a b : Tr} {rest : List Str} (h : w ∈ W2) (ha : Pl a) (hb : Pl b) : Inv "(" (wds a ++ w :: (wds b ++ (")" : Str) :: rest)) (.node (.op w) [a, b]) rest
  | wit {m : Int} {a b : Tr} {rest : List Str} (h : 0 ≤ m ∧ m ≤ 5) (ha : Pl a) (hb : Pl b) : Inv "(" (wds a ++ ("within" : Str) :: strI m :: (wds b ++ (")" : Str) :: rest)) (.node (.wit m) [a, b]) rest
  | yes {rest : List Str} : Inv "yes" rest (.node .yes []) rest
  | sign {w : Str} {rest : List Str} (h : plainS w) : Inv w rest (.node (.sign w) []) rest
theorem inv_of {t : Tr} {rest r : List Str} {w : Str} (h : Pl t) (e : w :: r = wds t ++ rest) : Inv w r t rest := by
  have f := h.form
  clear h
  cases f with
  | yes => rw [wds_yes] at e; cases e; exact .yes
  | sign h => rw [wds_sign] at e; cases e; exact .sign h
  | op1 h ht => rw [wds_op1 h] at e; cases e; exact .op1 h ht
  | op2 h ha hb =>
    rw [wds_op2 h, List.cons_append, List.append_assoc, List.cons_append, List.append_assoc] at e
    obtain ⟨rfl, rfl⟩ := List.cons.inj e
    exact .op2 h ha hb
  | wit h ha hb =>
    rw [wds_wit, List.cons_append, List.append_assoc, List.cons_append, List.cons_append, List.append_assoc] at e
    obtain ⟨rfl, rfl⟩ := List.cons.inj e
    exact .wit h ha hb
  | many h hl hk =>
    rw [wds_many, List.cons_append, List.cons_append, List.append_assoc] at e
    obtain ⟨rfl, rfl⟩ := List.cons.inj e
    exact .many h hl hk
/-- a sentence's first word -/
theorem Inv.fst {t : Tr} {rest r : List Str} {w : Str} (h : Inv w r t rest) : w ≠ ")" ∧ w ∉ BES ∧ (w ∈ W1 ∨ w = "(" ∨ w = "yes" ∨ plainS w) := by
  cases h with
  | yes => exact ⟨yes_no.2.2.1, yes_no.2.2.2, .inr (.inr (.inl rfl))⟩
  | sign h => exact ⟨(plain_no h).2.2.1, (plain_no h).2.2.2.1, .inr (.inr (.inr h))⟩
  | op1 h ht => exact ⟨(by decide +kernel : ∀ w ∈ W1, w ≠ ")") w h, (by decide +kernel : ∀ w ∈ W1, w ∉ BES) w h, .inl h⟩
  | op2 h ha hb => exact ⟨by decide +kernel, by decide +kernel, .inr (.inl rfl)⟩
  | wit h ha hb => exact ⟨by decide +kernel, by decide +kernel, .inr (.inl rfl)⟩
  | many h hl hk => exact ⟨by decide +kernel, by decide +kernel, .inr (.inl rfl)⟩
theorem seq_pre {r' : List Str} : ∀ {ks ks' : List Tr} {rest : List Str}, (∀ k ∈ ks, Pl k) → (∀ k ∈ ks', Pl k) → (ks.map wds).flatten ++ rest = (ks'.map wds).flatten ++ (")" : Str) :: r' → ∃ k2, ks' = ks ++ k2 ∧ rest = (k2.map wds).flatten ++ (")" : Str) :: r'
  | [], ks', rest, _, _, e => ⟨ks', rfl, e⟩
  | k :: ks, [], rest, h, _, e => by
    rw [List.map_cons, List.flatten_cons, List.append_assoc] at e
    exact absurd rfl (inv_of (h k (by simp)) e.symm).fst.1
  | k :: ks, k' :: ks', rest, h, h', e => by
    rw [List.map_cons, List.flatten_cons, List.append_assoc, List.map_cons, List.flatten_cons, List.append_assoc] at e
    obtain ⟨rfl, e2⟩ := uniq (h k (by simp)) (h' k' (by simp)) e
    obtain ⟨k2, q1, q2⟩ := seq_pre (fun x hx => h x (List.mem_cons_of_mem _ hx)) (fun x hx => h' x (List.mem_cons_of_mem _ hx)) e2
    exact ⟨k2, by rw [q1]; rfl, q2⟩
/-! ### how many words begin something -/
def opens (w : Str) : Bool := decide (w ∈ HD9) || decide (w = "(")
def wt (ws : List Str) : Nat := ws.countP opens
theorem wt_app (a b : List Str) : wt (a ++ b) = wt a + wt b := List.countP_append
theorem wt_cons (w : Str) (r : List Str) : wt (w :: r) = wt r + (if opens w then 1 else 0) := List.countP_cons
theorem wt_nil : wt [] = 0 := rfl
theorem op_bes : ∀ w ∈ ((")" : Str) :: "yes" :: BES), opens w = false := by decide +kernel
theorem op_plain {w : Str} (h : plainS w) : opens w = false := by
  obtain ⟨h1, h2, _⟩ := plain_no h
  simp [opens, h1, h2]
theorem op_op : opens "(" = true := by decide +kernel
theorem op_le (w : Str) : (if opens w then 1 else 0) ≤ 1 := by split <;> omega
theorem dig_no {m : Int} (h : 0 ≤ m ∧ m ≤ 5) : opens (strI m) = false := op_bes _ (by simp [dig_bes h])
theorem sizes : ∀ {n : Nat} {t : Tr}, PlN n t → wt (wds t) ≤ psz t ∧ psz t ≤ (wds t).length
  | 0, _, h => h.elim
  | n + 1, .node c ks, ⟨ok, pl, hk⟩ => by
    have hk' : ∀ k ∈ ks, wt (wds k) ≤ psz k ∧ psz k ≤ (wds k).length := fun k h => sizes (hk k h)
    have ok' : lbOk c ks.length := ok
    have fl : wt (ks.map wds).flatten ≤ (ks.map psz).sum ∧ (ks.map psz).sum ≤ ((ks.map wds).flatten).length := by
      clear pl hk ok ok'
      induction ks with
      | nil => exact ⟨Nat.le_refl _, Nat.le_refl _⟩
      | cons a r ih =>
        have h1 := hk' a (by simp)
        have h2 := ih fun k h => hk' k (List.mem_cons_of_mem _ h)
        rw [List.map_cons, List.flatten_cons, wt_app, List.map_cons, List.sum_cons, List.length_append]
        omega
    rw [psz_node]
    cases c with
    | yes => cases List.length_eq_zero_iff.mp ok'; rw [wds_yes]; exact ⟨by decide +kernel, by simp⟩
    | sign z =>
      cases List.length_eq_zero_iff.mp ok'.1
      rw [wds_sign, wt_cons, op_plain (pl z rfl), wt_nil]
      simp
    | op w =>
      rcases ok' with ⟨h1, h2⟩ | ⟨h1, h2⟩
      · obtain ⟨a, rfl⟩ := kids1 h2
        have ha := hk' a (by simp)
        have := op_le w
        rw [wds_op1 h1, wt_cons]
        simp only [List.map_cons, List.map_nil, List.sum_cons, List.sum_nil, List.length_cons]
        omega
      · obtain ⟨a, b, rfl⟩ := kids2 h2
        have ha := hk' a (by simp)
        have hb := hk' b (by simp)
        rw [wds_op2 h1, wt_cons, wt_app, wt_cons, wt_app, wt_cons, op_bes ")" (by simp), op_bes w ((by decide +kernel : ∀ w ∈ W2, w ∈ ((")" : Str) :: "yes" :: BES)) w h1), op_op, wt_nil]
        simp only [List.map_cons, List.map_nil, List.sum_cons, List.sum_nil, List.length_cons, List.length_append]
        simp
        omega
    | wit m =>
      obtain ⟨a, b, rfl⟩ := kids2 ok'.2
      have ha := hk' a (by simp)
      have hb := hk' b (by simp)
      rw [wds_wit, wt_cons, wt_app, wt_cons, wt_cons, wt_app, wt_cons, op_bes ")" (by simp), op_bes "within" (by decide +kernel), dig_no ok'.1, op_op, wt_nil]
      simp only [List.map_cons, List.map_nil, List.sum_cons, List.sum_nil, List.length_cons, List.length_append]
      simp
      omega
    | many w =>
      rw [wds_many, wt_cons, wt_cons, wt_app, wt_cons, op_bes ")" (by simp), op_bes w (by rcases ok'.1 with rfl | rfl <;> decide +kernel), op_op, wt_nil]
      generalize (ks.map wds).flatten = F at fl
      simp only [List.length_cons, List.length_append, List.length_nil]
      simp
      omega
theorem Pl.sizes {t : Tr} (h : Pl t) : wt (wds t) ≤ psz t ∧ psz t ≤ (wds t).length := let ⟨_, h⟩ := h; L3.sizes h
/-! ### where a sentence ends -/
def EndAt (d : List Str) (i : Int) (r : Int) : Prop := (∃ t rest, Pl t ∧ d = wds t ++ rest ∧ r = i + (wds t).length) ∨ ((∀ t rest, Pl t → d ≠ wds t ++ rest) ∧ r = -1)
/-- every word of a sentence is a word or a plain name -/
abbrev VOC : List Str := ["(", ")", "yes", "not", "next", "always", "ever", "before", "once", "sofar", "all", "some", "until", "since", "and", "or", "within", "0", "1", "2", "3", "4", "5"]
theorem voc_of : ∀ {n : Nat} {t : Tr}, PlN n t → ∀ w ∈ wds t, w ∈ VOC ∨ isNameS w = true
  | 0, _, h => h.elim
  | n + 1, t, h => by
    obtain ⟨_, _, hk⟩ := id h
    have hk' : ∀ k ∈ t.ks, ∀ w ∈ wds k, w ∈ VOC ∨ isNameS w = true := fun k h => voc_of (hk k h)
    intro w hw
    have hp : Pl t := ⟨_, h⟩
    cases hp.form with
    | yes => rw [wds_yes] at hw; cases List.mem_singleton.mp hw; exact .inl (by decide +kernel)
    | sign hs => rw [wds_sign] at hw; cases List.mem_singleton.mp hw; exact .inr hs.1
    | op1 h1 ht =>
      rw [wds_op1 h1] at hw
      rcases List.mem_cons.mp hw with rfl | hw
      · exact .inl ((by decide +kernel : ∀ w ∈ W1, w ∈ VOC) _ h1)
      · exact hk' _ (by simp [Tr.ks]) w hw
    | op2 h1 ha hb =>
      rw [wds_op2 h1] at hw
      simp only [List.mem_cons, List.mem_append, List.not_mem_nil, or_false] at hw
      rcases hw with rfl | hw | rfl | hw | rfl
      · exact .inl (by decide +kernel)
      · exact hk' _ (by simp [Tr.ks]) w hw
      · exact .inl ((by decide +kernel : ∀ w ∈ W2, w ∈ VOC) _ h1)
      · exact hk' _ (by simp [Tr.ks]) w hw
      · exact .inl (by decide +kernel)
    | wit h1 ha hb =>
      rw [wds_wit] at hw
      simp only [List.mem_cons, List.mem_append, List.not_mem_nil, or_false] at hw
      rcases hw with rfl | hw | rfl | rfl | hw | rfl
      · exact .inl (by decide +kernel)
      · exact hk' _ (by simp [Tr.ks]) w hw
      · exact .inl (by decide +kernel)
      · exact .inl ((by decide +kernel : ∀ w ∈ BES, w ∈ VOC) _ (dig_bes h1))
      · exact hk' _ (by simp [Tr.ks]) w hw
      · exact .inl (by decide +kernel)
    | many h1 hl hks =>
      rw [wds_many] at hw
      simp only [List.mem_cons, List.mem_append, List.not_mem_nil, or_false] at hw
      rcases hw with rfl | rfl | hw | rfl
      · exact .inl (by decide +kernel)
      · rcases h1 with rfl | rfl <;> exact .inl (by decide +kernel)
      · obtain ⟨l, hl2, hwl⟩ := List.mem_flatten.mp hw
        obtain ⟨k, hk2, rfl⟩ := List.mem_map.mp hl2
        exact hk' k hk2 w hwl
      · exact .inl (by decide +kernel)
end L3

set_option Elab.async false
set_option linter.all false
set_option maxRecDepth 100000
set_option maxHeartbeats 8000000
namespace KK
open PySem PySem.Spec L2 L3
def top (i : Nat) : Stmt := PySem.Challenge.pw_timecourt_k87_texts_that_are_no_sentence.main.body.getD i (.Pass ⟨0, 0, 0, 0⟩)
abbrev s_is_whole : Stmt := top 10
abbrev s_is_name : Stmt := top 11
abbrev s_last_ones : Stmt := top 12
abbrev s_is_formed : Stmt := top 16
abbrev s_inner_of : Stmt := top 17
abbrev s_inner_ahead : Stmt := top 18
abbrev s_show : Stmt := top 25
abbrev s_words_with : Stmt := top 26
abbrev s_read_sentence : Stmt := top 27
abbrev s_Reader_init : Stmt := inClass (top 28) 0
abbrev s_Reader_take_word : Stmt := inClass (top 28) 1
abbrev s_Reader_open_bracket : Stmt := inClass (top 28) 2
abbrev s_Reader_take_sentence : Stmt := inClass (top 28) 3
abbrev s_Reader_told : Stmt := inClass (top 28) 4
abbrev s_bracketed : Stmt := top 29
abbrev s__law_cell_at : Stmt := top 31
abbrev s__law_stream : Stmt := top 32
abbrev s__law_draw : Stmt := top 33
abbrev s__law_sentence : Stmt := top 34
abbrev s__law_is_name : Stmt := top 35
abbrev s__law_end : Stmt := top 36
abbrev s__law_end_of_brackets : Stmt := top 37
abbrev s__law_changed : Stmt := top 38
abbrev s__law_read : Stmt := top 39
abbrev s__law_right : Stmt := top 40
abbrev s_law : Stmt := top 41
theorem sc_is_whole : FnScope ["thing"] ["thing"] (defScope s_is_whole) := ⟨rfl, rfl, rfl, by decide +kernel, rfl, by decide +kernel, by decide +kernel⟩
theorem sc_is_name : FnScope ["thing"] ["thing"] (defScope s_is_name) := ⟨rfl, rfl, rfl, by decide +kernel, rfl, by decide +kernel, by decide +kernel⟩
theorem sc_last_ones : FnScope ["things", "many", "start", "taken"] ["things", "many"] (defScope s_last_ones) := ⟨rfl, rfl, rfl, by decide +kernel, rfl, by decide +kernel, by decide +kernel⟩
theorem sc_is_formed : FnScope ["thing", "word"] ["thing"] (defScope s_is_formed) := ⟨rfl, rfl, rfl, by decide +kernel, rfl, by decide +kernel, by decide +kernel⟩
theorem sc_inner_of : FnScope ["sentence", "word"] ["sentence"] (defScope s_inner_of) := ⟨rfl, rfl, rfl, by decide +kernel, rfl, by decide +kernel, by decide +kernel⟩
theorem sc_inner_ahead : FnScope ["sentence", "found", "waiting", "one"] ["sentence"] (defScope s_inner_ahead) := ⟨rfl, rfl, rfl, by decide +kernel, rfl, by decide +kernel, by decide +kernel⟩
theorem sc_show : FnScope ["sentence", "found", "one", "inner"] ["sentence"] (defScope s_show) := ⟨rfl, rfl, rfl, by decide +kernel, rfl, by decide +kernel, by decide +kernel⟩
theorem sc_words_with : FnScope ["sentence", "inner", "word"] ["sentence", "inner"] (defScope s_words_with) := ⟨rfl, rfl, rfl, by decide +kernel, rfl, by decide +kernel, by decide +kernel⟩
theorem sc_read_sentence : FnScope ["text", "reader", "word"] ["text"] (defScope s_read_sentence) := ⟨rfl, rfl, rfl, by decide +kernel, rfl, by decide +kernel, by decide +kernel⟩
theorem sc_Reader_init : FnScope ["self"] ["self"] (defScope s_Reader_init) := ⟨rfl, rfl, rfl, by decide +kernel, rfl, by decide +kernel, by decide +kernel⟩
theorem sc_Reader_take_word : FnScope ["self", "word", "inner"] ["self", "word"] (defScope s_Reader_take_word) := ⟨rfl, rfl, rfl, by decide +kernel, rfl, by decide +kernel, by decide +kernel⟩
theorem sc_Reader_open_bracket : FnScope ["self"] ["self"] (defScope s_Reader_open_bracket) := ⟨rfl, rfl, rfl, by decide +kernel, rfl, by decide +kernel, by decide +kernel⟩
theorem sc_Reader_take_sentence : FnScope ["self", "sentence", "whole", "inner"] ["self", "sentence"] (defScope s_Reader_take_sentence) := ⟨rfl, rfl, rfl, by decide +kernel, rfl, by decide +kernel, by decide +kernel⟩
theorem sc_Reader_told : FnScope ["self"] ["self"] (defScope s_Reader_told) := ⟨rfl, rfl, rfl, by decide +kernel, rfl, by decide +kernel, by decide +kernel⟩
theorem sc_bracketed : FnScope ["inner", "words", "sentences"] ["inner"] (defScope s_bracketed) := ⟨rfl, rfl, rfl, by decide +kernel, rfl, by decide +kernel, by decide +kernel⟩
theorem sc__law_cell_at : FnScope ["_law_script", "_law_k"] ["_law_script", "_law_k"] (defScope s__law_cell_at) := ⟨rfl, rfl, rfl, by decide +kernel, rfl, by decide +kernel, by decide +kernel⟩
theorem sc__law_stream : FnScope ["_law_cell", "_law_many", "_law_found", "_law_left", "_law_number", "_law_step"] ["_law_cell", "_law_many"] (defScope s__law_stream) := ⟨rfl, rfl, rfl, by decide +kernel, rfl, by decide +kernel, by decide +kernel⟩
theorem sc__law_draw : FnScope ["_law_xs"] ["_law_xs"] (defScope s__law_draw) := ⟨rfl, rfl, rfl, by decide +kernel, rfl, by decide +kernel, by decide +kernel⟩
theorem sc__law_sentence : FnScope ["_law_xs", "_law_deep", "_law_names", "_law_number", "_law_way", "_law_one", "_law_found", "_law_k"] ["_law_xs", "_law_deep", "_law_names"] (defScope s__law_sentence) := ⟨rfl, rfl, rfl, by decide +kernel, rfl, by decide +kernel, by decide +kernel⟩
theorem sc__law_is_name : FnScope ["_law_word"] ["_law_word"] (defScope s__law_is_name) := ⟨rfl, rfl, rfl, by decide +kernel, rfl, by decide +kernel, by decide +kernel⟩
theorem sc__law_end : FnScope ["_law_words", "_law_at", "_law_word"] ["_law_words", "_law_at"] (defScope s__law_end) := ⟨rfl, rfl, rfl, by decide +kernel, rfl, by decide +kernel, by decide +kernel⟩
theorem sc__law_end_of_brackets : FnScope ["_law_words", "_law_at"] ["_law_words", "_law_at"] (defScope s__law_end_of_brackets) := ⟨rfl, rfl, rfl, by decide +kernel, rfl, by decide +kernel, by decide +kernel⟩
theorem sc__law_changed : FnScope ["_law_xs", "_law_words", "_law_some", "_law_word", "_law_at", "_law_way"] ["_law_xs", "_law_words"] (defScope s__law_changed) := ⟨rfl, rfl, rfl, by decide +kernel, rfl, by decide +kernel, by decide +kernel⟩
theorem sc__law_read : FnScope ["_law_text", "_law_found", "e", "_law_others"] ["_law_text"] (defScope s__law_read) := ⟨rfl, rfl, rfl, by decide +kernel, rfl, by decide +kernel, by decide +kernel⟩
theorem sc__law_right : FnScope ["_law_words", "_law_text", "_law_found"] ["_law_words"] (defScope s__law_right) := ⟨rfl, rfl, rfl, by decide +kernel, rfl, by decide +kernel, by decide +kernel⟩
theorem sc_law : FnScope ["_law_script", "_law_xs", "_law_words", "_law_ys", "_law_turn", "_law_some", "_law_drawn", "_law_text", "_law_thing"] ["_law_script"] (defScope s_law) := ⟨rfl, rfl, rfl, by decide +kernel, rfl, by decide +kernel, by decide +kernel⟩
structure Adr where
  is_whole : Addr
  is_whole_fd : FuncData
  is_name : Addr
  is_name_fd : FuncData
  last_ones : Addr
  last_ones_fd : FuncData
  is_formed : Addr
  is_formed_fd : FuncData
  inner_of : Addr
  inner_of_fd : FuncData
  inner_ahead : Addr
  inner_ahead_fd : FuncData
  «show» : Addr
  show_fd : FuncData
  words_with : Addr
  words_with_fd : FuncData
  read_sentence : Addr
  read_sentence_fd : FuncData
  Reader_init : Addr
  Reader_init_fd : FuncData
  Reader_take_word : Addr
  Reader_take_word_fd : FuncData
  Reader_open_bracket : Addr
  Reader_open_bracket_fd : FuncData
  Reader_take_sentence : Addr
  Reader_take_sentence_fd : FuncData
  Reader_told : Addr
  Reader_told_fd : FuncData
  bracketed : Addr
  bracketed_fd : FuncData
  _law_cell_at : Addr
  _law_cell_at_fd : FuncData
  _law_stream : Addr
  _law_stream_fd : FuncData
  _law_draw : Addr
  _law_draw_fd : FuncData
  _law_sentence : Addr
  _law_sentence_fd : FuncData
  _law_is_name : Addr
  _law_is_name_fd : FuncData
  _law_end : Addr
  _law_end_fd : FuncData
  _law_end_of_brackets : Addr
  _law_end_of_brackets_fd : FuncData
  _law_changed : Addr
  _law_changed_fd : FuncData
  _law_read : Addr
  _law_read_fd : FuncData
  _law_right : Addr
  _law_right_fd : FuncData
  law : Addr
  law_fd : FuncData
  C_TimeError : Addr
  C_BadWorld : Addr
  C_BadSentence : Addr
  C_NoText : Addr
  C_NoLine : Addr
  C_NoWorld : Addr
  C_Reader : Addr
  D_LENGTHS : Addr
  Y_HEADS : Addr
  Y_BETWEEN : Addr
  Y_JOINS : Addr
  Y_TURNS : Addr
  Y_BESIDE : Addr
  Pm : Params
structure Txt (K : PySem.W.Frag) (mg : Str → Option Value) (a : Adr) : Prop where
  f_is_whole : Fun K "is_whole" "is_whole" s_is_whole a.is_whole a.is_whole_fd
  n_is_whole : Binds K a.is_whole_fd ["thing"] []
  g_is_whole : mg "is_whole" = some (.ref a.is_whole)
  f_is_name : Fun K "is_name" "is_name" s_is_name a.is_name a.is_name_fd
  n_is_name : Binds K a.is_name_fd ["thing"] []
  g_is_name : mg "is_name" = some (.ref a.is_name)
  f_last_ones : Fun K "last_ones" "last_ones" s_last_ones a.last_ones a.last_ones_fd
  n_last_ones : Binds K a.last_ones_fd ["things", "many"] []
  g_last_ones : mg "last_ones" = some (.ref a.last_ones)
  f_is_formed : Fun K "is_formed" "is_formed" s_is_formed a.is_formed a.is_formed_fd
  n_is_formed : Binds K a.is_formed_fd ["thing"] []
  g_is_formed : mg "is_formed" = some (.ref a.is_formed)
  f_inner_of : Fun K "inner_of" "inner_of" s_inner_of a.inner_of a.inner_of_fd
  n_inner_of : Binds K a.inner_of_fd ["sentence"] []
  g_inner_of : mg "inner_of" = some (.ref a.inner_of)
  f_inner_ahead : Fun K "inner_ahead" "inner_ahead" s_inner_ahead a.inner_ahead a.inner_ahead_fd
  n_inner_ahead : Binds K a.inner_ahead_fd ["sentence"] []
  g_inner_ahead : mg "inner_ahead" = some (.ref a.inner_ahead)
  f_show : Fun K "show" "show" s_show a.«show» a.show_fd
  n_show : Binds K a.show_fd ["sentence"] []
  g_show : mg "show" = some (.ref a.«show»)
  f_words_with : Fun K "words_with" "words_with" s_words_with a.words_with a.words_with_fd
  n_words_with : Binds K a.words_with_fd ["sentence", "inner"] []
  g_words_with : mg "words_with" = some (.ref a.words_with)
  f_read_sentence : Fun K "read_sentence" "read_sentence" s_read_sentence a.read_sentence a.read_sentence_fd
  n_read_sentence : Binds K a.read_sentence_fd ["text"] []
  g_read_sentence : mg "read_sentence" = some (.ref a.read_sentence)
  f_Reader_init : Fun K "__init__" "Reader.__init__" s_Reader_init a.Reader_init a.Reader_init_fd
  n_Reader_init : Binds K a.Reader_init_fd ["self"] []
  m_Reader_init : Meth K a.C_Reader "__init__" a.Reader_init
  f_Reader_take_word : Fun K "take_word" "Reader.take_word" s_Reader_take_word a.Reader_take_word a.Reader_take_word_fd
  n_Reader_take_word : Binds K a.Reader_take_word_fd ["self", "word"] []
  m_Reader_take_word : Meth K a.C_Reader "take_word" a.Reader_take_word
  f_Reader_open_bracket : Fun K "open_bracket" "Reader.open_bracket" s_Reader_open_bracket a.Reader_open_bracket a.Reader_open_bracket_fd
  n_Reader_open_bracket : Binds K a.Reader_open_bracket_fd ["self"] []
  m_Reader_open_bracket : Meth K a.C_Reader "open_bracket" a.Reader_open_bracket
  f_Reader_take_sentence : Fun K "take_sentence" "Reader.take_sentence" s_Reader_take_sentence a.Reader_take_sentence a.Reader_take_sentence_fd
  n_Reader_take_sentence : Binds K a.Reader_take_sentence_fd ["self", "sentence"] []
  m_Reader_take_sentence : Meth K a.C_Reader "take_sentence" a.Reader_take_sentence
  f_Reader_told : Fun K "told" "Reader.told" s_Reader_told a.Reader_told a.Reader_told_fd
  n_Reader_told : Binds K a.Reader_told_fd ["self"] []
  m_Reader_told : Meth K a.C_Reader "told" a.Reader_told
  f_bracketed : Fun K "bracketed" "bracketed" s_bracketed a.bracketed a.bracketed_fd
  n_bracketed : Binds K a.bracketed_fd ["inner"] []
  g_bracketed : mg "bracketed" = some (.ref a.bracketed)
  f__law_cell_at : Fun K "_law_cell_at" "_law_cell_at" s__law_cell_at a._law_cell_at a._law_cell_at_fd
  n__law_cell_at : Binds K a._law_cell_at_fd ["_law_script", "_law_k"] []
  g__law_cell_at : mg "_law_cell_at" = some (.ref a._law_cell_at)
  f__law_stream : Fun K "_law_stream" "_law_stream" s__law_stream a._law_stream a._law_stream_fd
  n__law_stream : Binds K a._law_stream_fd ["_law_cell", "_law_many"] []
  g__law_stream : mg "_law_stream" = some (.ref a._law_stream)
  f__law_draw : Fun K "_law_draw" "_law_draw" s__law_draw a._law_draw a._law_draw_fd
  n__law_draw : Binds K a._law_draw_fd ["_law_xs"] []
  g__law_draw : mg "_law_draw" = some (.ref a._law_draw)
  f__law_sentence : Fun K "_law_sentence" "_law_sentence" s__law_sentence a._law_sentence a._law_sentence_fd
  n__law_sentence : Binds K a._law_sentence_fd ["_law_xs", "_law_deep", "_law_names"] []
  g__law_sentence : mg "_law_sentence" = some (.ref a._law_sentence)
  f__law_is_name : Fun K "_law_is_name" "_law_is_name" s__law_is_name a._law_is_name a._law_is_name_fd
  n__law_is_name : Binds K a._law_is_name_fd ["_law_word"] []
  g__law_is_name : mg "_law_is_name" = some (.ref a._law_is_name)
  f__law_end : Fun K "_law_end" "_law_end" s__law_end a._law_end a._law_end_fd
  n__law_end : Binds K a._law_end_fd ["_law_words", "_law_at"] []
  g__law_end : mg "_law_end" = some (.ref a._law_end)
  f__law_end_of_brackets : Fun K "_law_end_of_brackets" "_law_end_of_brackets" s__law_end_of_brackets a._law_end_of_brackets a._law_end_of_brackets_fd
  n__law_end_of_brackets : Binds K a._law_end_of_brackets_fd ["_law_words", "_law_at"] []
  g__law_end_of_brackets : mg "_law_end_of_brackets" = some (.ref a._law_end_of_brackets)
  f__law_changed : Fun K "_law_changed" "_law_changed" s__law_changed a._law_changed a._law_changed_fd
  n__law_changed : Binds K a._law_changed_fd ["_law_xs", "_law_words"] []
  g__law_changed : mg "_law_changed" = some (.ref a._law_changed)
  f__law_read : Fun K "_law_read" "_law_read" s__law_read a._law_read a._law_read_fd
  n__law_read : Binds K a._law_read_fd ["_law_text"] []
  g__law_read : mg "_law_read" = some (.ref a._law_read)
  f__law_right : Fun K "_law_right" "_law_right" s__law_right a._law_right a._law_right_fd
  n__law_right : Binds K a._law_right_fd ["_law_words"] []
  g__law_right : mg "_law_right" = some (.ref a._law_right)
  f_law : Fun K "law" "law" s_law a.law a.law_fd
  n_law : Binds K a.law_fd ["_law_script"] []
  g_law : mg "law" = some (.ref a.law)
  b_ValueError : mg "ValueError" = none
  b_all : mg "all" = none
  b_tuple : mg "tuple" = none
  b_range : mg "range" = none
  b_isinstance : mg "isinstance" = none
  b_int : mg "int" = none
  b_len : mg "len" = none
  b_str : mg "str" = none
  b_bool : mg "bool" = none
  b_list : mg "list" = none
  c_LETTERS : ∃ u, mg "LETTERS" = some u ∧ RelV (.str "abcdefghijklmnopqrstuvwxyz") u
  c_MOST_LETTERS : ∃ u, mg "MOST_LETTERS" = some u ∧ RelV (.int 8) u
  c_MOST_WITHIN : ∃ u, mg "MOST_WITHIN" = some u ∧ RelV (.int 5) u
  g_TimeError : mg "TimeError" = some (.ref a.C_TimeError)
  x_TimeError : PySem.W.excIn K a.C_TimeError [.type "ValueError", .type "Exception", .type "BaseException", .type "object"] "ValueError.__new__" = true
  g_BadWorld : mg "BadWorld" = some (.ref a.C_BadWorld)
  x_BadWorld : PySem.W.excIn K a.C_BadWorld [.type "ValueError", .type "Exception", .type "BaseException", .type "object"] "ValueError.__new__" = true
  g_BadSentence : mg "BadSentence" = some (.ref a.C_BadSentence)
  x_BadSentence : PySem.W.excIn K a.C_BadSentence [.type "ValueError", .type "Exception", .type "BaseException", .type "object"] "ValueError.__new__" = true
  g_NoText : mg "NoText" = some (.ref a.C_NoText)
  x_NoText : PySem.W.excIn K a.C_NoText [.type "ValueError", .type "Exception", .type "BaseException", .type "object"] "ValueError.__new__" = true
  g_NoLine : mg "NoLine" = some (.ref a.C_NoLine)
  x_NoLine : PySem.W.excIn K a.C_NoLine [.type "ValueError", .type "Exception", .type "BaseException", .type "object"] "ValueError.__new__" = true
  g_NoWorld : mg "NoWorld" = some (.ref a.C_NoWorld)
  x_NoWorld : PySem.W.excIn K a.C_NoWorld [.type "ValueError", .type "Exception", .type "BaseException", .type "object"] "ValueError.__new__" = true
  k_NoText : ExcK K a.C_NoText
  sb_TimeError : PySem.W.subIn K (.ref a.C_TimeError) (.type "BaseException") = some true
  nk_signs : PySem.W.nsIn K a.D_LENGTHS "signs" = some none
  nk_Next : PySem.W.nsIn K a.D_LENGTHS "Next" = some none
  ne_NoText_TimeError : (Value.ref a.C_NoText == Value.ref a.C_TimeError) = false
  i1_NoText : PySem.W.kitOne K (.ref a.C_NoText) (.ref a.C_TimeError) = some true
  i3_NoText : PySem.W.kitOne K (.ref a.C_NoText) (.type "ValueError") = some true
  i2_NoText : PySem.W.kitOne K (.ref a.C_NoText) (.ref a.C_NoText) = some true
  i4_NoText : PySem.W.kitAny K (.ref a.C_NoText) [.ref a.C_BadSentence, .ref a.C_BadWorld, .ref a.C_NoLine, .ref a.C_NoWorld] = some false
  g_HEADS : mg "HEADS" = some (.ref a.Y_HEADS)
  y_HEADS : ∀ H : Hp, SqT K H a.Y_HEADS [.str "not", .str "next", .str "always", .str "ever", .str "before", .str "once", .str "sofar", .str "all", .str "some"]
  g_BETWEEN : mg "BETWEEN" = some (.ref a.Y_BETWEEN)
  y_BETWEEN : ∀ H : Hp, SqT K H a.Y_BETWEEN [.str "until", .str "since"]
  g_JOINS : mg "JOINS" = some (.ref a.Y_JOINS)
  y_JOINS : ∀ H : Hp, SqT K H a.Y_JOINS [.str "and", .str "or"]
  g_TURNS : mg "TURNS" = some (.ref a.Y_TURNS)
  y_TURNS : ∀ H : Hp, SqT K H a.Y_TURNS [.str "0", .str "1", .str "2", .str "3", .str "4", .str "5"]
  g_BESIDE : mg "BESIDE" = some (.ref a.Y_BESIDE)
  y_BESIDE : ∀ H : Hp, SqT K H a.Y_BESIDE [.str "until", .str "since", .str "and", .str "or", .str "within", .str "0", .str "1", .str "2", .str "3", .str "4", .str "5"]
  g_LENGTHS : mg "LENGTHS" = some (.ref a.D_LENGTHS)
  d_LENGTHS : DicK K a.Pm a.D_LENGTHS [("all", 2), ("some", 2), ("not", 2), ("next", 2), ("always", 2), ("ever", 2), ("before", 2), ("once", 2), ("sofar", 2), ("until", 3), ("since", 3)]
  cl_Reader : Cls K a.C_Reader
  g_Reader : mg "Reader" = some (.ref a.C_Reader)
  mk_Reader : Mk K a.C_Reader a.Reader_init
  ic_Reader : PySem.W.kitOne K (.ref a.C_Reader) (.ref a.C_Reader) = some true
  t1_Reader : PySem.W.findIn K (.ref a.C_Reader) "__class__" = some (some (.builtin "object.__class__"))
  t2_Reader : PySem.W.specialIn K (.builtin "object.__class__") "__get__" = some (some (.builtin "getset_descriptor.__get__"))
  t3_Reader : PySem.W.takesIn K (.builtin "object.__class__") = some true
  t4_Reader : PySem.W.mroIn K a.C_Reader (.type "object") = some true
  na_Reader_waiting : NoAttr K a.C_Reader "waiting"
  na_Reader_found : NoAttr K a.C_Reader "found"
end KK

set_option Elab.async false
set_option linter.all false
set_option maxRecDepth 100000
set_option maxHeartbeats 8000000
namespace KK
open PySem PySem.Spec L2 L3
def sp_is_whole (K : PySem.W.Frag) (a : Adr) : Sp := fun vs H Q _ => ∃ x, vs = [x] ∧ Kd H x ∧ Q (.bl (isIntV x)) H
theorem ok_is_whole {P : Program} {w : World} {K : PySem.W.Frag} {mg : Str → Option Value} {base : Heap} {a : Adr} (T : Txt K mg a) (hw : w.params = a.Pm) : FnOk P w K mg base CX0 1 a.is_whole a.is_whole_fd ["thing"] (sp_is_whole K a) := by
  refine T.f_is_whole.ok sc_is_whole (fun vs H Q E h => ?_) (fun cdv A outer s H vs Q E hr h => ?_)
  · obtain ⟨x, rfl, _⟩ := h
    rfl
  · obtain ⟨x, rfl, hk, k⟩ := h
    refine ⟨_, (@pss_one _ _ _ (@ps_ret _ _ _ _ (pe_and (pe_callB (call_isiK (K := K) rfl "int") rfl T.b_isinstance PyProof.Rows.Boot.«isinstance» (@pa_cons _ _ _ _ _ (pv 0)
      (@pa_cons _ _ _ _ _ (pe_bltn (v := .ty "int") rfl T.b_int PyProof.Rows.Boot.«int» rfl)
      pa_nil
      (by rfl))
      (by rfl))) (pe_one (pe_not (pe_callB (call_isiK (K := K) rfl "bool") rfl T.b_isinstance PyProof.Rows.Boot.«isinstance» (@pa_cons _ _ _ _ _ (pv 0)
      (@pa_cons _ _ _ _ _ (pe_bltn (v := .ty "bool") rfl T.b_bool PyProof.Rows.Boot.«bool» rfl)
      pa_nil
      (by rfl))
      (by rfl)))))))), ?_⟩
    cases hb : isTy H "int" x with
    | false =>
      obtain ⟨t, h1, h2⟩ := isi_f K (by simp) hk hb
      have e : isIntV x = false := by cases hk <;> first | rfl | (simp [isTy] at hb)
      rw [e] at k
      exact ⟨_, rfl, _, t, _, rfl, h1, h2, _, rfl, iteF k⟩
    | true =>
      obtain ⟨t, h1, h2⟩ := isi_f K (by simp) hk hb
      obtain ⟨u, h3, h4⟩ := isi_f K (T := "bool") (by simp) hk rfl
      have e : isIntV x = !isTy H "bool" x := by
        cases hk with
        | lst e => simp [isTy, e] at hb
        | tup e => simp [isTy, e] at hb
        | dK e => simp [isTy, e] at hb
        | non => simp [isTy] at hb
        | str z hz => simp [isTy] at hb
        | bl b => rfl
        | int i => rfl
      rw [e] at k
      exact ⟨_, rfl, _, t, _, rfl, h1, h2, _, rfl, iteT ⟨_, rfl, _, u, _, rfl, h3, h4, _, rfl, k⟩⟩
def sp_is_name (K : PySem.W.Frag) (a : Adr) : Sp := fun vs H Q _ => ∃ x, vs = [x] ∧ Kd H x ∧ ∀ H', Same H H' → Q (.bl (isNameV x)) H'
theorem ok_is_name {P : Program} {w : World} {K : PySem.W.Frag} {mg : Str → Option Value} {base : Heap} {a : Adr} (T : Txt K mg a) (hw : w.params = a.Pm) : FnOk P w K mg base CX0 1 a.is_name a.is_name_fd ["thing"] (sp_is_name K a) := by
  refine T.f_is_name.ok sc_is_name (fun vs H Q E h => ?_) (fun cdv A outer s H vs Q E hr h => ?_)
  · obtain ⟨x, rfl, _⟩ := h
    rfl
  · obtain ⟨x, rfl, hk, k⟩ := h
    refine ⟨_, (@pss_cons _ _ _ _ _ (@ps_if _ _ _ _ _ _ _ _ (PW.pt (pw_or (@pt_not _ _ _ _ (pt_val (pe_callB (call_isiK (K := K) rfl "str") rfl T.b_isinstance PyProof.Rows.Boot.«isinstance» (@pa_cons _ _ _ _ _ (pv 0)
      (@pa_cons _ _ _ _ _ (pe_bltn (v := .ty "str") rfl T.b_str PyProof.Rows.Boot.«str» rfl)
      pa_nil
      (by rfl))
      (by rfl))))) (pw_or1 (@pt_not _ _ _ _ (pt_chain op_le op_le pe_int (pe_callB (call_lenK (K := K) rfl) rfl T.b_len PyProof.Rows.Boot.«len» (@pa_cons _ _ _ _ _ (pv 0)
      pa_nil
      (by rfl))) (pe_gc rfl T.c_MOST_LETTERS))))))
      (@pss_one _ _ _ (@ps_ret _ _ _ _ pe_bl))
      pss_nil)
      (@pss_one _ _ _ (@ps_ret _ _ _ _ (pe_callB (call_allK (K := K) rfl rfl) rfl T.b_all PyProof.Rows.Boot.«all» (@pa_cons _ _ _ _ _ (pe_comp (Nc := ["letter"]) (ix := [none]) (CompOk.of (by decide +kernel : compChk (defScope s_is_name) ["thing"] ["letter"] [none] _ = true)) rfl (pi_str (pv 0)) (fun _ _ _ _ _ => (pg_name (i := 0) (show List.Nodup (["letter"] : List Str) by decide +kernel) rfl (by first | exact Or.inl rfl | exact Or.inr rfl))) (fun _ _ _ _ _ => pts_nil) (fun _ _ _ _ _ => (@pe_cmpR _ _ _ _ _ _ _ _ op_in_str
      (pv 0)
      (pe_gc rfl T.c_LETTERS)
      (by with_unfolding_all rfl))))
      pa_nil
      (by rfl)))))), ?_⟩
    rcases kd_str hk with ⟨hb, z, rfl, hz⟩ | ⟨hb, e⟩
    · obtain ⟨t, h1, h2⟩ := isi_f K (by simp) hk hb
      refine ⟨_, rfl, _, t, _, rfl, h1, h2, _, rfl, iteF ?_⟩
      refine ⟨_, rfl, .inr (.inl ⟨z, rfl, by rw [sizeLine_eq]; omega, _, _, rfl, rfl, _, rfl, ?_⟩)⟩
      have fin : decide (1 ≤ (z.length : Int)) = true → decide ((z.length : Int) ≤ 8) = true → isNameV (.str z) = z.cps.toList.all isLow := fun a b => by
        have a' := of_decide_eq_true a
        have b' := of_decide_eq_true b
        have a2 : 1 ≤ z.length := by omega
        have b2 : z.length ≤ 8 := by omega
        simp [isNameV, isNameS, a2, b2]
      have nof : ¬ ((1 : Int) ≤ z.length ∧ (z.length : Int) ≤ 8) → isNameV (.str z) = false := fun q => by
        have : ¬ (1 ≤ z.length ∧ z.length ≤ 8) := by omega
        simp only [isNameV, isNameS]
        by_cases h1 : 1 ≤ z.length
        · have h2 : ¬ z.length ≤ 8 := fun h2 => this ⟨h1, h2⟩
          simp [h1, h2]
        · simp [h1]
      refine ite2 (fun c1 => ?_) (fun c1 => ?_)
      · refine ⟨_, _, rfl, rfl, _, rfl, ?_⟩
        cases c2 : decide ((z.length : Int) ≤ 8) with
        | false =>
          refine iteT ?_
          have q := k H (.refl H)
          rw [nof (fun q => by have := of_decide_eq_false c2; omega)] at q
          exact q
        | true =>
          refine iteF ⟨_, rfl, z, rfl, fun D hD => ?_⟩
          refine comp_gen (J := Its z) (n := z.cps.size) (fun i σ H' => Same H H' ∧ H' D = some (.lst ((z.cps.toList.take i).map fun c => V.bl (isLow c))) ∧ ∃ y, σ = [y]) ?_ (fun i σ H' hi _ => hi) (fun σ H' _ => Nat.le_refl _) ?_ ?_
          · exact ⟨same_upd hD, upd_same, _, rfl⟩
          · rintro i x σ H' H2 hi ⟨sm, hl, y, rfl⟩ ⟨rfl, c, hc, rfl⟩ N N0 hN hN0
            refine ⟨_, rfl, _, _, rfl, rfl, ?_⟩
            have el := PySem.StrLaws.found_one ("abcdefghijklmnopqrstuvwxyz" : Str) c
            refine hN _ _ _ _ hl (by rw [List.length_map, List.length_take, sizeLine_eq]; have : z.cps.size = z.length := rfl; omega) ⟨(SameX.upd (Same.x sm)).same hD, ?_, _, rfl⟩
            have hc' : z.cps.toList[i]? = some c := by rw [Array.getElem?_toList]; exact hc
            rw [upd_same, List.take_add_one, hc', List.map_append]
            refine congrArg (fun b => some (HO.lst (_ ++ [V.bl b]))) ?_
            rw [← mem_letters]
            exact el
          · rintro σ H' ⟨sm, hl, y, rfl⟩
            have et : z.cps.toList.take z.cps.size = z.cps.toList := by rw [← Array.length_toList]; exact List.take_length
            rw [et] at hl
            have q := k H' sm
            rw [fin c1 c2, ← all_id] at q
            exact ⟨D, z.cps.toList.map isLow, rfl, SqL.of (by rw [hl, List.map_map]; rfl), q⟩
      · refine ⟨_, rfl, iteT ?_⟩
        have q := k H (.refl H)
        rw [nof (fun q => c1 (decide_eq_true q.1))] at q
        exact q
    · obtain ⟨t, h1, h2⟩ := isi_f K (by simp) hk hb
      have q := k H (.refl H)
      rw [e] at q
      exact ⟨_, rfl, _, t, _, rfl, h1, h2, _, rfl, iteT (iteT q)⟩
end KK

set_option Elab.async false
set_option linter.all false
set_option maxRecDepth 100000
set_option maxHeartbeats 8000000
namespace KK
open PySem PySem.Spec L2 L3
def sp_last_ones (K : PySem.W.Frag) (a : Adr) : Sp := fun vs H Q _ => ∃ (p : Addr) (xs : List V) (m : Nat), vs = [.ref p, .int (m : Nat)] ∧ H p = some (.lst xs) ∧ m ≤ xs.length ∧ ∀ H' l, SameX p H H' → H' p = some (.lst (xs.take (xs.length - m))) → H l = none → H' l = some (.lst (xs.drop (xs.length - m))) → Q (.ref l) H'
theorem ok_last_ones {P : Program} {w : World} {K : PySem.W.Frag} {mg : Str → Option Value} {base : Heap} {a : Adr} (T : Txt K mg a) (hw : w.params = a.Pm) : FnOk P w K mg base CX0 1 a.last_ones a.last_ones_fd ["things", "many"] (sp_last_ones K a) := by
  refine T.f_last_ones.ok sc_last_ones (fun vs H Q E h => ?_) (fun cdv A outer s H vs Q E hr h => ?_)
  · obtain ⟨p, xs, m, rfl, _⟩ := h
    rfl
  · obtain ⟨p, xs, m, rfl, hp, hm, k⟩ := h
    refine ⟨_, (@pss_cons _ _ _ _ _ (@ps_set _ _ (2) _ _ _ _ sc_last_ones.nd
      rfl
      (by first | exact Or.inl rfl | exact Or.inr rfl)
      (@pe_op _ _ _ _ _ _ _ _ op_sub
      (pe_callB (call_lenK (K := K) rfl) rfl T.b_len PyProof.Rows.Boot.«len» (@pa_cons _ _ _ _ _ (pv 0)
      pa_nil
      (by rfl)))
      (pv 1))
      (by rfl)
      (by first | exact .inl rfl | exact .inr rfl | assumption))
      (@pss_cons _ _ _ _ _ (@ps_set _ _ (3) _ _ _ _ sc_last_ones.nd
      rfl
      (by first | exact Or.inl rfl | exact Or.inr rfl)
      (pe_slice (sl_listK (K := K) rfl) (pv 0) (po_some (pv 2)) po_none)
      (by rfl)
      (by first | exact .inl rfl | exact .inr rfl | assumption))
      (@pss_cons _ _ _ _ _ (ps_delFrom (pv 0) (pv 2))
      (@pss_one _ _ _ (@ps_ret _ _ _ _ (pv 3)))))), ?_⟩
    have e : (xs.length : Int) - (m : Int) = ((xs.length - m : Nat) : Int) := by omega
    refine ⟨_, rfl, .inl ⟨p, _, rfl, .inl (SqL.of hp), _, rfl, _, _, rfl, rfl, ?_⟩⟩
    refine ⟨_, rfl, _, rfl, ((xs.length - m : Nat) : Int), congrArg V.int e, p, xs, rfl, SqL.of hp, fun l hl => ?_⟩
    rw [cutV_from _ _ (by omega)]
    have np := ne_new hp hl
    refine ⟨_, rfl, _, rfl, p, xs, xs.length - m, rfl, congrArg V.int e, updK hp np, by omega, ?_⟩
    refine ⟨_, rfl, k _ l (Same.x (same_upd hl)).upd upd_same hl ?_⟩
    rw [upd_ne (Ne.symm np), upd_same]
end KK

set_option Elab.async false
set_option linter.all false
set_option maxRecDepth 100000
set_option maxHeartbeats 8000000
namespace KK
open PySem PySem.Spec L2 L3
def sp_is_formed (K : PySem.W.Frag) (a : Adr) : Sp := fun vs H Q _ => ∃ (v : V) (b : Bool), vs = [v] ∧ ((b = true ∧ FmT K H v) ∨ (b = false ∧ Fm K H v)) ∧ ∀ H', Same H H' → Q (.bl b) H'
theorem nw_of : ∀ w ∈ (["signs", "Next"] : List Str), w ≠ "yes" ∧ w ≠ "sign" ∧ w ∉ (["and", "or"] : List Str) ∧ w ≠ "within" := by decide +kernel
theorem nwx {w : Str} (h : w ∉ NW) : w ≠ "yes" ∧ w ≠ "sign" ∧ w ∉ (["and", "or"] : List Str) ∧ w ≠ "within" := by
  refine ⟨fun e => h (by rw [e]; simp), fun e => h (by rw [e]; simp), fun e => h ?_, fun e => h (by rw [e]; simp)⟩
  simp at e
  rcases e with rfl | rfl <;> simp
theorem ok_is_formed {P : Program} {w : World} {K : PySem.W.Frag} {mg : Str → Option Value} {base : Heap} {a : Adr} (T : Txt K mg a) (hw : w.params = a.Pm) : FnOk P w K mg base CX0 2 a.is_formed a.is_formed_fd ["thing"] (sp_is_formed K a) := by
  have G_is_whole := ok_is_whole (P := P) (w := w) (base := base) T hw
  have G_is_name := ok_is_name (P := P) (w := w) (base := base) T hw
  refine T.f_is_formed.ok sc_is_formed (fun vs H Q E h => ?_) (fun cdv A outer s H vs Q E hr h => ?_)
  · obtain ⟨v, b, rfl, _⟩ := h
    rfl
  · obtain ⟨v, b, rfl, hb, k⟩ := h
    refine ⟨_, (@pss_cons _ _ _ _ _ (@ps_if _ _ _ _ _ _ _ _ (PW.pt (pw_or (@pt_not _ _ _ _ (pt_val (pe_callB (call_isT (K := K) rfl) rfl T.b_isinstance PyProof.Rows.Boot.«isinstance» (@pa_cons _ _ _ _ _ (pv 0)
      (@pa_cons _ _ _ _ _ (pe_bltn (v := .ty "tuple") rfl T.b_tuple PyProof.Rows.Boot.«tuple» rfl)
      pa_nil
      (by rfl))
      (by rfl))))) (pw_or (@pt_cmpR _ _ _ _ _ _ _ _ op_eq
      (pe_callB (call_lenK (K := K) rfl) rfl T.b_len PyProof.Rows.Boot.«len» (@pa_cons _ _ _ _ _ (pv 0)
      pa_nil
      (by rfl)))
      pe_int
      (nomark _)) (pw_or1 (@pt_not _ _ _ _ (pt_val (pe_callB (call_isiK (K := K) rfl "str") rfl T.b_isinstance PyProof.Rows.Boot.«isinstance» (@pa_cons _ _ _ _ _ (@pe_ix _ _ _ _ _ _ _ (ix_tupK (K := K) rfl)
      (pv 0)
      pe_int
      (fun _ _ => rfl))
      (@pa_cons _ _ _ _ _ (pe_bltn (v := .ty "str") rfl T.b_str PyProof.Rows.Boot.«str» rfl)
      pa_nil
      (by rfl))
      (by rfl)))))))))
      (@pss_one _ _ _ (@ps_ret _ _ _ _ pe_bl))
      pss_nil)
      (@pss_cons _ _ _ _ _ (@ps_set _ _ (1) _ _ _ _ sc_is_formed.nd
      rfl
      (by first | exact Or.inl rfl | exact Or.inr rfl)
      (@pe_ix _ _ _ _ _ _ _ (ix_tupK (K := K) rfl)
      (pv 0)
      pe_int
      (fun _ _ => rfl))
      (by rfl)
      (by first | exact .inl rfl | exact .inr rfl | assumption))
      (@pss_cons _ _ _ _ _ (@ps_if _ _ _ _ _ _ _ _ (@pt_cmpR _ _ _ _ _ _ _ _ op_eq
      (pv 1)
      pe_str
      (nomark _))
      (@pss_one _ _ _ (@ps_ret _ _ _ _ (@pe_cmpR _ _ _ _ _ _ _ _ op_eq
      (pe_callB (call_lenK (K := K) rfl) rfl T.b_len PyProof.Rows.Boot.«len» (@pa_cons _ _ _ _ _ (pv 0)
      pa_nil
      (by rfl)))
      pe_int
      (nomark _))))
      pss_nil)
      (@pss_cons _ _ _ _ _ (@ps_if _ _ _ _ _ _ _ _ (@pt_cmpR _ _ _ _ _ _ _ _ op_eq
      (pv 1)
      pe_str
      (nomark _))
      (@pss_one _ _ _ (@ps_ret _ _ _ _ (pe_and (@pe_cmpR _ _ _ _ _ _ _ _ op_eq
      (pe_callB (call_lenK (K := K) rfl) rfl T.b_len PyProof.Rows.Boot.«len» (@pa_cons _ _ _ _ _ (pv 0)
      pa_nil
      (by rfl)))
      pe_int
      (nomark _)) (pe_one (pe_call G_is_name (hr.mono (by decide)) rfl T.g_is_name T.f_is_name.kp T.n_is_name .nil pass0 (@pa_cons _ _ _ _ _ (@pe_ix _ _ _ _ _ _ _ (ix_tupK (K := K) rfl)
      (pv 0)
      pe_int
      (fun _ _ => rfl))
      pa_nil
      (by rfl)))))))
      pss_nil)
      (@pss_cons _ _ _ _ _ (@ps_if _ _ _ _ _ _ _ _ (@pt_cmpR _ _ _ _ _ _ _ _ (op_inK (K := K) rfl)
      (pv 1)
      (@pe_tup _ _ _ _ _ (@pa_cons _ _ _ _ _ pe_str
      (@pa_cons _ _ _ _ _ pe_str
      pa_nil
      (by rfl))
      (by rfl)))
      (by with_unfolding_all rfl))
      (@pss_one _ _ _ (@ps_ret _ _ _ _ (pe_and (@pe_cmpR _ _ _ _ _ _ _ _ op_eq
      (pe_callB (call_lenK (K := K) rfl) rfl T.b_len PyProof.Rows.Boot.«len» (@pa_cons _ _ _ _ _ (pv 0)
      pa_nil
      (by rfl)))
      pe_int
      (nomark _)) (pe_one (pe_callB (call_isT (K := K) rfl) rfl T.b_isinstance PyProof.Rows.Boot.«isinstance» (@pa_cons _ _ _ _ _ (@pe_ix _ _ _ _ _ _ _ (ix_tupK (K := K) rfl)
      (pv 0)
      pe_int
      (fun _ _ => rfl))
      (@pa_cons _ _ _ _ _ (pe_bltn (v := .ty "tuple") rfl T.b_tuple PyProof.Rows.Boot.«tuple» rfl)
      pa_nil
      (by rfl))
      (by rfl)))))))
      pss_nil)
      (@pss_cons _ _ _ _ _ (@ps_if _ _ _ _ _ _ _ _ (@pt_cmpR _ _ _ _ _ _ _ _ op_eq
      (pv 1)
      pe_str
      (nomark _))
      (@pss_one _ _ _ (@ps_ret _ _ _ _ (pe_and (@pe_cmpR _ _ _ _ _ _ _ _ op_eq
      (pe_callB (call_lenK (K := K) rfl) rfl T.b_len PyProof.Rows.Boot.«len» (@pa_cons _ _ _ _ _ (pv 0)
      pa_nil
      (by rfl)))
      pe_int
      (nomark _)) (pe_and (pe_call G_is_whole (hr.mono (by decide)) rfl T.g_is_whole T.f_is_whole.kp T.n_is_whole .nil pass0 (@pa_cons _ _ _ _ _ (@pe_ix _ _ _ _ _ _ _ (ix_tupK (K := K) rfl)
      (pv 0)
      pe_int
      (fun _ _ => rfl))
      pa_nil
      (by rfl))) (pe_one (pe_chain op_le op_le pe_int (@pe_ix _ _ _ _ _ _ _ (ix_tupK (K := K) rfl)
      (pv 0)
      pe_int
      (fun _ _ => rfl)) (pe_gc rfl T.c_MOST_WITHIN)))))))
      pss_nil)
      (@pss_one _ _ _ (@ps_ret _ _ _ _ (pe_and (@pe_cmpR _ _ _ _ _ _ _ _ (op_inD2 (K := K) (P := a.Pm) rfl hw)
      (pv 1)
      (pe_gc (v := .ref a.D_LENGTHS) rfl ⟨_, T.g_LENGTHS, rfl⟩)
      (by with_unfolding_all rfl)) (pe_one (@pe_cmpR _ _ _ _ _ _ _ _ op_eq
      (pe_callB (call_lenK (K := K) rfl) rfl T.b_len PyProof.Rows.Boot.«len» (@pa_cons _ _ _ _ _ (pv 0)
      pa_nil
      (by rfl)))
      (@pe_ix _ _ _ _ _ _ _ (ix_dic (K := K) (P := a.Pm) rfl hw)
      (pe_gc (v := .ref a.D_LENGTHS) rfl ⟨_, T.g_LENGTHS, rfl⟩)
      (pv 1)
      (fun _ _ => rfl))
      (nomark _)))))))))))), ?_⟩
    rcases hb with ⟨rfl, hT⟩ | ⟨rfl, hF⟩
    · obtain ⟨ad, us, c, rfl, sh, ok⟩ := hT
      obtain ⟨xs, e⟩ := sh.tup
      obtain ⟨ty2, c3, c4⟩ := str_ty (K := K) (H := H) (wordL c)
      refine ⟨_, rfl, _, rfl, .inl ⟨ad, _, rfl, e, _, rfl, iteF ?_⟩⟩
      refine ⟨_, rfl, .inl ⟨ad, _, rfl, .inr e, rfl, _, rfl, iteN (fun z => by have := V.int.inj z; simp at this <;> omega) ?_⟩⟩
      refine ⟨_, rfl, ad, _, _, _, rfl, rfl, e, atI_nat (j := 0) rfl, _, ty2, _, rfl, c3, c4, _, rfl, iteF ?_⟩
      refine ⟨_, rfl, ad, _, _, _, rfl, rfl, e, atI_nat (j := 0) rfl, ?_⟩
      clear e c3 c4 ty2 xs
      revert sh ok
      cases c with
      | yes =>
        intro sh ok
        refine ⟨_, rfl, rfl, _, rfl, iteD rfl ?_⟩
        exact ⟨_, rfl, .inl ⟨ad, _, rfl, .inr (sh.2), rfl, qD (by rfl) (k _ (.refl _))⟩⟩
      | sign z =>
        intro sh ok
        refine ⟨_, rfl, rfl, _, rfl, iteN (fun z => (by decide +kernel : ¬ (("sign" : Str) = "yes")) (V.str.inj z)) ?_⟩
        refine ⟨_, rfl, rfl, _, rfl, iteD rfl ?_⟩
        refine ⟨_, rfl, .inl ⟨ad, _, rfl, .inr (sh.2), rfl, _, rfl, iteD (by rfl) ?_⟩⟩
        refine ⟨_, rfl, ad, _, _, _, rfl, rfl, sh.2, atI_nat (j := 1) rfl, .str z, rfl, .str z (Nat.le_trans (name_short ok.2) (by decide)), fun H' s' => ?_⟩
        have e : isNameV (.str z) = true := ok.2
        rw [e]
        exact k H' s'
      | op w =>
        intro sh ok
        obtain ⟨h1, h2, h3, h4, _⟩ := op_words w (by rcases ok with ok | ok; exact List.mem_append_left _ ok.1; exact List.mem_append_right _ ok.1)
        refine ⟨_, rfl, rfl, _, rfl, iteN (fun z => h1 (V.str.inj z)) ?_⟩
        refine ⟨_, rfl, rfl, _, rfl, iteN (fun z => h2 (V.str.inj z)) ?_⟩
        refine ⟨_, rfl, by rw [sizeLine_eq]; simp, fun q hq2 => ⟨q, _, rfl, .inr (SqT.of upd_same), rfl, rfl, _, rfl, iteNin (ss := ["and", "or"]) h3 ?_⟩⟩
        have s1 := same_upd (o := .tup [.str "and", .str "or"]) hq2
        have e1 := Same.tup s1 K _ _ sh
        generalize upd H q (.tup [.str "and", .str "or"]) = H1 at s1 e1 ⊢
        refine ⟨_, rfl, rfl, _, rfl, iteN (fun z => h4 (V.str.inj z)) ?_⟩
        obtain ⟨i, hm, hi⟩ : ∃ i : Int, (w, i) ∈ LK ∧ ((us.length + 1 : Nat) : Int) = i := by
          rcases ok with ⟨ok, o2⟩ | ⟨ok, o2⟩
          · exact ⟨2, lk1 w ok, by omega⟩
          · exact ⟨3, lk2 w ok, by omega⟩
        refine ⟨_, rfl, w, _, _, true, rfl, rfl, T.d_LENGTHS, .inl ⟨rfl, i, hm⟩, _, rfl, iteT ⟨_, rfl, .inl ⟨ad, _, rfl, .inr (e1), _, rfl, _, w, _, i, rfl, rfl, T.d_LENGTHS, hm, rfl, qD (congrArg V.int hi) (k _ s1)⟩⟩⟩
      | wit m =>
        intro sh ok
        refine ⟨_, rfl, rfl, _, rfl, iteN (fun z => (by decide +kernel : ¬ (("within" : Str) = "yes")) (V.str.inj z)) ?_⟩
        refine ⟨_, rfl, rfl, _, rfl, iteN (fun z => (by decide +kernel : ¬ (("within" : Str) = "sign")) (V.str.inj z)) ?_⟩
        refine ⟨_, rfl, by rw [sizeLine_eq]; simp, fun q hq2 => ⟨q, _, rfl, .inr (SqT.of upd_same), rfl, rfl, _, rfl, iteNin (ss := ["and", "or"]) (show ("within" : Str) ∉ (["and", "or"] : List Str) by decide +kernel) ?_⟩⟩
        have s1 := same_upd (o := .tup [.str "and", .str "or"]) hq2
        have e1 := Same.tup s1 K _ _ sh
        generalize upd H q (.tup [.str "and", .str "or"]) = H1 at s1 e1 ⊢
        refine ⟨_, rfl, rfl, _, rfl, iteD rfl ?_⟩
        have hu : us.length = 2 := ok.2
        refine ⟨_, rfl, .inl ⟨ad, _, rfl, .inr (e1), rfl, _, rfl, iteD (congrArg V.int (by simp [hu])) ?_⟩⟩
        refine ⟨_, rfl, ad, _, _, _, rfl, rfl, e1, atI_nat (j := 1) rfl, .int m, rfl, .int m, _, rfl, iteT ?_⟩
        exact ⟨_, rfl, ad, _, _, _, rfl, rfl, e1, atI_nat (j := 1) rfl, _, _, rfl, rfl, _, rfl, iteD ok.1.1 ⟨_, _, rfl, rfl, qD ok.1.2 (k _ s1)⟩⟩
      | many w =>
        intro sh ok
        obtain ⟨b, sh1, sh2⟩ := sh
        have hw0 : w ∈ (["and", "or"] : List Str) := by rcases ok.1 with rfl | rfl <;> simp
        obtain ⟨h1, h2, h3, _⟩ := many_words w hw0
        refine ⟨_, rfl, rfl, _, rfl, iteN (fun z => h1 (V.str.inj z)) ?_⟩
        refine ⟨_, rfl, rfl, _, rfl, iteN (fun z => h2 (V.str.inj z)) ?_⟩
        refine ⟨_, rfl, by rw [sizeLine_eq]; simp, fun q hq2 => ⟨q, _, rfl, .inr (SqT.of upd_same), rfl, rfl, _, rfl, iteIn (ss := ["and", "or"]) hw0 ?_⟩⟩
        have s1 := same_upd (o := .tup [.str "and", .str "or"]) hq2
        have e1 := Same.tup s1 K _ _ sh1
        have e2 := Same.tup s1 K _ _ sh2
        generalize upd H q (.tup [.str "and", .str "or"]) = H1 at s1 e1 e2 ⊢
        exact ⟨_, rfl, .inl ⟨ad, _, rfl, .inr (e1), rfl, _, rfl, iteD (by rfl) ⟨_, rfl, ad, _, _, _, rfl, rfl, e1, atI_nat (j := 1) rfl, _, rfl, .inl ⟨b, _, rfl, e2, k _ s1⟩⟩⟩⟩
    cases hF with
    | noT hk ht =>
      obtain ⟨t, h1, h2⟩ := isi_f K (by simp) hk ht
      exact ⟨_, rfl, _, rfl, .inr ⟨t, h1, h2, _, rfl, iteT (k _ (.refl _))⟩⟩
    | @emp ad e =>
      refine ⟨_, rfl, _, rfl, .inl ⟨ad, _, rfl, e, _, rfl, iteF ?_⟩⟩
      exact ⟨_, rfl, .inl ⟨ad, _, rfl, .inr e, rfl, _, rfl, iteD rfl (k _ (.refl _))⟩⟩
    | @noS ad x xs e hk ht =>
      obtain ⟨t, h1, h2⟩ := isi_f K (by simp) hk ht
      refine ⟨_, rfl, _, rfl, .inl ⟨ad, _, rfl, e, _, rfl, iteF ?_⟩⟩
      refine ⟨_, rfl, .inl ⟨ad, _, rfl, .inr e, rfl, _, rfl, iteN (fun z => by have := V.int.inj z; simp at this <;> omega) ?_⟩⟩
      exact ⟨_, rfl, ad, _, _, _, rfl, rfl, e, atI_nat (j := 0) rfl, _, t, _, rfl, h1, h2, _, rfl, iteT (k _ (.refl _))⟩
    | @yes ad xs e hl =>
      obtain ⟨ty2, c3, c4⟩ := str_ty (K := K) (H := H) "yes"
      refine ⟨_, rfl, _, rfl, .inl ⟨ad, _, rfl, e, _, rfl, iteF ?_⟩⟩
      refine ⟨_, rfl, .inl ⟨ad, _, rfl, .inr e, rfl, _, rfl, iteN (fun z => by have := V.int.inj z; simp at this <;> omega) ?_⟩⟩
      refine ⟨_, rfl, ad, _, _, _, rfl, rfl, e, atI_nat (j := 0) rfl, _, ty2, _, rfl, c3, c4, _, rfl, iteF ?_⟩
      refine ⟨_, rfl, ad, _, _, _, rfl, rfl, e, atI_nat (j := 0) rfl, ?_⟩
      refine ⟨_, rfl, rfl, _, rfl, iteD rfl ?_⟩
      exact ⟨_, rfl, .inl ⟨ad, _, rfl, .inr e, rfl, qN (fun z => by have := V.int.inj z; simp at this <;> omega) (k _ (.refl _))⟩⟩
    | @sgnL ad xs e hl =>
      obtain ⟨ty2, c3, c4⟩ := str_ty (K := K) (H := H) "sign"
      refine ⟨_, rfl, _, rfl, .inl ⟨ad, _, rfl, e, _, rfl, iteF ?_⟩⟩
      refine ⟨_, rfl, .inl ⟨ad, _, rfl, .inr e, rfl, _, rfl, iteN (fun z => by have := V.int.inj z; simp at this <;> omega) ?_⟩⟩
      refine ⟨_, rfl, ad, _, _, _, rfl, rfl, e, atI_nat (j := 0) rfl, _, ty2, _, rfl, c3, c4, _, rfl, iteF ?_⟩
      refine ⟨_, rfl, ad, _, _, _, rfl, rfl, e, atI_nat (j := 0) rfl, ?_⟩
      refine ⟨_, rfl, rfl, _, rfl, iteN (fun z => (by decide +kernel : ¬ (("sign" : Str) = "yes")) (V.str.inj z)) ?_⟩
      refine ⟨_, rfl, rfl, _, rfl, iteD rfl ?_⟩
      exact ⟨_, rfl, .inl ⟨ad, _, rfl, .inr e, rfl, _, rfl, iteN (fun z => by have := V.int.inj z; simp at this <;> omega) (k _ (.refl _))⟩⟩
    | @sgn ad x e hk hx =>
      obtain ⟨ty2, c3, c4⟩ := str_ty (K := K) (H := H) "sign"
      refine ⟨_, rfl, _, rfl, .inl ⟨ad, _, rfl, e, _, rfl, iteF ?_⟩⟩
      refine ⟨_, rfl, .inl ⟨ad, _, rfl, .inr e, rfl, _, rfl, iteN (fun z => by have := V.int.inj z; simp at this <;> omega) ?_⟩⟩
      refine ⟨_, rfl, ad, _, _, _, rfl, rfl, e, atI_nat (j := 0) rfl, _, ty2, _, rfl, c3, c4, _, rfl, iteF ?_⟩
      refine ⟨_, rfl, ad, _, _, _, rfl, rfl, e, atI_nat (j := 0) rfl, ?_⟩
      refine ⟨_, rfl, rfl, _, rfl, iteN (fun z => (by decide +kernel : ¬ (("sign" : Str) = "yes")) (V.str.inj z)) ?_⟩
      refine ⟨_, rfl, rfl, _, rfl, iteD rfl ?_⟩
      refine ⟨_, rfl, .inl ⟨ad, _, rfl, .inr e, rfl, _, rfl, iteD (by rfl) ?_⟩⟩
      refine ⟨_, rfl, ad, _, _, _, rfl, rfl, e, atI_nat (j := 1) rfl, x, rfl, hk, fun H' s' => ?_⟩
      rw [hx]
      exact k H' s'
    | @manyL ad w xs hw0 e hl =>
      obtain ⟨h1, h2, h3, _⟩ := many_words w hw0
      obtain ⟨ty2, c3, c4⟩ := str_ty (K := K) (H := H) w
      refine ⟨_, rfl, _, rfl, .inl ⟨ad, _, rfl, e, _, rfl, iteF ?_⟩⟩
      refine ⟨_, rfl, .inl ⟨ad, _, rfl, .inr e, rfl, _, rfl, iteN (fun z => by have := V.int.inj z; simp at this <;> omega) ?_⟩⟩
      refine ⟨_, rfl, ad, _, _, _, rfl, rfl, e, atI_nat (j := 0) rfl, _, ty2, _, rfl, c3, c4, _, rfl, iteF ?_⟩
      refine ⟨_, rfl, ad, _, _, _, rfl, rfl, e, atI_nat (j := 0) rfl, ?_⟩
      refine ⟨_, rfl, rfl, _, rfl, iteN (fun z => h1 (V.str.inj z)) ?_⟩
      refine ⟨_, rfl, rfl, _, rfl, iteN (fun z => h2 (V.str.inj z)) ?_⟩
      refine ⟨_, rfl, by rw [sizeLine_eq]; simp, fun q hq2 => ⟨q, _, rfl, .inr (SqT.of upd_same), rfl, rfl, _, rfl, iteIn (ss := ["and", "or"]) hw0 ?_⟩⟩
      have s1 := same_upd (o := .tup [.str "and", .str "or"]) hq2
      have e1 := Same.tup s1 K _ _ e
      generalize upd H q (.tup [.str "and", .str "or"]) = H1 at s1 e1 ⊢
      exact ⟨_, rfl, .inl ⟨ad, _, rfl, .inr (e1), rfl, _, rfl, iteN (fun z => by have := V.int.inj z; simp at this <;> omega) (k _ s1)⟩⟩
    | @manyN ad w x hw0 e hk ht =>
      obtain ⟨h1, h2, h3, _⟩ := many_words w hw0
      obtain ⟨ty2, c3, c4⟩ := str_ty (K := K) (H := H) w
      refine ⟨_, rfl, _, rfl, .inl ⟨ad, _, rfl, e, _, rfl, iteF ?_⟩⟩
      refine ⟨_, rfl, .inl ⟨ad, _, rfl, .inr e, rfl, _, rfl, iteN (fun z => by have := V.int.inj z; simp at this <;> omega) ?_⟩⟩
      refine ⟨_, rfl, ad, _, _, _, rfl, rfl, e, atI_nat (j := 0) rfl, _, ty2, _, rfl, c3, c4, _, rfl, iteF ?_⟩
      refine ⟨_, rfl, ad, _, _, _, rfl, rfl, e, atI_nat (j := 0) rfl, ?_⟩
      refine ⟨_, rfl, rfl, _, rfl, iteN (fun z => h1 (V.str.inj z)) ?_⟩
      refine ⟨_, rfl, rfl, _, rfl, iteN (fun z => h2 (V.str.inj z)) ?_⟩
      refine ⟨_, rfl, by rw [sizeLine_eq]; simp, fun q hq2 => ⟨q, _, rfl, .inr (SqT.of upd_same), rfl, rfl, _, rfl, iteIn (ss := ["and", "or"]) hw0 ?_⟩⟩
      have s1 := same_upd (o := .tup [.str "and", .str "or"]) hq2
      have e1 := Same.tup s1 K _ _ e
      generalize upd H q (.tup [.str "and", .str "or"]) = H1 at s1 e1 ⊢
      obtain ⟨t, h5, h6⟩ := isi_f K (by simp) (hk.mono s1) ((isTy_same s1 hk).trans ht)
      exact ⟨_, rfl, .inl ⟨ad, _, rfl, .inr (e1), rfl, _, rfl, iteD (by rfl) ⟨_, rfl, ad, _, _, _, rfl, rfl, e1, atI_nat (j := 1) rfl, _, rfl, .inr ⟨t, h5, h6, k _ s1⟩⟩⟩⟩
    | @witL ad xs e hl =>
      obtain ⟨ty2, c3, c4⟩ := str_ty (K := K) (H := H) "within"
      refine ⟨_, rfl, _, rfl, .inl ⟨ad, _, rfl, e, _, rfl, iteF ?_⟩⟩
      refine ⟨_, rfl, .inl ⟨ad, _, rfl, .inr e, rfl, _, rfl, iteN (fun z => by have := V.int.inj z; simp at this <;> omega) ?_⟩⟩
      refine ⟨_, rfl, ad, _, _, _, rfl, rfl, e, atI_nat (j := 0) rfl, _, ty2, _, rfl, c3, c4, _, rfl, iteF ?_⟩
      refine ⟨_, rfl, ad, _, _, _, rfl, rfl, e, atI_nat (j := 0) rfl, ?_⟩
      refine ⟨_, rfl, rfl, _, rfl, iteN (fun z => (by decide +kernel : ¬ (("within" : Str) = "yes")) (V.str.inj z)) ?_⟩
      refine ⟨_, rfl, rfl, _, rfl, iteN (fun z => (by decide +kernel : ¬ (("within" : Str) = "sign")) (V.str.inj z)) ?_⟩
      refine ⟨_, rfl, by rw [sizeLine_eq]; simp, fun q hq2 => ⟨q, _, rfl, .inr (SqT.of upd_same), rfl, rfl, _, rfl, iteNin (ss := ["and", "or"]) (show ("within" : Str) ∉ (["and", "or"] : List Str) by decide +kernel) ?_⟩⟩
      have s1 := same_upd (o := .tup [.str "and", .str "or"]) hq2
      have e1 := Same.tup s1 K _ _ e
      generalize upd H q (.tup [.str "and", .str "or"]) = H1 at s1 e1 ⊢
      refine ⟨_, rfl, rfl, _, rfl, iteD rfl ?_⟩
      exact ⟨_, rfl, .inl ⟨ad, _, rfl, .inr (e1), rfl, _, rfl, iteN (fun z => by have := V.int.inj z; simp at this <;> omega) (k _ s1)⟩⟩
    | @witN ad x y z e hk hx =>
      obtain ⟨ty2, c3, c4⟩ := str_ty (K := K) (H := H) "within"
      refine ⟨_, rfl, _, rfl, .inl ⟨ad, _, rfl, e, _, rfl, iteF ?_⟩⟩
      refine ⟨_, rfl, .inl ⟨ad, _, rfl, .inr e, rfl, _, rfl, iteN (fun z => by have := V.int.inj z; simp at this <;> omega) ?_⟩⟩
      refine ⟨_, rfl, ad, _, _, _, rfl, rfl, e, atI_nat (j := 0) rfl, _, ty2, _, rfl, c3, c4, _, rfl, iteF ?_⟩
      refine ⟨_, rfl, ad, _, _, _, rfl, rfl, e, atI_nat (j := 0) rfl, ?_⟩
      refine ⟨_, rfl, rfl, _, rfl, iteN (fun z => (by decide +kernel : ¬ (("within" : Str) = "yes")) (V.str.inj z)) ?_⟩
      refine ⟨_, rfl, rfl, _, rfl, iteN (fun z => (by decide +kernel : ¬ (("within" : Str) = "sign")) (V.str.inj z)) ?_⟩
      refine ⟨_, rfl, by rw [sizeLine_eq]; simp, fun q hq2 => ⟨q, _, rfl, .inr (SqT.of upd_same), rfl, rfl, _, rfl, iteNin (ss := ["and", "or"]) (show ("within" : Str) ∉ (["and", "or"] : List Str) by decide +kernel) ?_⟩⟩
      have s1 := same_upd (o := .tup [.str "and", .str "or"]) hq2
      have e1 := Same.tup s1 K _ _ e
      generalize upd H q (.tup [.str "and", .str "or"]) = H1 at s1 e1 ⊢
      refine ⟨_, rfl, rfl, _, rfl, iteD rfl ?_⟩
      refine ⟨_, rfl, .inl ⟨ad, _, rfl, .inr (e1), rfl, _, rfl, iteD (by rfl) ?_⟩⟩
      refine ⟨_, rfl, ad, _, _, _, rfl, rfl, e1, atI_nat (j := 1) rfl, x, rfl, hk.mono s1, ?_⟩
      rw [hx]
      exact ⟨_, rfl, iteF (k _ s1)⟩
    | @witM ad m y z e hm =>
      obtain ⟨ty2, c3, c4⟩ := str_ty (K := K) (H := H) "within"
      refine ⟨_, rfl, _, rfl, .inl ⟨ad, _, rfl, e, _, rfl, iteF ?_⟩⟩
      refine ⟨_, rfl, .inl ⟨ad, _, rfl, .inr e, rfl, _, rfl, iteN (fun z => by have := V.int.inj z; simp at this <;> omega) ?_⟩⟩
      refine ⟨_, rfl, ad, _, _, _, rfl, rfl, e, atI_nat (j := 0) rfl, _, ty2, _, rfl, c3, c4, _, rfl, iteF ?_⟩
      refine ⟨_, rfl, ad, _, _, _, rfl, rfl, e, atI_nat (j := 0) rfl, ?_⟩
      refine ⟨_, rfl, rfl, _, rfl, iteN (fun z => (by decide +kernel : ¬ (("within" : Str) = "yes")) (V.str.inj z)) ?_⟩
      refine ⟨_, rfl, rfl, _, rfl, iteN (fun z => (by decide +kernel : ¬ (("within" : Str) = "sign")) (V.str.inj z)) ?_⟩
      refine ⟨_, rfl, by rw [sizeLine_eq]; simp, fun q hq2 => ⟨q, _, rfl, .inr (SqT.of upd_same), rfl, rfl, _, rfl, iteNin (ss := ["and", "or"]) (show ("within" : Str) ∉ (["and", "or"] : List Str) by decide +kernel) ?_⟩⟩
      have s1 := same_upd (o := .tup [.str "and", .str "or"]) hq2
      have e1 := Same.tup s1 K _ _ e
      generalize upd H q (.tup [.str "and", .str "or"]) = H1 at s1 e1 ⊢
      refine ⟨_, rfl, rfl, _, rfl, iteD rfl ?_⟩
      refine ⟨_, rfl, .inl ⟨ad, _, rfl, .inr (e1), rfl, _, rfl, iteD (by rfl) ?_⟩⟩
      refine ⟨_, rfl, ad, _, _, _, rfl, rfl, e1, atI_nat (j := 1) rfl, .int m, rfl, .int m, _, rfl, iteT ?_⟩
      refine ⟨_, rfl, ad, _, _, _, rfl, rfl, e1, atI_nat (j := 1) rfl, _, _, rfl, rfl, _, rfl, ?_⟩
      by_cases h0 : 0 ≤ m
      · exact iteD h0 ⟨_, _, rfl, rfl, qN (fun h5 => hm ⟨h0, h5⟩) (k _ s1)⟩
      · exact iteN h0 (k _ s1)
    | @word ad w xs e hw1 =>
      obtain ⟨h1, h2, h3, h4⟩ := nw_of w hw1
      obtain ⟨ty2, c3, c4⟩ := str_ty (K := K) (H := H) w
      refine ⟨_, rfl, _, rfl, .inl ⟨ad, _, rfl, e, _, rfl, iteF ?_⟩⟩
      refine ⟨_, rfl, .inl ⟨ad, _, rfl, .inr e, rfl, _, rfl, iteN (fun z => by have := V.int.inj z; simp at this <;> omega) ?_⟩⟩
      refine ⟨_, rfl, ad, _, _, _, rfl, rfl, e, atI_nat (j := 0) rfl, _, ty2, _, rfl, c3, c4, _, rfl, iteF ?_⟩
      refine ⟨_, rfl, ad, _, _, _, rfl, rfl, e, atI_nat (j := 0) rfl, ?_⟩
      refine ⟨_, rfl, rfl, _, rfl, iteN (fun z => h1 (V.str.inj z)) ?_⟩
      refine ⟨_, rfl, rfl, _, rfl, iteN (fun z => h2 (V.str.inj z)) ?_⟩
      refine ⟨_, rfl, by rw [sizeLine_eq]; simp, fun q hq2 => ⟨q, _, rfl, .inr (SqT.of upd_same), rfl, rfl, _, rfl, iteNin (ss := ["and", "or"]) h3 ?_⟩⟩
      have s1 := same_upd (o := .tup [.str "and", .str "or"]) hq2
      have e1 := Same.tup s1 K _ _ e
      generalize upd H q (.tup [.str "and", .str "or"]) = H1 at s1 e1 ⊢
      refine ⟨_, rfl, rfl, _, rfl, iteN (fun z => h4 (V.str.inj z)) ?_⟩
      have hn : PySem.W.nsIn K a.D_LENGTHS w = some none := by
        simp at hw1
        rcases hw1 with rfl | rfl
        · exact T.nk_signs
        · exact T.nk_Next
      exact ⟨_, rfl, w, _, _, false, rfl, rfl, T.d_LENGTHS, .inr ⟨rfl, hn⟩, _, rfl, iteF (k _ s1)⟩
    | @lens ad w i xs e hw1 hm hi =>
      obtain ⟨h1, h2, h3, h4⟩ := nwx hw1
      obtain ⟨ty2, c3, c4⟩ := str_ty (K := K) (H := H) w
      refine ⟨_, rfl, _, rfl, .inl ⟨ad, _, rfl, e, _, rfl, iteF ?_⟩⟩
      refine ⟨_, rfl, .inl ⟨ad, _, rfl, .inr e, rfl, _, rfl, iteN (fun z => by have := V.int.inj z; simp at this <;> omega) ?_⟩⟩
      refine ⟨_, rfl, ad, _, _, _, rfl, rfl, e, atI_nat (j := 0) rfl, _, ty2, _, rfl, c3, c4, _, rfl, iteF ?_⟩
      refine ⟨_, rfl, ad, _, _, _, rfl, rfl, e, atI_nat (j := 0) rfl, ?_⟩
      refine ⟨_, rfl, rfl, _, rfl, iteN (fun z => h1 (V.str.inj z)) ?_⟩
      refine ⟨_, rfl, rfl, _, rfl, iteN (fun z => h2 (V.str.inj z)) ?_⟩
      refine ⟨_, rfl, by rw [sizeLine_eq]; simp, fun q hq2 => ⟨q, _, rfl, .inr (SqT.of upd_same), rfl, rfl, _, rfl, iteNin (ss := ["and", "or"]) h3 ?_⟩⟩
      have s1 := same_upd (o := .tup [.str "and", .str "or"]) hq2
      have e1 := Same.tup s1 K _ _ e
      generalize upd H q (.tup [.str "and", .str "or"]) = H1 at s1 e1 ⊢
      refine ⟨_, rfl, rfl, _, rfl, iteN (fun z => h4 (V.str.inj z)) ?_⟩
      exact ⟨_, rfl, w, _, _, true, rfl, rfl, T.d_LENGTHS, .inl ⟨rfl, i, hm⟩, _, rfl, iteT ⟨_, rfl, .inl ⟨ad, _, rfl, .inr (e1), _, rfl, _, w, _, i, rfl, rfl, T.d_LENGTHS, hm, rfl, qN (fun z => hi (V.int.inj z)) (k _ s1)⟩⟩⟩
end KK

set_option Elab.async false
set_option linter.all false
set_option maxRecDepth 100000
set_option maxHeartbeats 8000000
namespace KK
open PySem PySem.Spec L2 L3
def sp_inner_of (K : PySem.W.Frag) (a : Adr) : Sp := fun vs H Q _ => ∃ (v : V) (ad : Addr) (us : List V) (c : Lb), vs = [v] ∧ v = .ref ad ∧ Shape K H ad us c ∧ lbOkB c us.length ∧ ∀ H' b, Same H H' → SqT K H' b us → Q (.ref b) H'
theorem cutV_two (x y : V) (vs : List V) : cutV (x :: y :: vs) (some 2) none = vs := by
  have := cutV_from (x :: y :: vs) 2 (by simp)
  exact this
theorem cutV_one (x : V) (vs : List V) : cutV (x :: vs) (some 1) none = vs := by
  have := cutV_from (x :: vs) 1 (by simp)
  exact this
theorem cut_not {n : Nat} {k : Int} (h : 0 < k) (hn : (k : Int) ≤ n) : ¬ (HT.sIx n 0 (some k) = 0 ∧ HT.sIx n n none = n) := by
  rintro ⟨h1, _⟩
  have h2 : ¬ (k < 0) := by omega
  unfold HT.sIx at h1
  simp only [h2, if_false] at h1
  omega
theorem ok_inner_of {P : Program} {w : World} {K : PySem.W.Frag} {mg : Str → Option Value} {base : Heap} {a : Adr} (T : Txt K mg a) (hw : w.params = a.Pm) : FnOk P w K mg base CX0 1 a.inner_of a.inner_of_fd ["sentence"] (sp_inner_of K a) := by
  refine T.f_inner_of.ok sc_inner_of (fun vs H Q E h => ?_) (fun cdv A outer s H vs Q E hr h => ?_)
  · obtain ⟨v, ad, us, c, rfl, _⟩ := h
    rfl
  · obtain ⟨v, ad, us, c, rfl, rfl, sh, ok, k⟩ := h
    refine ⟨_, (@pss_cons _ _ _ _ _ (@ps_set _ _ (1) _ _ _ _ sc_inner_of.nd
      rfl
      (by first | exact Or.inl rfl | exact Or.inr rfl)
      (@pe_ix _ _ _ _ _ _ _ (ix_tupK (K := K) rfl)
      (pv 0)
      pe_int
      (fun _ _ => rfl))
      (by rfl)
      (by first | exact .inl rfl | exact .inr rfl | assumption))
      (@pss_cons _ _ _ _ _ (@ps_if _ _ _ _ _ _ _ _ (@pt_cmpR _ _ _ _ _ _ _ _ (op_inK (K := K) rfl)
      (pv 1)
      (@pe_tup _ _ _ _ _ (@pa_cons _ _ _ _ _ pe_str
      (@pa_cons _ _ _ _ _ pe_str
      pa_nil
      (by rfl))
      (by rfl)))
      (by with_unfolding_all rfl))
      (@pss_one _ _ _ (@ps_ret _ _ _ _ (@pe_tup _ _ _ _ _ pa_nil)))
      pss_nil)
      (@pss_cons _ _ _ _ _ (@ps_if _ _ _ _ _ _ _ _ (@pt_cmpR _ _ _ _ _ _ _ _ (op_inK (K := K) rfl)
      (pv 1)
      (@pe_tup _ _ _ _ _ (@pa_cons _ _ _ _ _ pe_str
      (@pa_cons _ _ _ _ _ pe_str
      pa_nil
      (by rfl))
      (by rfl)))
      (by with_unfolding_all rfl))
      (@pss_one _ _ _ (@ps_ret _ _ _ _ (@pe_ix _ _ _ _ _ _ _ (ix_tupK (K := K) rfl)
      (pv 0)
      pe_int
      (fun _ _ => rfl))))
      pss_nil)
      (@pss_cons _ _ _ _ _ (@ps_if _ _ _ _ _ _ _ _ (@pt_cmpR _ _ _ _ _ _ _ _ op_eq
      (pv 1)
      pe_str
      (nomark _))
      (@pss_one _ _ _ (@ps_ret _ _ _ _ (pe_slice (sl_tupK (K := K) rfl) (pv 0) (po_some pe_int) po_none)))
      pss_nil)
      (@pss_one _ _ _ (@ps_ret _ _ _ _ (pe_slice (sl_tupK (K := K) rfl) (pv 0) (po_some pe_int) po_none))))))), ?_⟩
    obtain ⟨xs, e⟩ := sh.tup
    refine ⟨_, rfl, ad, _, _, _, rfl, rfl, e, atI_nat (j := 0) rfl, ?_⟩
    refine ⟨_, rfl, by rw [sizeLine_eq]; simp, fun q hq2 => ⟨q, _, rfl, .inr (SqT.of upd_same), rfl, rfl, _, rfl, ?_⟩⟩
    have s1 := same_upd (o := .tup [.str "yes", .str "sign"]) hq2
    generalize upd H q (.tup [.str "yes", .str "sign"]) = H1 at s1 ⊢
    have sh1 := sh.mono (Same.tup s1)
    clear e xs sh
    revert sh1 ok
    cases c with
    | yes =>
      intro ok sh
      refine iteIn (ss := ["yes", "sign"]) (by decide +kernel) ⟨by rw [sizeLine_eq]; simp, fun r hr => ?_⟩
      have h0 := sh.1
      subst h0
      exact k _ r (s1.trans (same_upd hr)) (SqT.of upd_same)
    | sign z =>
      intro ok sh
      refine iteIn (ss := ["yes", "sign"]) (show ("sign" : Str) ∈ (["yes", "sign"] : List Str) by decide +kernel) ⟨by rw [sizeLine_eq]; simp, fun r hr => ?_⟩
      have h0 := sh.1
      subst h0
      exact k _ r (s1.trans (same_upd hr)) (SqT.of upd_same)
    | op w =>
      intro ok sh
      obtain ⟨h1, h2, h3, h4, h5⟩ := op_words w (by rcases ok with ok | ok; exact List.mem_append_left _ ok.1; exact List.mem_append_right _ ok.1)
      refine iteNin (ss := ["yes", "sign"]) h5 ?_
      refine ⟨_, rfl, by rw [sizeLine_eq]; simp, fun q3 hq3 => ⟨q3, _, rfl, .inr (SqT.of upd_same), rfl, rfl, _, rfl, iteNin (ss := ["and", "or"]) h3 ?_⟩⟩
      have s2 := same_upd (o := .tup [.str "and", .str "or"]) hq3
      generalize upd H1 q3 (.tup [.str "and", .str "or"]) = H2 at s2 ⊢
      refine ⟨_, rfl, rfl, _, rfl, iteN (fun z => h4 (V.str.inj z)) ?_⟩
      refine ⟨_, rfl, _, rfl, ad, _, rfl, (Same.tup s2 K _ _ sh), cut_not (by decide) (by simp; omega), fun r hr => ?_⟩
      rw [cutV_one]
      exact k _ r ((s1.trans s2).trans (same_upd hr)) (SqT.of upd_same)
    | wit m =>
      intro ok sh
      refine iteNin (ss := ["yes", "sign"]) (show ("within" : Str) ∉ (["yes", "sign"] : List Str) by decide +kernel) ?_
      refine ⟨_, rfl, by rw [sizeLine_eq]; simp, fun q3 hq3 => ⟨q3, _, rfl, .inr (SqT.of upd_same), rfl, rfl, _, rfl, iteNin (ss := ["and", "or"]) (show ("within" : Str) ∉ (["and", "or"] : List Str) by decide +kernel) ?_⟩⟩
      have s2 := same_upd (o := .tup [.str "and", .str "or"]) hq3
      generalize upd H1 q3 (.tup [.str "and", .str "or"]) = H2 at s2 ⊢
      refine ⟨_, rfl, rfl, _, rfl, iteD rfl ?_⟩
      refine ⟨_, rfl, _, rfl, ad, _, rfl, (Same.tup s2 K _ _ sh), cut_not (by decide) (by simp; omega), fun r hr => ?_⟩
      rw [cutV_two]
      exact k _ r ((s1.trans s2).trans (same_upd hr)) (SqT.of upd_same)
    | many w =>
      intro ok sh
      have hw0 : w ∈ (["and", "or"] : List Str) := by rcases ok.1 with rfl | rfl <;> simp
      obtain ⟨h1, h2, h3, h4, _⟩ := many_words w hw0
      obtain ⟨b, sh1, sh2⟩ := sh
      refine iteNin (ss := ["yes", "sign"]) h4 ?_
      refine ⟨_, rfl, by rw [sizeLine_eq]; simp, fun q3 hq3 => ⟨q3, _, rfl, .inr (SqT.of upd_same), rfl, rfl, _, rfl, iteIn (ss := ["and", "or"]) hw0 ?_⟩⟩
      have s2 := same_upd (o := .tup [.str "and", .str "or"]) hq3
      generalize upd H1 q3 (.tup [.str "and", .str "or"]) = H2 at s2 ⊢
      exact ⟨_, rfl, ad, _, _, _, rfl, rfl, (Same.tup s2 K _ _ sh1), atI_nat (j := 1) rfl, k _ b (s1.trans s2) (Same.tup s2 K _ _ sh2)⟩
end KK

set_option Elab.async false
set_option linter.all false
set_option maxRecDepth 100000
set_option maxHeartbeats 8000000
namespace KK
open PySem PySem.Spec L2 L3
theorem len_postL : ∀ ts : List Tr, ts.length ≤ (postL ts).length
  | [] => by simp [postL]
  | t :: r => by
    have := len_postL r
    rw [postL, List.length_append, List.length_cons, post_eq t, List.length_append]
    simp
    omega
def sp_inner_ahead (K : PySem.W.Frag) (a : Adr) : Sp := fun vs H Q _ => ∃ (v : V) (t : Tr) (n : Nat), vs = [v] ∧ At K n H v t ∧ (post t).length ≤ 2000000 ∧ ∀ H' l us, Same H H' → H l = none → H' l = some (.lst us) → AtL K n H' us (post t) → Q (.ref l) H'
theorem ok_inner_ahead {P : Program} {w : World} {K : PySem.W.Frag} {mg : Str → Option Value} {base : Heap} {a : Adr} (T : Txt K mg a) (hw : w.params = a.Pm) : FnOk P w K mg base CX0 3 a.inner_ahead a.inner_ahead_fd ["sentence"] (sp_inner_ahead K a) := by
  have G_is_formed := ok_is_formed (P := P) (w := w) (base := base) T hw
  have G_inner_of := ok_inner_of (P := P) (w := w) (base := base) T hw
  refine T.f_inner_ahead.ok sc_inner_ahead (fun vs H Q E h => ?_) (fun cdv A outer s H vs Q E hr h => ?_)
  · obtain ⟨v, t, n, rfl, _⟩ := h
    rfl
  · obtain ⟨v, t, n, rfl, hat, hz, k⟩ := h
    refine ⟨_, (@pss_cons _ _ _ _ _ (@ps_set _ _ (1) _ _ _ _ sc_inner_ahead.nd
      rfl
      (by first | exact Or.inl rfl | exact Or.inr rfl)
      (@pe_lst _ _ _ _ pa_nil)
      (by rfl)
      (by first | exact .inl rfl | exact .inr rfl | assumption))
      (@pss_cons _ _ _ _ _ (@ps_set _ _ (2) _ _ _ _ sc_inner_ahead.nd
      rfl
      (by first | exact Or.inl rfl | exact Or.inr rfl)
      (@pe_lst _ _ _ _ (@pa_cons _ _ _ _ _ (pv 0)
      pa_nil
      (by rfl)))
      (by rfl)
      (by first | exact .inl rfl | exact .inr rfl | assumption))
      (@pss_cons _ _ _ _ _ (ps_while PassesOwn.never (pt_truthK (K := K) rfl (pv 2) (fun _ => rfl)) (@pss_cons _ _ _ _ _ (@ps_set _ _ (3) _ _ _ _ sc_inner_ahead.nd
      rfl
      (by first | exact Or.inl rfl | exact Or.inr rfl)
      (pe_bm0 PySem.F.plainAttrs_list PySem.F.slot_list_pop PySem.F.type_list_pop mt_pop (pv 2))
      (by rfl)
      (by first | exact .inl rfl | exact .inr rfl | assumption))
      (@pss_cons _ _ _ _ _ (@ps_if _ _ _ _ _ _ _ _ (@pt_not _ _ _ _ (pt_val (pe_call G_is_formed (hr.mono (by decide)) rfl T.g_is_formed T.f_is_formed.kp T.n_is_formed .nil pass0 (@pa_cons _ _ _ _ _ (pv 3)
      pa_nil
      (by rfl)))))
      (@pss_one _ _ _ ps_never)
      pss_nil)
      (@pss_cons _ _ _ _ _ (@ps_expr _ _ _ _ (pe_bm PySem.F.plainAttrs_list PySem.F.slot_list_append PySem.F.type_list_append mt_append (pv 1) (@pa_cons _ _ _ _ _ (pv 3)
      pa_nil
      (by rfl)))
      (by rfl))
      (@pss_one _ _ _ (@ps_expr _ _ _ _ (pe_bm PySem.F.plainAttrs_list PySem.F.slot_list_extend PySem.F.type_list_extend (mt_extendT (K := K) rfl) (pv 2) (@pa_cons _ _ _ _ _ (pe_call G_inner_of (hr.mono (by decide)) rfl T.g_inner_of T.f_inner_of.kp T.n_inner_of .nil pass0 (@pa_cons _ _ _ _ _ (pv 3)
      pa_nil
      (by rfl)))
      pa_nil
      (by rfl)))
      (by rfl)))))))
      (@pss_one _ _ _ (@ps_ret _ _ _ _ (pe_revK (K := K) rfl (pv 1) (po_some (pe_un un_neg pe_int)))))))), ?_⟩
    cases n with
    | zero => exact hat.elim
    | succ n =>
      refine ⟨by decide, fun F hF => ?_⟩
      have s1 := same_upd (o := .lst []) hF
      have e1 : (upd H F (.lst [])) F = some (.lst []) := upd_same
      generalize upd H F (.lst []) = H1 at s1 e1 ⊢
      refine ⟨_, rfl, by rw [sizeLine_eq]; simp, fun W hW => ?_⟩
      have s2 := same_upd (o := .lst [v]) hW
      have e2 : (upd H1 W (.lst [v])) W = some (.lst [v]) := upd_same
      have nFW : F ≠ W := ne_new e1 hW
      have e1' := s2 _ _ e1
      generalize upd H1 W (.lst [v]) = H2 at s2 e2 e1' ⊢
      have hW0 : H W = none := s1.free hW
      have at2 := hat.mono (Same.tup (s1.trans s2))
      refine ⟨fun m σ H' => ∃ (z : Option V) (ws fs : List V) (tw tf : List Tr), σ = [some v, some (.ref F), some (.ref W), z] ∧ Same H H' ∧ H' F = some (.lst fs) ∧ H' W = some (.lst ws) ∧ AtL K (n + 1) H' ws tw ∧ AtL K (n + 1) H' fs tf ∧ tf ++ (postL tw).reverse = (post t).reverse ∧ m = (postL tw).length, ⟨_, _, [v], [], [t], [], rfl, s1.trans s2, e1', e2, AtL.one at2, AtL.nil, by rw [postL_one]; rfl, rfl⟩, ?_⟩
      rintro m σ H3 ⟨z, ws, fs, tw, tf, rfl, s3, hF3, hW3, aw, af, he, rfl⟩
      have hlen : tf.length + (postL tw).length = (post t).length := by have := congrArg List.length he; simpa using this
      have hwl := len_postL tw
      have hwl2 := aw.1
      have hfl2 := af.1
      refine ⟨_, rfl, !ws.isEmpty, ?tru, ?_⟩
      case tru => exact .inl ⟨_, SqL.of hW3, rfl⟩
      cases hws : ws.isEmpty with
      | true =>
        have e0 : ws = [] := List.isEmpty_iff.mp hws
        subst e0
        have et : tw = [] := List.length_eq_zero_iff.mp hwl2.symm
        subst et
        refine iteF ?_
        rw [postL, List.reverse_nil, List.append_nil] at he
        refine ⟨_, rfl, _, rfl, _, rfl, F, _, rfl, rfl, SqL.of hF3, fun p hp => ?_⟩
        have ar := af.rev
        rw [he, List.reverse_reverse] at ar
        exact k _ p _ (s3.trans (same_upd hp)) (s3.free hp) upd_same (ar.mono (Same.tup (same_upd hp)))
      | false =>
        have hne : ws ≠ [] := fun e => by rw [e] at hws; cases hws
        obtain ⟨us, u, rs, r, ew, etw, aus, au⟩ := aw.last hne
        subst ew etw
        refine iteT ?_
        refine ⟨fun σ H' => ∃ (z : Option V) (ws fs : List V) (tw tf : List Tr), σ = [some v, some (.ref F), some (.ref W), z] ∧ Same H H' ∧ H' F = some (.lst fs) ∧ H' W = some (.lst ws) ∧ AtL K (n + 1) H' ws tw ∧ AtL K (n + 1) H' fs tf ∧ tf ++ (postL tw).reverse = (post t).reverse ∧ (postL tw).length < (postL (rs ++ [r])).length, ?_, ?_⟩
        · rintro σ' H' ⟨z', ws', fs', tw', tf', rfl, a1, a2, a3, a4, a5, a6, a7⟩
          exact ⟨_, a7, z', ws', fs', tw', tf', rfl, a1, a2, a3, a4, a5, a6, rfl⟩
        refine ⟨_, rfl, .inl ⟨rfl, _, SqL.of hW3⟩, W, _, u, rfl, rfl, hW3, by simp, ?_⟩
        rw [List.dropLast_concat]
        have x4 : SameX W H3 (upd H3 W (.lst us)) := (SameX.refl H3).upd
        have t4 : SameT H3 (upd H3 W (.lst us)) := SameX.tup x4 hW3
        have hF4 : (upd H3 W (.lst us)) F = some (.lst fs) := updK hF3 nFW
        have hW4 : (upd H3 W (.lst us)) W = some (.lst us) := upd_same
        have s4 : Same H (upd H3 W (.lst us)) := ((Same.x s3).upd).same hW0
        generalize upd H3 W (.lst us) = H4 at x4 t4 hF4 hW4 s4 ⊢
        have au4 := au.mono t4
        refine ⟨_, rfl, u, true, rfl, .inl ⟨rfl, au4.fmT⟩, fun H5 s5 => ⟨_, rfl, iteF ?_⟩⟩
        have hF5 := s5 _ _ hF4
        have hW5 := s5 _ _ hW4
        have tur := post_turn rs r
        have tl := congrArg List.length tur
        simp at tl
        refine ⟨_, rfl, .inl ⟨rfl, _, SqL.of hF5⟩, _, rfl, F, _, _, rfl, rfl, hF5, by rw [sizeLine_eq]; omega, ?_⟩
        have x6 : SameX F H5 (upd H5 F (.lst (fs ++ [u]))) := (SameX.refl H5).upd
        have t6 : SameT H5 (upd H5 F (.lst (fs ++ [u]))) := SameX.tup x6 hF5
        have hF6 : (upd H5 F (.lst (fs ++ [u]))) F = some (.lst (fs ++ [u])) := upd_same
        have hW6 : (upd H5 F (.lst (fs ++ [u]))) W = some (.lst us) := updK hW5 (Ne.symm nFW)
        have s6 : Same H (upd H5 F (.lst (fs ++ [u]))) := ((Same.x (s4.trans s5)).upd).same hF
        generalize upd H5 F (.lst (fs ++ [u])) = H6 at x6 t6 hF6 hW6 s6 ⊢
        have t46 : SameT H3 H6 := t4.trans ((Same.tup s5).trans t6)
        obtain ⟨ad7, ks7, eu7, sh7, ok7, hl7, hq7⟩ := au.mono t46
        refine ⟨_, rfl, .inl ⟨rfl, _, SqL.of hW6⟩, _, rfl, u, ad7, ks7, r.lb, rfl, eu7, sh7, by rw [hl7]; exact ok7.b, fun H7 b s7 eb => ?_⟩
        have aL : AtL K n H7 ks7 r.ks := AtL.mono (Same.tup s7) ⟨hl7, hq7⟩
        have hW7 := s7 _ _ hW6
        have hkl := aL.1
        have hll := len_postL (rs ++ r.ks)
        simp at hll
        have hul := aus.1
        refine ⟨W, b, _, _, rfl, rfl, hW7, eb, by rw [sizeLine_eq]; omega, ?_⟩
        have x8 : SameX W H7 (upd H7 W (.lst (us ++ ks7))) := (SameX.refl H7).upd
        have t8 : SameT H7 (upd H7 W (.lst (us ++ ks7))) := SameX.tup x8 hW7
        have t38 : SameT H3 (upd H7 W (.lst (us ++ ks7))) := t46.trans ((Same.tup s7).trans t8)
        refine ⟨_, us ++ ks7, fs ++ [u], rs ++ r.ks, tf ++ [r], rfl, ((Same.x (s6.trans s7)).upd).same hW0, updK (s7 _ _ hF6) nFW, upd_same, (aus.mono t38).app ((aL.le (Nat.le_succ n)).mono t8), (af.mono t38).app (AtL.one (au.mono t38)), ?_, ?_⟩
        · rw [tur] at he
          rw [List.append_assoc]
          exact he
        · omega
end KK

set_option Elab.async false
set_option linter.all false
set_option maxRecDepth 100000
set_option maxHeartbeats 8000000
namespace KK
open PySem PySem.Spec L2 L3
def sp_words_with (K : PySem.W.Frag) (a : Adr) : Sp := fun vs H Q _ => ∃ (v : V) (c : Lb) (ks : List Tr) (n : Nat) (p : Addr) (ts : List Str), vs = [v, .ref p] ∧ At K n H v (.node c ks) ∧ H p = some (.lst (ts.map V.str)) ∧ ts.length = ks.length ∧ (∀ z, c = .sign z → plainS z) ∧ ∀ H' l, Same H H' → H l = none → H' l = some (.lst ((wwF c ts).map V.str)) → Q (.ref l) H'
theorem ok_words_with {P : Program} {w : World} {K : PySem.W.Frag} {mg : Str → Option Value} {base : Heap} {a : Adr} (T : Txt K mg a) (hw : w.params = a.Pm) : FnOk P w K mg base CX0 1 a.words_with a.words_with_fd ["sentence", "inner"] (sp_words_with K a) := by
  refine T.f_words_with.ok sc_words_with (fun vs H Q E h => ?_) (fun cdv A outer s H vs Q E hr h => ?_)
  · obtain ⟨v, c, ks, n, p, ts, rfl, _⟩ := h
    rfl
  · obtain ⟨v, c, ks, n, p, ts, rfl, hat, hp, hl, hpl, k⟩ := h
    refine ⟨_, (@pss_cons _ _ _ _ _ (@ps_set _ _ (2) _ _ _ _ sc_words_with.nd
      rfl
      (by first | exact Or.inl rfl | exact Or.inr rfl)
      (@pe_ix _ _ _ _ _ _ _ (ix_tupK (K := K) rfl)
      (pv 0)
      pe_int
      (fun _ _ => rfl))
      (by rfl)
      (by first | exact .inl rfl | exact .inr rfl | assumption))
      (@pss_cons _ _ _ _ _ (@ps_if _ _ _ _ _ _ _ _ (@pt_cmpR _ _ _ _ _ _ _ _ op_eq
      (pv 2)
      pe_str
      (nomark _))
      (@pss_one _ _ _ (@ps_ret _ _ _ _ (@pe_lst _ _ _ _ (@pa_cons _ _ _ _ _ (pv 2)
      pa_nil
      (by rfl)))))
      pss_nil)
      (@pss_cons _ _ _ _ _ (@ps_if _ _ _ _ _ _ _ _ (@pt_cmpR _ _ _ _ _ _ _ _ op_eq
      (pv 2)
      pe_str
      (nomark _))
      (@pss_cons _ _ _ _ _ (@ps_if _ _ _ _ _ _ _ _ (PW.pt (pw_or (@pt_cmpR _ _ _ _ _ _ _ _ op_eq
      (@pe_ix _ _ _ _ _ _ _ (ix_tupK (K := K) rfl)
      (pv 0)
      pe_int
      (fun _ _ => rfl))
      pe_str
      (nomark _)) (pw_or (@pt_cmpR _ _ _ _ _ _ _ _ (op_inK (K := K) rfl)
      (@pe_ix _ _ _ _ _ _ _ (ix_tupK (K := K) rfl)
      (pv 0)
      pe_int
      (fun _ _ => rfl))
      (pe_gc (v := .ref a.Y_HEADS) rfl ⟨_, T.g_HEADS, rfl⟩)
      (by with_unfolding_all rfl)) (pw_or1 (@pt_cmpR _ _ _ _ _ _ _ _ (op_inK (K := K) rfl)
      (@pe_ix _ _ _ _ _ _ _ (ix_tupK (K := K) rfl)
      (pv 0)
      pe_int
      (fun _ _ => rfl))
      (pe_gc (v := .ref a.Y_BESIDE) rfl ⟨_, T.g_BESIDE, rfl⟩)
      (by with_unfolding_all rfl))))))
      (@pss_one _ _ _ ps_never)
      pss_nil)
      (@pss_one _ _ _ (@ps_ret _ _ _ _ (@pe_lst _ _ _ _ (@pa_cons _ _ _ _ _ (@pe_ix _ _ _ _ _ _ _ (ix_tupK (K := K) rfl)
      (pv 0)
      pe_int
      (fun _ _ => rfl))
      pa_nil
      (by rfl))))))
      pss_nil)
      (@pss_cons _ _ _ _ _ (@ps_if _ _ _ _ _ _ _ _ (@pt_cmpR _ _ _ _ _ _ _ _ (op_inK (K := K) rfl)
      (pv 2)
      (pe_gc (v := .ref a.Y_HEADS) rfl ⟨_, T.g_HEADS, rfl⟩)
      (by with_unfolding_all rfl))
      (@pss_one _ _ _ (@ps_ret _ _ _ _ (@pe_op _ _ _ _ _ _ _ _ op_cat
      (@pe_lst _ _ _ _ (@pa_cons _ _ _ _ _ (pv 2)
      pa_nil
      (by rfl)))
      (pv 1))))
      pss_nil)
      (@pss_cons _ _ _ _ _ (@ps_if _ _ _ _ _ _ _ _ (@pt_cmpR _ _ _ _ _ _ _ _ (op_inK (K := K) rfl)
      (pv 2)
      (pe_gc (v := .ref a.Y_JOINS) rfl ⟨_, T.g_JOINS, rfl⟩)
      (by with_unfolding_all rfl))
      (@pss_one _ _ _ (@ps_ret _ _ _ _ (@pe_op _ _ _ _ _ _ _ _ op_cat
      (@pe_op _ _ _ _ _ _ _ _ op_cat
      (@pe_lst _ _ _ _ (@pa_cons _ _ _ _ _ pe_str
      (@pa_cons _ _ _ _ _ (pv 2)
      pa_nil
      (by rfl))
      (by rfl)))
      (pv 1))
      (@pe_lst _ _ _ _ (@pa_cons _ _ _ _ _ pe_str
      pa_nil
      (by rfl))))))
      pss_nil)
      (@pss_cons _ _ _ _ _ (@ps_if _ _ _ _ _ _ _ _ (@pt_cmpR _ _ _ _ _ _ _ _ op_eq
      (pv 2)
      pe_str
      (nomark _))
      (@pss_one _ _ _ (@ps_ret _ _ _ _ (@pe_lst _ _ _ _ (@pa_c _ _ _ _ _ pe_str
      (@pa_c _ _ _ _ _ (@pe_ix _ _ _ _ _ _ _ (ix_listK (K := K) rfl)
      (pv 1)
      pe_int
      (fun _ _ => rfl))
      (@pa_c _ _ _ _ _ (pv 2)
      (@pa_c _ _ _ _ _ (pe_callTy (call_str_any) rfl T.b_str PyProof.Rows.Boot.«str» (@pa_cons _ _ _ _ _ (@pe_ix _ _ _ _ _ _ _ (ix_tupK (K := K) rfl)
      (pv 0)
      pe_int
      (fun _ _ => rfl))
      pa_nil
      (by rfl)))
      (@pa_c _ _ _ _ _ (@pe_ix _ _ _ _ _ _ _ (ix_listK (K := K) rfl)
      (pv 1)
      pe_int
      (fun _ _ => rfl))
      (@pa_c _ _ _ _ _ pe_str
      pa_nil
      (by rfl))
      (by rfl))
      (by rfl))
      (by rfl))
      (by rfl))
      (by rfl)))))
      pss_nil)
      (@pss_one _ _ _ (@ps_ret _ _ _ _ (@pe_lst _ _ _ _ (@pa_c _ _ _ _ _ pe_str
      (@pa_c _ _ _ _ _ (@pe_ix _ _ _ _ _ _ _ (ix_listK (K := K) rfl)
      (pv 1)
      pe_int
      (fun _ _ => rfl))
      (@pa_c _ _ _ _ _ (pv 2)
      (@pa_c _ _ _ _ _ (@pe_ix _ _ _ _ _ _ _ (ix_listK (K := K) rfl)
      (pv 1)
      pe_int
      (fun _ _ => rfl))
      (@pa_c _ _ _ _ _ pe_str
      pa_nil
      (by rfl))
      (by rfl))
      (by rfl))
      (by rfl))
      (by rfl))))))))))), ?_⟩
    cases n with
    | zero => exact hat.elim
    | succ n =>
      obtain ⟨ad, us0, rfl, sh, ok, hl0, hq0⟩ := hat
      obtain ⟨xs, e⟩ := sh.tup
      refine ⟨_, rfl, ad, _, _, _, rfl, rfl, e, atI_nat (j := 0) rfl, ?_⟩
      clear e xs hq0
      revert sh ok hpl
      cases c with
      | yes =>
        intro hpl sh ok
        refine ⟨_, rfl, rfl, _, rfl, iteD rfl ?_⟩
        exact ⟨_, rfl, by rw [sizeLine_eq]; simp, fun l hl => k _ l (same_upd hl) hl upd_same⟩
      | sign z =>
        intro hpl sh ok
        obtain ⟨pn, py, ph, pb⟩ := hpl z rfl
        refine ⟨_, rfl, rfl, _, rfl, iteN (fun z => (by decide +kernel : ¬ (("sign" : Str) = "yes")) (V.str.inj z)) ?_⟩
        refine ⟨_, rfl, rfl, _, rfl, iteD rfl ?_⟩
        refine ⟨_, rfl, ad, _, _, _, rfl, rfl, sh.2, atI_nat (j := 1) rfl, rfl, _, rfl, iteN (fun e => py (V.str.inj e)) ?_⟩
        refine ⟨_, rfl, ad, _, _, _, rfl, rfl, sh.2, atI_nat (j := 1) rfl, a.Y_HEADS, _, rfl, .inr (T.y_HEADS _), rfl, rfl, _, rfl, iteNin (ss := HD9) ph ?_⟩
        refine ⟨_, rfl, ad, _, _, _, rfl, rfl, sh.2, atI_nat (j := 1) rfl, a.Y_BESIDE, _, rfl, .inr (T.y_BESIDE _), rfl, rfl, _, rfl, iteNin (ss := BES) pb ?_⟩
        exact ⟨_, rfl, ad, _, _, _, rfl, rfl, sh.2, atI_nat (j := 1) rfl, by rw [sizeLine_eq]; simp, fun l hl => k _ l (same_upd hl) hl upd_same⟩
      | op w =>
        intro hpl sh ok
        obtain ⟨h1, h2, h3, h4, h5⟩ := op_words w (by rcases ok with ok | ok; exact List.mem_append_left _ ok.1; exact List.mem_append_right _ ok.1)
        refine ⟨_, rfl, rfl, _, rfl, iteN (fun z => h1 (V.str.inj z)) ?_⟩
        refine ⟨_, rfl, rfl, _, rfl, iteN (fun z => h2 (V.str.inj z)) ?_⟩
        rcases ok with ⟨o1, o2⟩ | ⟨o1, o2⟩
        · refine ⟨_, rfl, a.Y_HEADS, _, rfl, .inr (T.y_HEADS _), rfl, rfl, _, rfl, iteIn (ss := HD9) ((by decide +kernel : ∀ w ∈ W1, w ∈ HD9) w o1) ?_⟩
          have hz : ts.length = 1 := by rw [hl]; exact o2
          refine ⟨_, rfl, by rw [sizeLine_eq]; simp, fun L hL => ⟨_, rfl, L, p, _, _, rfl, rfl, upd_same, same_upd hL _ _ hp, by rw [List.length_map, sizeLine_eq]; simp; omega, fun l hl' => ?_⟩⟩
          have e0 : (upd H L (.lst [V.str w])) l = none := hl'
          refine k _ l ((same_upd hL).trans (same_upd hl')) ((same_upd hL).free hl') ?_
          rw [upd_same]
          show _ = some (HO.lst ((wlF id (.op w) ts Str.empty).map V.str))
          rw [show wlF id (.op w) ts Str.empty = w :: ts from if_neg ((by decide +kernel : ∀ w ∈ W1, w ∉ W2) w o1)]
          rfl
        · refine ⟨_, rfl, a.Y_HEADS, _, rfl, .inr (T.y_HEADS _), rfl, rfl, _, rfl, iteNin (ss := HD9) ((by decide +kernel : ∀ w ∈ W2, w ∉ HD9) w o1) ?_⟩
          refine ⟨_, rfl, a.Y_JOINS, _, rfl, .inr (T.y_JOINS _), rfl, rfl, _, rfl, iteNin (ss := ["and", "or"]) h3 ?_⟩
          refine ⟨_, rfl, rfl, _, rfl, iteN (fun z => h4 (V.str.inj z)) ?_⟩
          have hz : ts.length = 2 := by rw [hl]; exact o2
          obtain ⟨t0, t1, rfl⟩ : ∃ x y, ts = [x, y] := by
            match ts, hz with
            | [x, y], _ => exact ⟨x, y, rfl⟩
          refine ⟨_, rfl, p, _, _, .str t0, rfl, rfl, SqL.of hp, atI_nat (j := 0) rfl, _, rfl, _, rfl, p, _, _, .str t1, rfl, rfl, SqL.of hp, atI_nat (j := 1) rfl, by rw [sizeLine_eq]; simp, fun l hl' => k _ l (same_upd hl') hl' ?_⟩
          rw [upd_same]
          show _ = some (HO.lst ((wlF id (.op w) [t0, t1] Str.empty).map V.str))
          rw [show wlF id (.op w) [t0, t1] Str.empty = (["(", t0, w, t1, ")"] : List Str) from if_pos o1]
          rfl
      | wit m =>
        intro hpl sh ok
        refine ⟨_, rfl, rfl, _, rfl, iteN (fun z => (by decide +kernel : ¬ (("within" : Str) = "yes")) (V.str.inj z)) ?_⟩
        refine ⟨_, rfl, rfl, _, rfl, iteN (fun z => (by decide +kernel : ¬ (("within" : Str) = "sign")) (V.str.inj z)) ?_⟩
        refine ⟨_, rfl, a.Y_HEADS, _, rfl, .inr (T.y_HEADS _), rfl, rfl, _, rfl, iteNin (ss := HD9) (show ("within" : Str) ∉ HD9 by decide +kernel) ?_⟩
        refine ⟨_, rfl, a.Y_JOINS, _, rfl, .inr (T.y_JOINS _), rfl, rfl, _, rfl, iteNin (ss := ["and", "or"]) (show ("within" : Str) ∉ (["and", "or"] : List Str) by decide +kernel) ?_⟩
        refine ⟨_, rfl, rfl, _, rfl, iteD rfl ?_⟩
        have hz : ts.length = 2 := by rw [hl]; exact ok.2
        obtain ⟨t0, t1, rfl⟩ : ∃ x y, ts = [x, y] := by
          match ts, hz with
          | [x, y], _ => exact ⟨x, y, rfl⟩
        have hm5 : 0 ≤ m ∧ m ≤ 5 := ok.1
        refine ⟨_, rfl, p, _, _, .str t0, rfl, rfl, SqL.of hp, atI_nat (j := 0) rfl, _, rfl, _, rfl, ad, _, _, _, rfl, rfl, sh, atI_nat (j := 1) rfl, .inl ⟨m, rfl, ?_, _, rfl, p, _, _, .str t1, rfl, rfl, SqL.of hp, atI_nat (j := 1) rfl, by rw [sizeLine_eq]; simp, fun l hl' => k _ l (same_upd hl') hl' upd_same⟩⟩
        rcases (show m = 0 ∨ m = 1 ∨ m = 2 ∨ m = 3 ∨ m = 4 ∨ m = 5 by omega) with rfl | rfl | rfl | rfl | rfl | rfl <;> decide +kernel
      | many w =>
        intro hpl sh ok
        have hw0 : w ∈ (["and", "or"] : List Str) := by rcases ok.1 with rfl | rfl <;> simp
        obtain ⟨h1, h2, h3, _⟩ := many_words w hw0
        show tSeq _ _ _ [some (.ref ad), some (.ref p), some (.str w)] H
        refine ⟨_, rfl, rfl, _, rfl, iteN (fun z => h1 (V.str.inj z)) ?_⟩
        refine ⟨_, rfl, rfl, _, rfl, iteN (fun z => h2 (V.str.inj z)) ?_⟩
        refine ⟨_, rfl, a.Y_HEADS, _, rfl, .inr (T.y_HEADS _), rfl, rfl, _, rfl, iteNin (ss := HD9) ((by decide +kernel : ∀ w ∈ (["and", "or"] : List Str), w ∉ HD9) w hw0) ?_⟩
        refine ⟨_, rfl, a.Y_JOINS, _, rfl, .inr (T.y_JOINS _), rfl, rfl, _, rfl, iteIn (ss := ["and", "or"]) hw0 ?_⟩
        have hz : ts.length ≤ 400 := by rw [hl]; exact ok.2
        refine ⟨_, rfl, by rw [sizeLine_eq]; simp, fun L hL => ⟨_, rfl, L, p, _, _, rfl, rfl, upd_same, same_upd hL _ _ hp, by rw [List.length_map, sizeLine_eq]; simp; omega, fun L2 hL2 => ?_⟩⟩
        have s1 := same_upd (o := .lst [.str "(", .str w]) hL
        have s2 := same_upd (o := .lst ([.str "(", .str w] ++ ts.map V.str)) hL2
        have e2 : (upd (upd H L (.lst [.str "(", .str w])) L2 (.lst ([.str "(", .str w] ++ ts.map V.str))) L2 = some (.lst ([.str "(", .str w] ++ ts.map V.str)) := upd_same
        generalize upd H L (.lst [.str "(", .str w]) = H1 at s1 s2 e2 hL2 ⊢
        generalize upd H1 L2 (.lst ([.str "(", .str w] ++ ts.map V.str)) = H2 at s2 e2 ⊢
        refine ⟨by rw [sizeLine_eq]; simp, fun L3 hL3 => ⟨L2, L3, _, _, rfl, rfl, same_upd hL3 _ _ e2, upd_same, by rw [sizeLine_eq]; simp; omega, fun l hl' => ?_⟩⟩
        have s3 := same_upd (o := .lst [.str ")"]) hL3
        refine k _ l ((s1.trans s2).trans (s3.trans (same_upd hl'))) ((s1.trans (s2.trans s3)).free hl') ?_
        rw [upd_same]
        show _ = some (HO.lst ((((["(", w] : List Str) ++ ts) ++ ([")"] : List Str)).map V.str))
        rw [List.map_append, List.map_append]
        rfl
end KK

set_option Elab.async false
set_option linter.all false
set_option maxRecDepth 100000
set_option maxHeartbeats 8000000
namespace KK
open PySem PySem.Spec L2 L3
def sp_show (K : PySem.W.Frag) (a : Adr) : Sp := fun vs H Q _ => ∃ (v : V) (t : Tr) (n : Nat), vs = [v] ∧ At K n H v t ∧ PlN n t ∧ psz t ≤ 1000 ∧ ∀ H', Same H H' → Q (.str (txt t)) H'
theorem ok_show {P : Program} {w : World} {K : PySem.W.Frag} {mg : Str → Option Value} {base : Heap} {a : Adr} (T : Txt K mg a) (hw : w.params = a.Pm) : FnOk P w K mg base CX0 4 a.«show» a.show_fd ["sentence"] (sp_show K a) := by
  have G_last_ones := ok_last_ones (P := P) (w := w) (base := base) T hw
  have G_inner_of := ok_inner_of (P := P) (w := w) (base := base) T hw
  have G_inner_ahead := ok_inner_ahead (P := P) (w := w) (base := base) T hw
  have G_words_with := ok_words_with (P := P) (w := w) (base := base) T hw
  refine T.f_show.ok sc_show (fun vs H Q E h => ?_) (fun cdv A outer s H vs Q E hr h => ?_)
  · obtain ⟨v, t, n, rfl, _⟩ := h
    rfl
  · obtain ⟨v, t, n, rfl, hat, hpl, hz, k⟩ := h
    refine ⟨_, (@pss_cons _ _ _ _ _ (@ps_set _ _ (1) _ _ _ _ sc_show.nd
      rfl
      (by first | exact Or.inl rfl | exact Or.inr rfl)
      (@pe_lst _ _ _ _ pa_nil)
      (by rfl)
      (by first | exact .inl rfl | exact .inr rfl | assumption))
      (@pss_cons _ _ _ _ _ (ps_for PassesOwn.never rfl (pi_listK (K := K) rfl (pe_call G_inner_ahead (hr.mono (by decide)) rfl T.g_inner_ahead T.f_inner_ahead.kp T.n_inner_ahead .nil pass0 (@pa_cons _ _ _ _ _ (pv 0)
      pa_nil
      (by rfl)))) (pg_name (i := 2) sc_show.nd rfl (by first | exact Or.inl rfl | exact Or.inr rfl)) (@pss_cons _ _ _ _ _ (@ps_set _ _ (3) _ _ _ _ sc_show.nd
      rfl
      (by first | exact Or.inl rfl | exact Or.inr rfl)
      (pe_call G_last_ones (hr.mono (by decide)) rfl T.g_last_ones T.f_last_ones.kp T.n_last_ones .nil pass0 (@pa_cons _ _ _ _ _ (pv 1)
      (@pa_cons _ _ _ _ _ (pe_callB (call_lenK (K := K) rfl) rfl T.b_len PyProof.Rows.Boot.«len» (@pa_cons _ _ _ _ _ (pe_call G_inner_of (hr.mono (by decide)) rfl T.g_inner_of T.f_inner_of.kp T.n_inner_of .nil pass0 (@pa_cons _ _ _ _ _ (pv 2)
      pa_nil
      (by rfl)))
      pa_nil
      (by rfl)))
      pa_nil
      (by rfl))
      (by rfl)))
      (by rfl)
      (by first | exact .inl rfl | exact .inr rfl | assumption))
      (@pss_one _ _ _ (@ps_expr _ _ _ _ (pe_bm PySem.F.plainAttrs_list PySem.F.slot_list_append PySem.F.type_list_append mt_append (pv 1) (@pa_cons _ _ _ _ _ (pe_bm PySem.F.plainAttrs_str PySem.F.slot_str_join PySem.F.type_str_join (mt_joinK (K := K) rfl) pe_str (@pa_cons _ _ _ _ _ (pe_call G_words_with (hr.mono (by decide)) rfl T.g_words_with T.f_words_with.kp T.n_words_with .nil pass0 (@pa_cons _ _ _ _ _ (pv 2)
      (@pa_cons _ _ _ _ _ (pv 3)
      pa_nil
      (by rfl))
      (by rfl)))
      pa_nil
      (by rfl)))
      pa_nil
      (by rfl)))
      (by rfl)))))
      (@pss_one _ _ _ (@ps_ret _ _ _ _ (@pe_ix _ _ _ _ _ _ _ (ix_listK (K := K) rfl)
      (pv 1)
      pe_int
      (fun _ _ => rfl)))))), ?_⟩
    have hz2 : (post t).length ≤ 1000 := hz
    refine ⟨by decide, fun F hF => ?_⟩
    have s1 := same_upd (o := .lst []) hF
    have e1 : (upd H F (.lst [])) F = some (.lst []) := upd_same
    generalize upd H F (.lst []) = H1 at s1 e1 ⊢
    refine ⟨_, rfl, v, t, n, rfl, hat.mono (Same.tup s1), by omega, fun H2 L us s2 L0 eL aL => ⟨L, rfl, ⟨_, SqL.of eL⟩, ?_⟩⟩
    have nLF : L ≠ F := fun e => by rw [e, e1] at L0; cases L0
    have hF2 := s2 _ _ e1
    obtain ⟨ok0, run0⟩ := run_all (F := txF) t
    have hul := aL.1
    refine for_list (K := K) (xs := us) (fun i σ H' => ∃ (z1 z2 : Option V) (st : List Str), σ = [some v, some (.ref F), z1, z2] ∧ SameX F H2 H' ∧ H' F = some (.lst (st.map V.str)) ∧ okRun txF st ((post t).drop i) ∧ runF txF st ((post t).drop i) = [txt t] ∧ st.length ≤ i) ?_ ?_ ?_ ?_
    · exact ⟨_, _, [], rfl, .refl _, hF2, ok0, run0, Nat.le_refl _⟩
    · rintro i σ H' hi ⟨z1, z2, st, rfl, x', _⟩
      exact SqL.of (x' _ _ nLF eL)
    · rintro i x σ H3 hx ⟨z1, z2, st, rfl, x3, hF3, ok3, run3, hst⟩
      have hi : i < us.length := (List.getElem?_eq_some_iff.mp hx).1
      have hi2 : i < (post t).length := by omega
      have t23 : SameT H2 H3 := SameX.tup x3 hF2
      have at3 := (aL.2 i x _ hx (List.getElem?_eq_getElem hi2)).mono t23
      have hpr := pl_post hpl _ (List.getElem_mem hi2)
      rw [List.drop_eq_getElem_cons hi2] at ok3 run3
      obtain ⟨⟨okl, okd⟩, okr⟩ := ok3
      have runr : runF txF (stepF txF st (post t)[i]) ((post t).drop (i + 1)) = [txt t] := run3
      generalize (post t)[i] = r at at3 okl okd okr runr hpr
      cases n with
      | zero => exact at3.elim
      | succ n =>
      obtain ⟨ad7, ks, eu7, sh7, ok7, hl7, hq7⟩ := id at3
      refine ⟨_, rfl, _, rfl, x, ad7, ks, r.lb, rfl, eu7, sh7, by rw [hl7]; exact ok7.b, fun H4 b s4 eb => .inl ⟨b, _, rfl, .inr (eb), ?_⟩⟩
      have hF4 := s4 _ _ hF3
      have hsm : (st.map V.str).length = st.length := List.length_map ..
      refine ⟨F, _, ks.length, rfl, hF4, by rw [hsm, hl7]; exact okl, fun H5 l x5 hF5 l0 hl5 => ?_⟩
      have nlF : l ≠ F := fun e => by rw [e, hF4] at l0; cases l0
      have t45 : SameT H4 H5 := SameX.tup x5 hF4
      have t35 : SameT H3 H5 := (Same.tup s4).trans t45
      rw [hsm, hl7] at hF5 hl5
      rw [← List.map_take] at hF5
      rw [← List.map_drop, okd] at hl5
      have at5 := at3.mono t35
      have at5' : At K (n + 1) H5 x (.node r.lb r.ks) := by rw [← Tr.eta]; exact at5
      have okt : lbOk r.lb (r.ks.map (valT txF)).length := by rw [List.length_map]; exact ok7
      have hB : ∀ y ∈ wwF r.lb (r.ks.map (valT txF)), y.length ≤ 36008 := ww_max okt (by decide) fun y hy => by
        obtain ⟨q, hq, rfl⟩ := List.mem_map.mp hy
        have h1 := txt_len (hpr.1.2.2 q hq)
        have h2 : psz q ≤ psz r := by rw [Tr.eta r]; exact psz_kid hq
        have h3 : psz r ≤ psz t := hpr.2
        show (txt q).length ≤ _
        omega
      have hwl := ww_len okt
      refine ⟨_, rfl, .inl ⟨rfl, _, SqL.of hF5⟩, rfl, _, rfl, _, rfl, x, r.lb, r.ks, n + 1, l, _, rfl, at5', hl5, List.length_map .., fun z hz => hpr.1.2.1 z hz, fun H6 l6 s6 l60 hl6 => ?_⟩
      have hF6 := s6 _ _ hF5
      refine ⟨" ", l6, _, 36008, rfl, rfl, SqL.of hl6, hB, ?_, F, _, _, rfl, rfl, hF6, by rw [List.length_map, List.length_take, sizeLine_eq]; omega, ?_⟩
      · have hs : (Str.ofString " ").length = 1 := rfl
        rw [hs, ← Nat.mul_add]
        exact Nat.le_trans (Nat.mul_le_mul_right _ hwl) (by decide)
      have x36 : SameX F H3 H6 := (Same.x s4).trans (x5.trans (Same.x s6))
      refine ⟨_, _, stepF txF st r, rfl, (x3.trans x36).upd, ?_, okr, runr, ?_⟩
      · rw [upd_same]
        unfold stepF
        rw [okd, List.map_append]
        rfl
      · unfold stepF
        rw [List.length_append, List.length_take]
        simp
        omega
    rintro σ H3 ⟨z1, z2, st, rfl, x3, hF3, ok3, run3, hst⟩
    rw [List.drop_eq_nil_of_le (by omega)] at run3
    have est : st = [txt t] := run3
    subst est
    exact ⟨_, rfl, F, _, _, _, rfl, rfl, SqL.of hF3, atI_nat (j := 0) rfl, k H3 (((Same.x (s1.trans s2)).trans x3).same hF)⟩
end KK

set_option Elab.async false
set_option linter.all false
set_option maxRecDepth 100000
set_option maxHeartbeats 8000000
namespace KK
open PySem PySem.Spec L2 L3
def sp__law_cell_at (K : PySem.W.Frag) (a : Adr) : Sp := fun vs H Q _ => ∃ (p : Addr) (ns : List Int) (j : Nat), vs = [.ref p, .int (j : Int)] ∧ SqL K H p (ns.map V.int) ∧ ∀ n : Int, Q (.int n) H
theorem ok__law_cell_at {P : Program} {w : World} {K : PySem.W.Frag} {mg : Str → Option Value} {base : Heap} {a : Adr} (T : Txt K mg a) (hw : w.params = a.Pm) : FnOk P w K mg base CX0 1 a._law_cell_at a._law_cell_at_fd ["_law_script", "_law_k"] (sp__law_cell_at K a) := by
  refine T.f__law_cell_at.ok sc__law_cell_at (fun vs H Q E h => ?_) (fun cdv A outer s H vs Q E hr h => ?_)
  · obtain ⟨p, ns, j, rfl, _⟩ := h
    rfl
  · obtain ⟨p, ns, j, rfl, hq, k⟩ := h
    refine ⟨_, (@pss_cons _ _ _ _ _ (@ps_if _ _ _ _ _ _ _ _ (@pt_cmpR _ _ _ _ _ _ _ _ op_lt
      (pv 1)
      (pe_callB (call_lenK (K := K) rfl) rfl T.b_len PyProof.Rows.Boot.«len» (@pa_cons _ _ _ _ _ (pv 0)
      pa_nil
      (by rfl)))
      (nomark _))
      (@pss_one _ _ _ (@ps_ret _ _ _ _ (@pe_ix _ _ _ _ _ _ _ (ix_listK (K := K) rfl)
      (pv 0)
      (pv 1)
      (fun _ _ => rfl))))
      pss_nil)
      (@pss_one _ _ _ (@ps_ret _ _ _ _ pe_int))), ?_⟩
    refine ⟨_, rfl, _, rfl, .inl ⟨p, _, rfl, .inl hq, _, _, rfl, rfl, _, rfl, ?_⟩⟩
    refine ite2 (fun c => ?_) (fun _ => k 0)
    have hj : j < ns.length := by have := of_decide_eq_true c; rw [List.length_map] at this; omega
    exact ⟨_, rfl, _, rfl, p, _, _, _, rfl, rfl, hq, atI_nat (j := j) (by rw [List.getElem?_map, List.getElem?_eq_getElem hj]; rfl), k _⟩
def sp__law_draw (K : PySem.W.Frag) (a : Adr) : Sp := fun vs H Q _ => ∃ (p : Addr) (ns : List Int), vs = [.ref p] ∧ H p = some (.lst (ns.map V.int)) ∧ ∀ H' (n : Int) (ns' : List Int), SameX p H H' → H' p = some (.lst (ns'.map V.int)) → Q (.int n) H'
theorem ok__law_draw {P : Program} {w : World} {K : PySem.W.Frag} {mg : Str → Option Value} {base : Heap} {a : Adr} (T : Txt K mg a) (hw : w.params = a.Pm) : FnOk P w K mg base CX0 1 a._law_draw a._law_draw_fd ["_law_xs"] (sp__law_draw K a) := by
  refine T.f__law_draw.ok sc__law_draw (fun vs H Q E h => ?_) (fun cdv A outer s H vs Q E hr h => ?_)
  · obtain ⟨p, ns, rfl, _⟩ := h
    rfl
  · obtain ⟨p, ns, rfl, hp, k⟩ := h
    refine ⟨_, (@pss_cons _ _ _ _ _ (@ps_if _ _ _ _ _ _ _ _ (@pt_cmpR _ _ _ _ _ _ _ _ (op_eqDK (K := K) rfl (Room.units hr))
      (pv 0)
      (@pe_lst _ _ _ _ pa_nil)
      (nomark _))
      (@pss_one _ _ _ (@ps_ret _ _ _ _ pe_int))
      pss_nil)
      (@pss_one _ _ _ (@ps_ret _ _ _ _ (pe_bm0 PySem.F.plainAttrs_list PySem.F.slot_list_pop PySem.F.type_list_pop mt_pop (pv 0))))), ?_⟩
    refine ⟨_, rfl, by decide, fun l hl => ?_⟩
    have s1 := same_upd (o := .lst []) hl
    refine eqD_nil (s1 _ _ hp) upd_same fun c hc => ⟨_, rfl, ?_⟩
    cases c with
    | true => exact iteT (k _ 0 ns (Same.x s1) (s1 _ _ hp))
    | false =>
      refine iteF ⟨_, rfl, .inl ⟨rfl, _, SqL.of (s1 _ _ hp)⟩, ?_⟩
      have hne : ns ≠ [] := fun e => by have := hc.mpr e; cases this
      have hl : ns.length - 1 < ns.length := by have := List.length_pos_iff.mpr hne; omega
      refine ⟨p, _, .int ns[ns.length - 1], rfl, rfl, s1 _ _ hp, by simp [hl], ?_⟩
      exact k _ _ ns.dropLast (Same.x s1).upd (by rw [upd_same, List.map_dropLast])
end KK

set_option Elab.async false
set_option linter.all false
set_option maxRecDepth 100000
set_option maxHeartbeats 8000000
namespace KK
open PySem PySem.Spec L2 L3
def sp__law_stream (K : PySem.W.Frag) (a : Adr) : Sp := fun vs H Q _ => ∃ (c : Int) (m : Nat), vs = [.int c, .int (m : Int)] ∧ m ≤ 1000 ∧ ∀ H' p (ns : List Int), Same H H' → H p = none → H' p = some (.lst (ns.map V.int)) → Q (.ref p) H'
theorem ok__law_stream {P : Program} {w : World} {K : PySem.W.Frag} {mg : Str → Option Value} {base : Heap} {a : Adr} (T : Txt K mg a) (hw : w.params = a.Pm) : FnOk P w K mg base CX0 1 a._law_stream a._law_stream_fd ["_law_cell", "_law_many"] (sp__law_stream K a) := by
  refine T.f__law_stream.ok sc__law_stream (fun vs H Q E h => ?_) (fun cdv A outer s H vs Q E hr h => ?_)
  · obtain ⟨c, m, rfl, _⟩ := h
    rfl
  · obtain ⟨c, m, rfl, hm, k⟩ := h
    refine ⟨_, (@pss_cons _ _ _ _ _ (@ps_set _ _ (2) _ _ _ _ sc__law_stream.nd
      rfl
      (by first | exact Or.inl rfl | exact Or.inr rfl)
      (@pe_lst _ _ _ _ pa_nil)
      (by rfl)
      (by first | exact .inl rfl | exact .inr rfl | assumption))
      (@pss_cons _ _ _ _ _ (@ps_set _ _ (3) _ _ _ _ sc__law_stream.nd
      rfl
      (by first | exact Or.inl rfl | exact Or.inr rfl)
      (@pe_op _ _ _ _ _ _ _ _ op_mul
      (@pe_op _ _ _ _ _ _ _ _ op_fdiv
      (pv 0)
      pe_int)
      (@pe_op _ _ _ _ _ _ _ _ op_sub
      pe_int
      (@pe_op _ _ _ _ _ _ _ _ op_mod
      (pv 0)
      pe_int)))
      (by rfl)
      (by first | exact .inl rfl | exact .inr rfl | assumption))
      (@pss_cons _ _ _ _ _ (ps_while PassesOwn.never (PW.pt (pw_and (@pt_cmpR _ _ _ _ _ _ _ _ op_lt
      (pe_callB (call_lenK (K := K) rfl) rfl T.b_len PyProof.Rows.Boot.«len» (@pa_cons _ _ _ _ _ (pv 2)
      pa_nil
      (by rfl)))
      (pv 1)
      (nomark _)) (pw_and1 (@pt_cmpR _ _ _ _ _ _ _ _ op_gt
      (pv 3)
      pe_int
      (nomark _))))) (@pss_cons _ _ _ _ _ (@ps_expr _ _ _ _ (pe_bm PySem.F.plainAttrs_list PySem.F.slot_list_append PySem.F.type_list_append mt_append (pv 2) (@pa_cons _ _ _ _ _ (@pe_op _ _ _ _ _ _ _ _ op_mod
      (pv 3)
      (@pe_op _ _ _ _ _ _ _ _ op_pow
      pe_int
      pe_int))
      pa_nil
      (by rfl)))
      (by rfl))
      (@pss_one _ _ _ (@ps_set _ _ (3) _ _ _ _ sc__law_stream.nd
      rfl
      (by first | exact Or.inl rfl | exact Or.inr rfl)
      (@pe_op _ _ _ _ _ _ _ _ op_fdiv
      (pv 3)
      (@pe_op _ _ _ _ _ _ _ _ op_pow
      pe_int
      pe_int))
      (by rfl)
      (by first | exact .inl rfl | exact .inr rfl | assumption)))))
      (@pss_cons _ _ _ _ _ (@ps_set _ _ (4) _ _ _ _ sc__law_stream.nd
      rfl
      (by first | exact Or.inl rfl | exact Or.inr rfl)
      (@pe_op _ _ _ _ _ _ _ _ op_mod
      (@pe_op _ _ _ _ _ _ _ _ op_mul
      (@pe_op _ _ _ _ _ _ _ _ op_add
      (pv 0)
      pe_int)
      pe_int)
      pe_int)
      (by rfl)
      (by first | exact .inl rfl | exact .inr rfl | assumption))
      (@pss_cons _ _ _ _ _ (ps_while PassesOwn.never (@pt_cmpR _ _ _ _ _ _ _ _ op_lt
      (pe_callB (call_lenK (K := K) rfl) rfl T.b_len PyProof.Rows.Boot.«len» (@pa_cons _ _ _ _ _ (pv 2)
      pa_nil
      (by rfl)))
      (pv 1)
      (nomark _)) (@pss_cons _ _ _ _ _ (@ps_set _ _ (5) _ _ _ _ sc__law_stream.nd
      rfl
      (by first | exact Or.inl rfl | exact Or.inr rfl)
      (@pe_op _ _ _ _ _ _ _ _ op_add
      (@pe_op _ _ _ _ _ _ _ _ op_add
      (pv 4)
      (@pe_op _ _ _ _ _ _ _ _ op_mul
      pe_int
      (pe_callB (call_lenK (K := K) rfl) rfl T.b_len PyProof.Rows.Boot.«len» (@pa_cons _ _ _ _ _ (pv 2)
      pa_nil
      (by rfl)))))
      pe_int)
      (by rfl)
      (by first | exact .inl rfl | exact .inr rfl | assumption))
      (@pss_cons _ _ _ _ _ (@ps_set _ _ (4) _ _ _ _ sc__law_stream.nd
      rfl
      (by first | exact Or.inl rfl | exact Or.inr rfl)
      (@pe_op _ _ _ _ _ _ _ _ op_mod
      (@pe_op _ _ _ _ _ _ _ _ op_mul
      (pv 5)
      (@pe_op _ _ _ _ _ _ _ _ op_add
      (@pe_op _ _ _ _ _ _ _ _ op_fdiv
      (pv 4)
      pe_int)
      pe_int))
      pe_int)
      (by rfl)
      (by first | exact .inl rfl | exact .inr rfl | assumption))
      (@pss_one _ _ _ (@ps_expr _ _ _ _ (pe_bm PySem.F.plainAttrs_list PySem.F.slot_list_append PySem.F.type_list_append mt_append (pv 2) (@pa_cons _ _ _ _ _ (@pe_op _ _ _ _ _ _ _ _ op_mod
      (@pe_op _ _ _ _ _ _ _ _ op_mul
      (pv 4)
      (@pe_op _ _ _ _ _ _ _ _ op_add
      (@pe_op _ _ _ _ _ _ _ _ op_fdiv
      (pv 4)
      pe_int)
      pe_int))
      pe_int)
      pa_nil
      (by rfl)))
      (by rfl))))))
      (@pss_one _ _ _ (@ps_ret _ _ _ _ (pe_revK (K := K) rfl (pv 2) (po_some (pe_un un_neg pe_int)))))))))), ?_⟩
    refine ⟨by decide, fun D hD => ?_⟩
    have hm2 : (0 : Int) ≤ c % 2 ∧ c % 2 < 2 := ⟨Int.emod_nonneg _ (by decide), Int.emod_lt_of_pos _ (by decide)⟩
    refine ⟨_, rfl, _, _, rfl, rfl, ⟨by decide, by decide⟩, _, rfl, _, _, rfl, rfl, by simp, _, _, rfl, rfl, _, _, rfl, rfl, .inr ⟨by omega, by omega⟩, ?_⟩
    refine ⟨fun n σ H' => ∃ (ns : List Int) (left : Int), σ = [some (.int c), some (.int m), some (.ref D), some (.int left), none, none] ∧ H' D = some (.lst (ns.map V.int)) ∧ Same H H' ∧ ns.length ≤ m ∧ n = m - ns.length, ⟨m, [], _, rfl, upd_same, same_upd hD, Nat.zero_le _, rfl⟩, ?_⟩
    rintro n σ H1 ⟨ns, left, rfl, h1, s1, hl, rfl⟩
    refine ⟨_, rfl, .inl ⟨D, _, rfl, .inl (SqL.of h1), _, rfl, _, _, rfl, rfl, _, rfl, ite2 (fun c1 => ⟨_, rfl, _, _, rfl, rfl, _, rfl, ite2 (fun c2 => ?body) (fun c2 => ?rest)⟩) (fun c1 => iteF ?rest2)⟩⟩
    case body =>
      have c3 : ns.length < m := by have := of_decide_eq_true c1; rw [List.length_map] at this; omega
      refine ⟨fun σ H' => ∃ (ns' : List Int) (left : Int), σ = [some (.int c), some (.int m), some (.ref D), some (.int left), none, none] ∧ H' D = some (.lst (ns'.map V.int)) ∧ Same H H' ∧ ns'.length = ns.length + 1, ?_, ?_⟩
      · rintro σ' H' ⟨ns', left', rfl, a1, a2, a3⟩
        exact ⟨m - ns'.length, by omega, ns', left', rfl, a1, a2, by omega, rfl⟩
      · refine ⟨_, rfl, .inl ⟨rfl, _, SqL.of h1⟩, _, rfl, _, _, rfl, rfl, ⟨by decide, by decide, by decide⟩, _, _, rfl, rfl, by simp, D, _, _, rfl, rfl, h1, by rw [List.length_map, sizeLine_eq]; omega, ?_⟩
        refine ⟨_, rfl, _, _, rfl, rfl, ⟨by decide, by decide, by decide⟩, _, _, rfl, rfl, ⟨by decide, by decide⟩, ?_⟩
        refine ⟨ns ++ [_], _, rfl, by rw [upd_same, List.map_append]; rfl, (SameX.upd (Same.x s1)).same hD, by simp⟩
    all_goals
      clear c1
      refine ⟨_, rfl, _, _, rfl, rfl, _, _, rfl, rfl, .inr ⟨by decide, by decide⟩, _, _, rfl, rfl, by simp, ?_⟩
      refine ⟨fun n σ H' => ∃ (ns : List Int) (num : Int) (z : Option V), σ = [some (.int c), some (.int m), some (.ref D), some (.int left), some (.int num), z] ∧ (0 ≤ num ∧ num < 2147483647) ∧ H' D = some (.lst (ns.map V.int)) ∧ Same H H' ∧ ns.length ≤ m ∧ n = m - ns.length, ⟨m - ns.length, ns, _, _, rfl, ⟨Int.emod_nonneg _ (by decide), Int.emod_lt_of_pos _ (by decide)⟩, h1, s1, hl, rfl⟩, ?_⟩
      clear h1 s1 hl H1
      rintro n σ H1 ⟨ns, num, z, rfl, ⟨hn0, hn1⟩, h1, s1, hl, rfl⟩
      refine ⟨_, rfl, .inl ⟨D, _, rfl, .inl (SqL.of h1), _, rfl, _, _, rfl, rfl, _, rfl, ite2 (fun c1 => ?_) (fun c1 => ?_)⟩⟩
      · have c3 : ns.length < m := by have := of_decide_eq_true c1; rw [List.length_map] at this; omega
        refine ⟨fun σ H' => ∃ (ns' : List Int) (num : Int) (z : Option V), σ = [some (.int c), some (.int m), some (.ref D), some (.int left), some (.int num), z] ∧ (0 ≤ num ∧ num < 2147483647) ∧ H' D = some (.lst (ns'.map V.int)) ∧ Same H H' ∧ ns'.length = ns.length + 1, ?_, ?_⟩
        · rintro σ' H' ⟨ns', num', z', rfl, a0, a1, a2, a3⟩
          exact ⟨m - ns'.length, by omega, ns', num', z', rfl, a0, a1, a2, by omega, rfl⟩
        · refine ⟨_, rfl, _, rfl, .inl ⟨D, _, rfl, .inl (SqL.of h1), _, _, rfl, rfl, .inl ⟨by decide, by decide⟩, _, _, rfl, rfl, _, _, rfl, rfl, ?_⟩⟩
          refine ⟨_, rfl, _, rfl, _, _, rfl, rfl, ⟨by decide, by decide⟩, _, _, rfl, rfl, _, _, rfl, rfl, .inr ⟨by omega, by omega⟩, _, _, rfl, rfl, by simp, ?_⟩
          have num0 := Int.emod_nonneg ((num + 7919 * ((ns.map V.int).length : Int) + 1) * (num / 1009 + 69621)) (show (2147483647 : Int) ≠ 0 by decide)
          have num1 := Int.emod_lt_of_pos ((num + 7919 * ((ns.map V.int).length : Int) + 1) * (num / 1009 + 69621)) (show (0 : Int) < 2147483647 by decide)
          refine ⟨_, rfl, .inl ⟨rfl, _, SqL.of h1⟩, _, rfl, _, rfl, _, _, rfl, rfl, ⟨by decide, by decide⟩, _, _, rfl, rfl, _, _, rfl, rfl, .inl ⟨Int.lt_of_lt_of_le (by decide) num0, Int.lt_trans num1 (by decide)⟩, _, _, rfl, rfl, by simp, D, _, _, rfl, rfl, h1, by rw [List.length_map, sizeLine_eq]; omega, ?_⟩
          exact ⟨ns ++ [_], _, _, rfl, ⟨num0, num1⟩, by rw [upd_same, List.map_append]; rfl, (SameX.upd (Same.x s1)).same hD, by simp⟩
      · refine ⟨_, rfl, _, rfl, _, rfl, D, _, rfl, rfl, SqL.of h1, fun p hp => ?_⟩
        exact k _ p ns.reverse (s1.trans (same_upd hp)) (s1.free hp) (by rw [upd_same, List.map_reverse])
end KK

set_option Elab.async false
set_option linter.all false
set_option maxRecDepth 100000
set_option maxHeartbeats 8000000
namespace KK
open PySem PySem.Spec L2 L3
theorem at_two {a b : Str} {i : Int} (h0 : 0 ≤ i) (h1 : i < 2) : ∃ w, atI [V.str a, .str b] i = some (.str w) ∧ (w = a ∨ w = b) := by
  rcases (show i = 0 ∨ i = 1 by omega) with rfl | rfl
  · exact ⟨a, rfl, .inl rfl⟩
  · exact ⟨b, rfl, .inr rfl⟩
theorem at_eight {i : Int} (h0 : 0 ≤ i) (h1 : i < 8) : ∃ w, atI [V.str "not", .str "next", .str "always", .str "ever", .str "before", .str "once", .str "sofar", .str "all"] i = some (.str w) ∧ w ∈ W1 := by
  rcases (show i = 0 ∨ i = 1 ∨ i = 2 ∨ i = 3 ∨ i = 4 ∨ i = 5 ∨ i = 6 ∨ i = 7 by omega) with rfl | rfl | rfl | rfl | rfl | rfl | rfl | rfl
  all_goals exact ⟨_, rfl, by decide +kernel⟩
def sp__law_sentence (n : Nat) (K : PySem.W.Frag) (a : Adr) : Sp := fun vs H Q _ => ∃ (p : Addr) (ns : List Int) (d : Int) (l : Addr) (ss : List Str), vs = [.ref p, .int d, .ref l] ∧ d.toNat < n ∧ -1 ≤ d ∧ H p = some (.lst (ns.map V.int)) ∧ H l = some (.lst (ss.map V.str)) ∧ l ≠ p ∧ ss ≠ [] ∧ (∀ x ∈ ss, isNameS x = true) ∧ ∀ H' v t (ns' : List Int), SameX p H H' → H' p = some (.lst (ns'.map V.int)) → At K (d.toNat + 1) H' v t → (∃ a xs, v = .ref a ∧ H' a = some (.tup xs)) → (post t).length ≤ 3 ^ (d + 1).toNat → (∀ z ∈ sgs t, z ∈ ss) → Q v H'
theorem zz__law_sentence {K : PySem.W.Frag} {a : Adr} {vs : List V} {H : Hp} {Q : VK} {E : XK} (h : sp__law_sentence 0 K a vs H Q E) : False := by
  obtain ⟨_, _, d, _, _, _, hm, _⟩ := h
  omega
theorem ok__law_sentence {P : Program} {w : World} {K : PySem.W.Frag} {mg : Str → Option Value} {base : Heap} {a : Adr} (T : Txt K mg a) (hw : w.params = a.Pm) : ∀ n : Nat, FnOk P w K mg base CX0 (2 + n) a._law_sentence a._law_sentence_fd ["_law_xs", "_law_deep", "_law_names"] (sp__law_sentence n K a) := by
  have G__law_draw := ok__law_draw (P := P) (w := w) (base := base) T hw
  intro n
  induction n with
  | zero => exact ⟨fun _ _ _ _ h => (zz__law_sentence h).elim, fun _ _ _ _ _ _ _ _ _ _ _ _ _ h => (zz__law_sentence h).elim⟩
  | succ n G__law_sentence =>
    refine T.f__law_sentence.ok sc__law_sentence (fun vs H Q E h => ?_) (fun cdv A outer s H vs Q E hr h => ?_)
    · obtain ⟨p, ns, d, l, ss, rfl, _⟩ := h
      rfl
    · obtain ⟨p, ns, d, l, ss, rfl, hd, hd0, hp, hl, nl, hne, hn, k⟩ := h
      refine ⟨_, (@pss_cons _ _ _ _ _ (@ps_set _ _ (3) _ _ _ _ sc__law_sentence.nd
      rfl
      (by first | exact Or.inl rfl | exact Or.inr rfl)
      (pe_call G__law_draw (hr.mono (show _ ≤ 2 + n by omega)) rfl T.g__law_draw T.f__law_draw.kp T.n__law_draw .nil pass0 (@pa_cons _ _ _ _ _ (pv 0)
      pa_nil
      (by rfl)))
      (by rfl)
      (by first | exact .inl rfl | exact .inr rfl | assumption))
      (@pss_cons _ _ _ _ _ (@ps_set _ _ (4) _ _ _ _ sc__law_sentence.nd
      rfl
      (by first | exact Or.inl rfl | exact Or.inr rfl)
      (@pe_op _ _ _ _ _ _ _ _ op_mod
      (pv 3)
      pe_int)
      (by rfl)
      (by first | exact .inl rfl | exact .inr rfl | assumption))
      (@pss_cons _ _ _ _ _ (@ps_if _ _ _ _ _ _ _ _ (PW.pt (pw_or (@pt_cmpR _ _ _ _ _ _ _ _ op_lt
      (pv 1)
      pe_int
      (nomark _)) (pw_or1 (@pt_cmpR _ _ _ _ _ _ _ _ op_lt
      (pv 4)
      pe_int
      (nomark _)))))
      (@pss_one _ _ _ (@ps_ret _ _ _ _ (@pe_ix _ _ _ _ _ _ _ (ix_listK (K := K) rfl)
      (@pe_lst _ _ _ _ (@pa_cons _ _ _ _ _ (@pe_tup _ _ _ _ _ (@pa_cons _ _ _ _ _ pe_str
      pa_nil
      (by rfl)))
      (@pa_cons _ _ _ _ _ (@pe_tup _ _ _ _ _ (@pa_cons _ _ _ _ _ pe_str
      (@pa_cons _ _ _ _ _ (@pe_ix _ _ _ _ _ _ _ (ix_listK (K := K) rfl)
      (pv 2)
      (@pe_op _ _ _ _ _ _ _ _ op_mod
      (@pe_op _ _ _ _ _ _ _ _ op_fdiv
      (pv 3)
      pe_int)
      (pe_callB (call_lenK (K := K) rfl) rfl T.b_len PyProof.Rows.Boot.«len» (@pa_cons _ _ _ _ _ (pv 2)
      pa_nil
      (by rfl))))
      (fun _ _ => rfl))
      pa_nil
      (by rfl))
      (by rfl)))
      pa_nil
      (by rfl))
      (by rfl)))
      (pe_callTy (call_int1) rfl T.b_int PyProof.Rows.Boot.«int» (@pa_cons _ _ _ _ _ (@pe_cmpR _ _ _ _ _ _ _ _ op_gt
      (@pe_op _ _ _ _ _ _ _ _ op_mod
      (@pe_op _ _ _ _ _ _ _ _ op_fdiv
      (pv 3)
      pe_int)
      pe_int)
      pe_int
      (nomark _))
      pa_nil
      (by rfl)))
      (fun _ _ => rfl))))
      pss_nil)
      (@pss_cons _ _ _ _ _ (@ps_set _ _ (5) _ _ _ _ sc__law_sentence.nd
      rfl
      (by first | exact Or.inl rfl | exact Or.inr rfl)
      (pe_call G__law_sentence hr rfl T.g__law_sentence T.f__law_sentence.kp T.n__law_sentence .nil pass0 (@pa_c _ _ _ _ _ (pv 0)
      (@pa_c _ _ _ _ _ (@pe_op _ _ _ _ _ _ _ _ op_sub
      (pv 1)
      pe_int)
      (@pa_c _ _ _ _ _ (pv 2)
      pa_nil
      (by rfl))
      (by rfl))
      (by rfl)))
      (by rfl)
      (by first | exact .inl rfl | exact .inr rfl | assumption))
      (@pss_cons _ _ _ _ _ (@ps_if _ _ _ _ _ _ _ _ (@pt_cmpR _ _ _ _ _ _ _ _ op_lt
      (pv 4)
      pe_int
      (nomark _))
      (@pss_one _ _ _ (@ps_ret _ _ _ _ (@pe_tup _ _ _ _ _ (@pa_cons _ _ _ _ _ (@pe_ix _ _ _ _ _ _ _ (ix_listK (K := K) rfl)
      (@pe_lst _ _ _ _ (@pa_c _ _ _ _ _ pe_str
      (@pa_c _ _ _ _ _ pe_str
      (@pa_c _ _ _ _ _ pe_str
      (@pa_c _ _ _ _ _ pe_str
      (@pa_c _ _ _ _ _ pe_str
      (@pa_c _ _ _ _ _ pe_str
      (@pa_c _ _ _ _ _ pe_str
      (@pa_c _ _ _ _ _ pe_str
      pa_nil
      (by rfl))
      (by rfl))
      (by rfl))
      (by rfl))
      (by rfl))
      (by rfl))
      (by rfl))
      (by rfl)))
      (@pe_op _ _ _ _ _ _ _ _ op_sub
      (pv 4)
      pe_int)
      (fun _ _ => rfl))
      (@pa_cons _ _ _ _ _ (pv 5)
      pa_nil
      (by rfl))
      (by rfl)))))
      pss_nil)
      (@pss_cons _ _ _ _ _ (@ps_if _ _ _ _ _ _ _ _ (@pt_cmpR _ _ _ _ _ _ _ _ op_eq
      (pv 4)
      pe_int
      (nomark _))
      (@pss_one _ _ _ (@ps_ret _ _ _ _ (@pe_tup _ _ _ _ _ (@pa_cons _ _ _ _ _ pe_str
      (@pa_cons _ _ _ _ _ (pv 5)
      pa_nil
      (by rfl))
      (by rfl)))))
      pss_nil)
      (@pss_cons _ _ _ _ _ (@ps_if _ _ _ _ _ _ _ _ (@pt_cmpR _ _ _ _ _ _ _ _ op_lt
      (pv 4)
      pe_int
      (nomark _))
      (@pss_one _ _ _ (@ps_ret _ _ _ _ (@pe_tup _ _ _ _ _ (@pa_c _ _ _ _ _ (@pe_ix _ _ _ _ _ _ _ (ix_listK (K := K) rfl)
      (@pe_lst _ _ _ _ (@pa_cons _ _ _ _ _ pe_str
      (@pa_cons _ _ _ _ _ pe_str
      pa_nil
      (by rfl))
      (by rfl)))
      (@pe_op _ _ _ _ _ _ _ _ op_sub
      (pv 4)
      pe_int)
      (fun _ _ => rfl))
      (@pa_c _ _ _ _ _ (pv 5)
      (@pa_c _ _ _ _ _ (pe_call G__law_sentence hr rfl T.g__law_sentence T.f__law_sentence.kp T.n__law_sentence .nil pass0 (@pa_c _ _ _ _ _ (pv 0)
      (@pa_c _ _ _ _ _ (@pe_op _ _ _ _ _ _ _ _ op_sub
      (pv 1)
      pe_int)
      (@pa_c _ _ _ _ _ (pv 2)
      pa_nil
      (by rfl))
      (by rfl))
      (by rfl)))
      pa_nil
      (by rfl))
      (by rfl))
      (by rfl)))))
      pss_nil)
      (@pss_cons _ _ _ _ _ (@ps_if _ _ _ _ _ _ _ _ (@pt_cmpR _ _ _ _ _ _ _ _ op_eq
      (pv 4)
      pe_int
      (nomark _))
      (@pss_one _ _ _ (@ps_ret _ _ _ _ (@pe_tup _ _ _ _ _ (@pa_c _ _ _ _ _ pe_str
      (@pa_c _ _ _ _ _ (@pe_op _ _ _ _ _ _ _ _ op_mod
      (@pe_op _ _ _ _ _ _ _ _ op_fdiv
      (pv 3)
      pe_int)
      (@pe_ix _ _ _ _ _ _ _ (ix_listK (K := K) rfl)
      (@pe_lst _ _ _ _ (@pa_cons _ _ _ _ _ pe_int
      (@pa_cons _ _ _ _ _ pe_int
      pa_nil
      (by rfl))
      (by rfl)))
      (pe_callTy (call_int1) rfl T.b_int PyProof.Rows.Boot.«int» (@pa_cons _ _ _ _ _ (@pe_cmpR _ _ _ _ _ _ _ _ op_eq
      (pv 1)
      pe_int
      (nomark _))
      pa_nil
      (by rfl)))
      (fun _ _ => rfl)))
      (@pa_c _ _ _ _ _ (pv 5)
      (@pa_c _ _ _ _ _ (pe_call G__law_sentence hr rfl T.g__law_sentence T.f__law_sentence.kp T.n__law_sentence .nil pass0 (@pa_c _ _ _ _ _ (pv 0)
      (@pa_c _ _ _ _ _ (@pe_op _ _ _ _ _ _ _ _ op_sub
      (pv 1)
      pe_int)
      (@pa_c _ _ _ _ _ (pv 2)
      pa_nil
      (by rfl))
      (by rfl))
      (by rfl)))
      pa_nil
      (by rfl))
      (by rfl))
      (by rfl))
      (by rfl)))))
      pss_nil)
      (@pss_cons _ _ _ _ _ (@ps_set _ _ (6) _ _ _ _ sc__law_sentence.nd
      rfl
      (by first | exact Or.inl rfl | exact Or.inr rfl)
      (@pe_lst _ _ _ _ (@pa_cons _ _ _ _ _ (pv 5)
      pa_nil
      (by rfl)))
      (by rfl)
      (by first | exact .inl rfl | exact .inr rfl | assumption))
      (@pss_cons _ _ _ _ _ (ps_for PassesOwn.never rfl (pi_range1 rfl T.b_range (@pa_cons _ _ _ _ _ (@pe_op _ _ _ _ _ _ _ _ op_mod
      (@pe_op _ _ _ _ _ _ _ _ op_fdiv
      (pv 3)
      pe_int)
      pe_int)
      pa_nil
      (by rfl))) (pg_name (i := 7) sc__law_sentence.nd rfl (by first | exact Or.inl rfl | exact Or.inr rfl)) (@pss_one _ _ _ (@ps_expr _ _ _ _ (pe_bm PySem.F.plainAttrs_list PySem.F.slot_list_append PySem.F.type_list_append mt_append (pv 6) (@pa_cons _ _ _ _ _ (pe_call G__law_sentence hr rfl T.g__law_sentence T.f__law_sentence.kp T.n__law_sentence .nil pass0 (@pa_c _ _ _ _ _ (pv 0)
      (@pa_c _ _ _ _ _ (@pe_op _ _ _ _ _ _ _ _ op_sub
      (pv 1)
      pe_int)
      (@pa_c _ _ _ _ _ (pv 2)
      pa_nil
      (by rfl))
      (by rfl))
      (by rfl)))
      pa_nil
      (by rfl)))
      (by rfl))))
      (@pss_cons _ _ _ _ _ (@ps_if _ _ _ _ _ _ _ _ (@pt_cmpR _ _ _ _ _ _ _ _ op_eq
      (@pe_op _ _ _ _ _ _ _ _ op_mod
      (@pe_op _ _ _ _ _ _ _ _ op_fdiv
      (pv 3)
      pe_int)
      pe_int)
      pe_int
      (nomark _))
      (@pss_one _ _ _ (@ps_set _ _ (6) _ _ _ _ sc__law_sentence.nd
      rfl
      (by first | exact Or.inl rfl | exact Or.inr rfl)
      (@pe_lst _ _ _ _ pa_nil)
      (by rfl)
      (by first | exact .inl rfl | exact .inr rfl | assumption)))
      pss_nil)
      (@pss_one _ _ _ (@ps_ret _ _ _ _ (@pe_tup _ _ _ _ _ (@pa_cons _ _ _ _ _ (@pe_ix _ _ _ _ _ _ _ (ix_listK (K := K) rfl)
      (@pe_lst _ _ _ _ (@pa_cons _ _ _ _ _ pe_str
      (@pa_cons _ _ _ _ _ pe_str
      pa_nil
      (by rfl))
      (by rfl)))
      (@pe_op _ _ _ _ _ _ _ _ op_sub
      (pv 4)
      pe_int)
      (fun _ _ => rfl))
      (@pa_cons _ _ _ _ _ (pe_callTy (call_tupleK (K := K) rfl) rfl T.b_tuple PyProof.Rows.Boot.«tuple» (@pa_cons _ _ _ _ _ (pv 6)
      pa_nil
      (by rfl)))
      pa_nil
      (by rfl))
      (by rfl)))))))))))))))), ?_⟩
      refine ⟨_, rfl, p, ns, rfl, hp, fun H1 m ns1 x1 h1 => ?_⟩
      refine ⟨_, rfl, _, _, rfl, rfl, by simp, ?_⟩
      have w0 := Int.emod_nonneg m (show (16 : Int) ≠ 0 by decide)
      have w1 := Int.emod_lt_of_pos m (show (0 : Int) < 16 by decide)
      have l1 := x1 _ _ nl hl
      show tSeq _ _ _ [some (.ref p), some (.int d), some (.ref l), some (.int m), some (.int (m % 16)), none, none, none] H1
      refine ⟨_, rfl, _, _, rfl, rfl, _, rfl, ite2 (fun c => ?l1) (fun c1 => ⟨_, rfl, _, _, rfl, rfl, _, rfl, ite2 (fun c => ?l2) (fun c2 => ?_)⟩)⟩
      case l1 =>
        have c' := True.intro
        refine ⟨by rw [sizeLine_eq]; simp, fun t1 ht1 => ?_⟩
        have s2 := same_upd (o := .tup [.str "yes"]) ht1
        have e2 : (upd H1 t1 (.tup [.str "yes"])) t1 = some (.tup [.str "yes"]) := upd_same
        generalize upd H1 t1 (.tup [.str "yes"]) = H2 at s2 e2 ⊢
        obtain ⟨pl, v, hv, hvm⟩ := at_mod (ts := ss.map V.str) (m / 48) (fun e => hne (List.map_eq_nil_iff.mp e))
        obtain ⟨z, hz, ez⟩ := List.mem_map.mp hvm
        subst ez
        refine ⟨_, rfl, _, rfl, _, _, rfl, rfl, ⟨by decide, by decide⟩, _, rfl, .inl ⟨l, _, rfl, .inl (SqL.of (s2 _ _ l1)), _, _, rfl, rfl, pl, l, _, _, _, rfl, rfl, SqL.of (s2 _ _ l1), hv, by rw [sizeLine_eq]; simp, fun t2 ht2 => ?_⟩⟩
        have s3 := same_upd (o := .tup [.str "sign", .str z]) ht2
        have e3 : (upd H2 t2 (.tup [.str "sign", .str z])) t2 = some (.tup [.str "sign", .str z]) := upd_same
        generalize upd H2 t2 (.tup [.str "sign", .str z]) = H3 at s3 e3 ⊢
        refine ⟨by rw [sizeLine_eq]; simp, fun L hL => ?_⟩
        have s4 := same_upd (o := .lst [.ref t1, .ref t2]) hL
        have e4 : (upd H3 L (.lst [.ref t1, .ref t2])) L = some (.lst [.ref t1, .ref t2]) := upd_same
        generalize upd H3 L (.lst [.ref t1, .ref t2]) = H4 at s4 e4 ⊢
        have X4 : SameX p H H4 := x1.trans (Same.x (s2.trans (s3.trans s4)))
        have h4 := (s2.trans (s3.trans s4)) _ _ h1
        have p5 : 1 ≤ 3 ^ (d + 1).toNat := Nat.one_le_pow _ _ (by decide)
        refine ⟨_, rfl, _, _, rfl, rfl, ⟨by decide, by decide⟩, _, _, rfl, rfl, by simp, _, _, rfl, rfl, .inr ⟨_, rfl, ?_⟩⟩
        by_cases hb : m / 16 % 3 > 0
        · refine ⟨L, _, _, .ref t2, rfl, rfl, SqL.of e4, ?_, k _ _ (.node (.sign z) []) ns1 X4 h4 (at_sign (SqT.of (s4 _ _ e3)) (hn z hz)) ⟨_, _, rfl, s4 _ _ e3⟩ (by rw [post_len]; simpa [postL] using p5) (sg_sign hz)⟩
          rw [if_pos (decide_eq_true hb)]
          rfl
        · refine ⟨L, _, _, .ref t1, rfl, rfl, SqL.of e4, ?_, k _ _ (.node .yes []) ns1 X4 h4 (at_yes (SqT.of ((s3.trans s4) _ _ e2))) ⟨_, _, rfl, (s3.trans s4) _ _ e2⟩ (by rw [post_len]; simpa [postL] using p5) sg_yes⟩
          rw [if_neg (by simpa using hb)]
          rfl
      case l2 =>
        have c' := True.intro
        refine ⟨by rw [sizeLine_eq]; simp, fun t1 ht1 => ?_⟩
        have s2 := same_upd (o := .tup [.str "yes"]) ht1
        have e2 : (upd H1 t1 (.tup [.str "yes"])) t1 = some (.tup [.str "yes"]) := upd_same
        generalize upd H1 t1 (.tup [.str "yes"]) = H2 at s2 e2 ⊢
        obtain ⟨pl, v, hv, hvm⟩ := at_mod (ts := ss.map V.str) (m / 48) (fun e => hne (List.map_eq_nil_iff.mp e))
        obtain ⟨z, hz, ez⟩ := List.mem_map.mp hvm
        subst ez
        refine ⟨_, rfl, _, rfl, _, _, rfl, rfl, ⟨by decide, by decide⟩, _, rfl, .inl ⟨l, _, rfl, .inl (SqL.of (s2 _ _ l1)), _, _, rfl, rfl, pl, l, _, _, _, rfl, rfl, SqL.of (s2 _ _ l1), hv, by rw [sizeLine_eq]; simp, fun t2 ht2 => ?_⟩⟩
        have s3 := same_upd (o := .tup [.str "sign", .str z]) ht2
        have e3 : (upd H2 t2 (.tup [.str "sign", .str z])) t2 = some (.tup [.str "sign", .str z]) := upd_same
        generalize upd H2 t2 (.tup [.str "sign", .str z]) = H3 at s3 e3 ⊢
        refine ⟨by rw [sizeLine_eq]; simp, fun L hL => ?_⟩
        have s4 := same_upd (o := .lst [.ref t1, .ref t2]) hL
        have e4 : (upd H3 L (.lst [.ref t1, .ref t2])) L = some (.lst [.ref t1, .ref t2]) := upd_same
        generalize upd H3 L (.lst [.ref t1, .ref t2]) = H4 at s4 e4 ⊢
        have X4 : SameX p H H4 := x1.trans (Same.x (s2.trans (s3.trans s4)))
        have h4 := (s2.trans (s3.trans s4)) _ _ h1
        have p5 : 1 ≤ 3 ^ (d + 1).toNat := Nat.one_le_pow _ _ (by decide)
        refine ⟨_, rfl, _, _, rfl, rfl, ⟨by decide, by decide⟩, _, _, rfl, rfl, by simp, _, _, rfl, rfl, .inr ⟨_, rfl, ?_⟩⟩
        by_cases hb : m / 16 % 3 > 0
        · refine ⟨L, _, _, .ref t2, rfl, rfl, SqL.of e4, ?_, k _ _ (.node (.sign z) []) ns1 X4 h4 (at_sign (SqT.of (s4 _ _ e3)) (hn z hz)) ⟨_, _, rfl, s4 _ _ e3⟩ (by rw [post_len]; simpa [postL] using p5) (sg_sign hz)⟩
          rw [if_pos (decide_eq_true hb)]
          rfl
        · refine ⟨L, _, _, .ref t1, rfl, rfl, SqL.of e4, ?_, k _ _ (.node .yes []) ns1 X4 h4 (at_yes (SqT.of ((s3.trans s4) _ _ e2))) ⟨_, _, rfl, (s3.trans s4) _ _ e2⟩ (by rw [post_len]; simpa [postL] using p5) sg_yes⟩
          rw [if_neg (by simpa using hb)]
          rfl
      have hd1 : 1 ≤ d := by have : ¬ (d < 1) := fun z => c1 (decide_eq_true z); omega
      have hw2 : 2 ≤ m % 16 := by have : ¬ (m % 16 < 2) := fun z => c2 (decide_eq_true z); omega
      clear c1 c2
      -- the first one in it
      refine ⟨_, rfl, _, rfl, _, _, rfl, rfl, _, rfl, p, ns1, d - 1, l, ss, rfl, by omega, by omega, h1, l1, nl, hne, hn, fun H2 v1 t1 ns2 x2 h2 at1 _ sz1 g1 => ?_⟩
      have eD : (d - 1).toNat + 1 = d.toNat := by omega
      have eD2 : (d - 2).toNat + 1 ≤ d.toNat := by omega
      rw [eD] at at1
      rw [show (d - 1 + 1).toNat = d.toNat by omega] at sz1
      have x02 := x1.trans x2
      have l2 := x2 _ _ nl l1
      have e5 : 3 ^ (d + 1).toNat = 3 ^ d.toNat * 3 := by rw [show (d + 1).toNat = d.toNat + 1 by omega]; exact Nat.pow_succ ..
      have p5 : 1 ≤ 3 ^ d.toNat := Nat.one_le_pow _ _ (by decide)
      have q5 : 3 ^ d.toNat = 3 ^ (d - 2 + 1).toNat * 3 := by rw [show d.toNat = (d - 2 + 1).toNat + 1 by omega]; exact Nat.pow_succ ..
      clear x1 x2 h1 l1
      show tSeq _ _ _ [some (.ref p), some (.int d), some (.ref l), some (.int m), some (.int (m % 16)), some v1, none, none] H2
      refine ⟨_, rfl, _, _, rfl, rfl, _, rfl, ite2 (fun c => ?w10) (fun c10 => ?_)⟩
      case w10 =>
        have hlt : m % 16 < 10 := of_decide_eq_true c
        refine ⟨by rw [sizeLine_eq]; simp, fun L hL => ?_⟩
        have s3 := same_upd (o := .lst [V.str "not", .str "next", .str "always", .str "ever", .str "before", .str "once", .str "sofar", .str "all"]) hL
        have e3 : (upd H2 L (.lst [V.str "not", .str "next", .str "always", .str "ever", .str "before", .str "once", .str "sofar", .str "all"])) L = some (.lst [V.str "not", .str "next", .str "always", .str "ever", .str "before", .str "once", .str "sofar", .str "all"]) := upd_same
        generalize upd H2 L (.lst [V.str "not", .str "next", .str "always", .str "ever", .str "before", .str "once", .str "sofar", .str "all"]) = H3 at s3 e3 ⊢
        obtain ⟨w, hw, hwm⟩ := at_eight (i := m % 16 - 2) (by omega) (by omega)
        refine ⟨_, rfl, _, _, rfl, rfl, L, _, _, .str w, rfl, rfl, SqL.of e3, hw, _, rfl, by rw [sizeLine_eq]; simp, fun t ht => ?_⟩
        have s4 := same_upd (o := .tup [.str w, v1]) ht
        refine k _ _ (.node (.op w) [t1]) ns2 (x02.trans (Same.x (s3.trans s4))) ((s3.trans s4) _ _ h2) (at_op1 (SqT.of upd_same) hwm (at1.mono (Same.tup (s3.trans s4)))) ⟨_, _, rfl, upd_same⟩ ?_ (sg_node (by intro _ h; cases h) (sg_one g1))
        rw [post_len, postL_one]
        omega
      have h10 : 10 ≤ m % 16 := by have : ¬ (m % 16 < 10) := fun z => c10 (decide_eq_true z); omega
      refine ⟨_, rfl, rfl, _, rfl, ite2 (fun c => ?w11) (fun c11 => ?_)⟩
      case w11 =>
        refine ⟨_, rfl, by rw [sizeLine_eq]; simp, fun t ht => ?_⟩
        have s4 := same_upd (o := .tup [.str "some", v1]) ht
        refine k _ _ (.node (.op "some") [t1]) ns2 (x02.trans (Same.x s4)) (s4 _ _ h2) (at_op1 (SqT.of upd_same) (by decide +kernel) (at1.mono (Same.tup s4))) ⟨_, _, rfl, upd_same⟩ ?_ (sg_node (by intro _ h; cases h) (sg_one g1))
        rw [post_len, postL_one]
        omega
      have h11 : 11 ≤ m % 16 := by have : ¬ (m % 16 = 10) := fun z => c11 (decide_eq_true (congrArg V.int z)); omega
      refine ⟨_, rfl, _, _, rfl, rfl, _, rfl, ite2 (fun c => ?w13) (fun c13 => ?_)⟩
      case w13 =>
        have hlt : m % 16 < 13 := of_decide_eq_true c
        refine ⟨by rw [sizeLine_eq]; simp, fun L hL => ?_⟩
        have s3 := same_upd (o := .lst [.str "until", .str "since"]) hL
        have e3 : (upd H2 L (.lst [.str "until", .str "since"])) L = some (.lst [.str "until", .str "since"]) := upd_same
        generalize upd H2 L (.lst [.str "until", .str "since"]) = H3 at s3 e3 ⊢
        obtain ⟨w, hw, hwm⟩ := at_two (a := "until") (b := "since") (i := m % 16 - 11) (by omega) (by omega)
        refine ⟨_, rfl, _, _, rfl, rfl, L, _, _, .str w, rfl, rfl, SqL.of e3, hw, _, rfl, _, rfl, _, rfl, _, _, rfl, rfl, _, rfl, p, ns2, d - 2, l, ss, rfl, by omega, by omega, s3 _ _ h2, s3 _ _ l2, nl, hne, hn, fun H4 v2 t2 ns4 x4 h4 at2 _ sz2 g2 => ?_⟩
        refine ⟨by rw [sizeLine_eq]; simp, fun t ht => ?_⟩
        have s5 := same_upd (o := .tup [.str w, v1, v2]) ht
        have t4 : SameT H2 H4 := (Same.tup s3).trans (SameX.tup x4 (s3 _ _ h2))
        refine k _ _ (.node (.op w) [t1, t2]) ns4 ((x02.trans (Same.x s3)).trans (x4.trans (Same.x s5))) (s5 _ _ h4) (at_op2 (SqT.of upd_same) (by rcases hwm with rfl | rfl <;> decide +kernel) (at1.mono (t4.trans (Same.tup s5))) ((at2.le eD2).mono (Same.tup s5))) ⟨_, _, rfl, upd_same⟩ ?_ (sg_node (by intro _ h; cases h) (sg_two g1 g2))
        rw [post_len, show [t1, t2] = [t1] ++ [t2] from rfl, postL_app, postL_one, postL_one, List.length_append]
        omega
      have h13 : 13 ≤ m % 16 := by have : ¬ (m % 16 < 13) := fun z => c13 (decide_eq_true z); omega
      refine ⟨_, rfl, rfl, _, rfl, ite2 (fun c => ?w14) (fun c14 => ?_)⟩
      case w14 =>
        refine ⟨_, rfl, _, _, rfl, rfl, ⟨by decide, by decide⟩, by rw [sizeLine_eq]; simp, fun L hL => ?_⟩
        have s3 := same_upd (o := .lst [.int 2, .int 6]) hL
        have e3 : (upd H2 L (.lst [.int 2, .int 6])) L = some (.lst [.int 2, .int 6]) := upd_same
        generalize upd H2 L (.lst [.int 2, .int 6]) = H3 at s3 e3 ⊢
        obtain ⟨j, hj, hjm⟩ : ∃ j : Int, atI [V.int 2, .int 6] (if decide (V.int d = V.int 1) = true then 1 else 0) = some (.int j) ∧ (j = 2 ∨ j = 6) := by
          by_cases hb : decide (V.int d = V.int 1) = true
          · rw [if_pos hb]; exact ⟨6, rfl, .inr rfl⟩
          · rw [if_neg hb]; exact ⟨2, rfl, .inl rfl⟩
        refine ⟨_, rfl, rfl, .inr ⟨_, rfl, L, _, _, .int j, rfl, rfl, SqL.of e3, hj, _, _, rfl, rfl, by rcases hjm with rfl | rfl <;> decide, ?_⟩⟩
        have j0 := Int.emod_nonneg (m / 16) (show j ≠ 0 by rcases hjm with rfl | rfl <;> decide)
        have j1 := Int.emod_lt_of_pos (m / 16) (show (0 : Int) < j by rcases hjm with rfl | rfl <;> decide)
        refine ⟨_, rfl, _, rfl, _, rfl, _, _, rfl, rfl, _, rfl, p, ns2, d - 2, l, ss, rfl, by omega, by omega, s3 _ _ h2, s3 _ _ l2, nl, hne, hn, fun H4 v2 t2 ns4 x4 h4 at2 _ sz2 g2 => ?_⟩
        refine ⟨by rw [sizeLine_eq]; simp, fun t ht => ?_⟩
        have s5 := same_upd (o := .tup [.str "within", .int (m / 16 % j), v1, v2]) ht
        have t4 : SameT H2 H4 := (Same.tup s3).trans (SameX.tup x4 (s3 _ _ h2))
        refine k _ _ (.node (.wit (m / 16 % j)) [t1, t2]) ns4 ((x02.trans (Same.x s3)).trans (x4.trans (Same.x s5))) (s5 _ _ h4) (at_wit (SqT.of upd_same) ⟨j0, by rcases hjm with rfl | rfl <;> omega⟩ (at1.mono (t4.trans (Same.tup s5))) ((at2.le eD2).mono (Same.tup s5))) ⟨_, _, rfl, upd_same⟩ ?_ (sg_node (by intro _ h; cases h) (sg_two g1 g2))
        rw [post_len, show [t1, t2] = [t1] ++ [t2] from rfl, postL_app, postL_one, postL_one, List.length_append]
        omega
      have h14 : 14 ≤ m % 16 := by have : ¬ (m % 16 = 13) := fun z => c14 (decide_eq_true (congrArg V.int z)); omega
      -- and, or
      refine ⟨_, rfl, by rw [sizeLine_eq]; simp, fun F hF => ?_⟩
      have s3 := same_upd (o := .lst [v1]) hF
      have e3 : (upd H2 F (.lst [v1])) F = some (.lst [v1]) := upd_same
      have nF : F ≠ p := fun e => by rw [e, h2] at hF; cases hF
      have hF0 : H F = none := x02.free nF hF
      have nlF : l ≠ F := ne_new l2 hF
      generalize upd H2 F (.lst [v1]) = H3 at s3 e3 ⊢
      have m0 := Int.emod_nonneg (m / 16) (show (4 : Int) ≠ 0 by decide)
      have m1 := Int.emod_lt_of_pos (m / 16) (show (0 : Int) < 4 by decide)
      refine ⟨_, rfl, _, _, rfl, rfl, ⟨by decide, by decide⟩, _, _, rfl, rfl, by simp, _, rfl, by omega, by omega, ?_⟩
      refine for_range (fun i σ H' => ∃ (z : Option V) (us : List V) (ks : List Tr) (ns' : List Int), σ = [some (.ref p), some (.int d), some (.ref l), some (.int m), some (.int (m % 16)), some v1, some (.ref F), z] ∧ SameX p H H' ∧ H' p = some (.lst (ns'.map V.int)) ∧ H' l = some (.lst (ss.map V.str)) ∧ H' F = some (.lst us) ∧ AtL K d.toNat H' us ks ∧ ks.length = i + 1 ∧ (postL ks).length ≤ 3 ^ d.toNat + i * 3 ^ (d - 2 + 1).toNat ∧ (∀ k ∈ ks, ∀ z ∈ sgs k, z ∈ ss)) ?_ ?_ ?_
      · exact ⟨_, [v1], [t1], ns2, rfl, x02.trans (Same.x s3), s3 _ _ h2, s3 _ _ l2, e3, AtL.one (at1.mono (Same.tup s3)), rfl, by rw [postL_one]; omega, sg_one g1⟩
      · rintro i σ H4 hi ⟨z, us, ks, ns4, rfl, x4, h4, l4, hF4, aL, kl, sz, gks⟩
        have hi' : i < (m / 16 % 4).toNat := hi
        refine ⟨_, rfl, .inl ⟨rfl, _, SqL.of hF4⟩, _, rfl, _, rfl, _, _, rfl, rfl, _, rfl, p, ns4, d - 2, l, ss, rfl, by omega, by omega, h4, l4, nl, hne, hn, fun H5 v2 t2 ns5 x5 h5 at2 _ sz2 g2 => ?_⟩
        have hF5 := x5 _ _ nF hF4
        have hul := aL.1
        refine ⟨F, _, _, rfl, rfl, hF5, by rw [sizeLine_eq]; omega, ?_⟩
        have x6 : SameX F H5 (upd H5 F (.lst (us ++ [v2]))) := (SameX.refl H5).upd
        have t6 : SameT H5 (upd H5 F (.lst (us ++ [v2]))) := SameX.tup x6 hF5
        have t5 : SameT H4 H5 := SameX.tup x5 h4
        refine ⟨_, us ++ [v2], ks ++ [t2], ns5, rfl, (x4.trans x5).updN hF0, updK h5 (Ne.symm nF), updK (x5 _ _ nl l4) nlF, upd_same, (aL.mono (t5.trans t6)).app (AtL.one ((at2.le eD2).mono t6)), by simp; omega, ?_, sg_app gks (sg_one g2)⟩
        rw [postL_app, postL_one, List.length_append, Nat.succ_mul]
        omega
      rintro σ H4 ⟨z, us, ks, ns4, rfl, x4, h4, l4, hF4, aL4, kl, sz, gks⟩
      have hkk : ks.length ≤ 4 := by rw [kl]; omega
      have szz : (postL ks).length ≤ 2 * 3 ^ d.toNat := Nat.le_trans sz (by have : (m / 16 % 4).toNat * 3 ^ (d - 2 + 1).toNat ≤ 3 * 3 ^ (d - 2 + 1).toNat := Nat.mul_le_mul_right _ (by omega); omega)
      clear sz kl e3 s3 hF at1 sz1 x02 h2 l2
      refine ⟨_, rfl, _, _, rfl, rfl, ⟨by decide, by decide⟩, _, _, rfl, rfl, by simp, rfl, _, rfl, ite2 (fun c => ?w20) (fun c => ?w21)⟩
      case w20 =>
        refine ⟨by rw [sizeLine_eq]; simp, fun F2 hF2 => ?_⟩
        have s5 := same_upd (o := .lst []) hF2
        have hF5 : (upd H4 F2 (.lst [])) F2 = some (.lst []) := upd_same
        generalize upd H4 F2 (.lst []) = H5 at s5 hF5 ⊢
        have x5 := x4.trans (Same.x s5)
        have h5 := s5 _ _ h4
        have aL : AtL K d.toNat H5 [] [] := AtL.nil
        have hk8 : ([] : List Tr).length ≤ 400 := by simp
        have szz : (postL []).length ≤ 2 * 3 ^ d.toNat := by simp [postL]
        refine ⟨by rw [sizeLine_eq]; simp, fun L hL => ?_⟩
        have s6 := same_upd (o := .lst [.str "and", .str "or"]) hL
        have e6 : (upd H5 L (.lst [.str "and", .str "or"])) L = some (.lst [.str "and", .str "or"]) := upd_same
        generalize upd H5 L (.lst [.str "and", .str "or"]) = H6 at s6 e6 ⊢
        obtain ⟨w, hw1, hw2⟩ := at_two (a := "and") (b := "or") (i := m % 16 - 14) (by omega) (by omega)
        refine ⟨_, rfl, _, _, rfl, rfl, L, _, _, .str w, rfl, rfl, SqL.of e6, hw1, _, rfl, F2, [], rfl, .inl ⟨SqL.of (s6 _ _ hF5), fun b hb => ?_⟩⟩
        have s7 := same_upd (o := .tup []) hb
        have e7 : (upd H6 b (.tup [])) b = some (.tup []) := upd_same
        generalize upd H6 b (.tup []) = H7 at s7 e7 ⊢
        refine ⟨by rw [sizeLine_eq]; simp, fun t ht => ?_⟩
        have s8 := same_upd (o := .tup [.str w, .ref b]) ht
        have e8 : (upd H7 t (.tup [.str w, .ref b])) t = some (.tup [.str w, .ref b]) := upd_same
        generalize upd H7 t (.tup [.str w, .ref b]) = H8 at s8 e8 ⊢
        have s58 := s6.trans (s7.trans s8)
        refine k _ _ (.node (.many w) []) ns4 (x5.trans (Same.x s58)) (s58 _ _ h5) (at_mny (SqT.of e8) (SqT.of (s8 _ _ e7)) (aL.mono (Same.tup s58)) (by rcases hw2 with rfl | rfl; exact .inl rfl; exact .inr rfl) hk8) ⟨_, _, rfl, e8⟩ ?_ (sg_node (by intro _ h; cases h) (fun k hk => by cases hk))
        rw [post_len]
        omega
      case w21 =>
        refine ⟨by rw [sizeLine_eq]; simp, fun L hL => ?_⟩
        have s6 := same_upd (o := .lst [.str "and", .str "or"]) hL
        have e6 : (upd H4 L (.lst [.str "and", .str "or"])) L = some (.lst [.str "and", .str "or"]) := upd_same
        generalize upd H4 L (.lst [.str "and", .str "or"]) = H6 at s6 e6 ⊢
        obtain ⟨w, hw1, hw2⟩ := at_two (a := "and") (b := "or") (i := m % 16 - 14) (by omega) (by omega)
        refine ⟨_, rfl, _, _, rfl, rfl, L, _, _, .str w, rfl, rfl, SqL.of e6, hw1, _, rfl, F, us, rfl, .inl ⟨SqL.of (s6 _ _ hF4), fun b hb => ?_⟩⟩
        have s7 := same_upd (o := .tup us) hb
        have e7 : (upd H6 b (.tup us)) b = some (.tup us) := upd_same
        generalize upd H6 b (.tup us) = H7 at s7 e7 ⊢
        refine ⟨by rw [sizeLine_eq]; simp, fun t ht => ?_⟩
        have s8 := same_upd (o := .tup [.str w, .ref b]) ht
        have e8 : (upd H7 t (.tup [.str w, .ref b])) t = some (.tup [.str w, .ref b]) := upd_same
        generalize upd H7 t (.tup [.str w, .ref b]) = H8 at s8 e8 ⊢
        have s58 := s6.trans (s7.trans s8)
        refine k _ _ (.node (.many w) ks) ns4 (x4.trans (Same.x s58)) (s58 _ _ h4) (at_mny (SqT.of e8) (SqT.of (s8 _ _ e7)) (aL4.mono (Same.tup s58)) (by rcases hw2 with rfl | rfl; exact .inl rfl; exact .inr rfl) (by omega)) ⟨_, _, rfl, e8⟩ ?_ (sg_node (by intro _ h; cases h) gks)
        rw [post_len]
        omega
end KK

set_option Elab.async false
set_option linter.all false
set_option maxRecDepth 100000
set_option maxHeartbeats 8000000
namespace KK
open PySem PySem.Spec L2 L3
theorem comp_sel {J : It} {D : Addr} {xs : List V} {tt : TT} {te : TE} {τ : L3.St} {H0 : Hp} {Q : VK} (hD : H0 D = none) (hz : xs.length ≤ sizeLine) (p : V → Bool)
    (hgo : ∀ (i : Nat) H, i < xs.length → Same H0 H → J.go i H) (hst : ∀ H, Same H0 H → J.stop xs.length H) (hy : ∀ (i : Nat) H x H2, Same H0 H → J.yld i H x H2 → H2 = H ∧ xs[i]? = some x)
    (step : ∀ (i : Nat) x H (N : Bool → Hp → Prop), xs[i]? = some x → Same H0 H → N (p x) H → tt (some x :: τ) H N) (elt : ∀ x H (N : V → Hp → Prop), N x H → te (some x :: τ) H N)
    (fin : ∀ H', H' D = some (.lst (xs.filter p)) → Same H0 H' → Q (.ref D) H') : CompW J D (gName 0) tt te (none :: τ) H0 Q := by
  have hlen : ∀ i, ((xs.take i).filter p).length ≤ i := fun i => Nat.le_trans (List.length_filter_le ..) (by rw [List.length_take]; omega)
  refine comp_gen (n := xs.length) (fun i σ H => ∃ z, σ = z :: τ ∧ H D = some (.lst ((xs.take i).filter p)) ∧ Same H0 H) ?_ ?_ ?_ ?_ ?_
  · exact ⟨none, rfl, by rw [upd_same]; rfl, same_upd hD⟩
  · rintro i σ H hi ⟨z, rfl, _, s⟩
    exact hgo i H hi s
  · rintro σ H ⟨z, rfl, _, s⟩
    exact hst H s
  · rintro i x σ H H2 hi ⟨z, rfl, hd, s⟩ hyl N N0 hN hN0
    obtain ⟨rfl, hx⟩ := hy i H x H2 s hyl
    have et : xs.take (i + 1) = xs.take i ++ [x] := by
      rw [List.take_add_one, hx]
      rfl
    show tt (some x :: τ) H2 _
    refine step i x H2 _ hx s ?_
    cases hp : p x with
    | true =>
      rw [if_pos rfl]
      refine elt x H2 _ (hN x _ H2 _ hd (by have := hlen i; omega) ⟨some x, rfl, ?_, (SameX.upd (Same.x s)).same hD⟩)
      rw [upd_same, et, List.filter_append]
      simp [hp]
    | false =>
      rw [if_neg Bool.false_ne_true]
      refine hN0 _ H2 ⟨some x, rfl, ?_, s⟩
      rw [hd, et, List.filter_append]
      simp [hp]
  · rintro σ H ⟨z, rfl, hd, s⟩
    rw [List.take_length] at hd
    exact fin H hd s
def BiAt (K : PySem.W.Frag) (n : Nat) (H : Hp) (u : V) : BI → Prop
  | .w s => u = .str s
  | .t t => (∃ a xs, u = .ref a ∧ H a = some (.tup xs)) ∧ At K n H u t
theorem BiAt.mono {K : PySem.W.Frag} {n : Nat} {H H' : Hp} {u : V} {x : BI} (s : SameT H H') (s2 : ∀ a xs, H a = some (.tup xs) → H' a = some (.tup xs)) (h : BiAt K n H u x) : BiAt K n H' u x := by
  cases x with
  | w z => exact h
  | t t => obtain ⟨⟨a, xs, e, q⟩, h2⟩ := h; exact ⟨⟨a, xs, e, s2 _ _ q⟩, h2.mono s⟩
def BisAt (K : PySem.W.Frag) (n : Nat) (H : Hp) (us : List V) (xs : List BI) : Prop := us.length = xs.length ∧ ∀ (i : Nat) u x, us[i]? = some u → xs[i]? = some x → BiAt K n H u x
def biW : BI → Str
  | .w s => s
  | .t _ => Str.empty
def isTupV : V → Bool
  | .ref _ => true
  | _ => false
theorem bis_cons {K : PySem.W.Frag} {n : Nat} {H : Hp} {us : List V} {x : BI} {xs : List BI} (h : BisAt K n H us (x :: xs)) : ∃ u r, us = u :: r ∧ BiAt K n H u x ∧ BisAt K n H r xs := by
  obtain ⟨hl, hq⟩ := h
  cases us with
  | nil => simp at hl
  | cons u r => exact ⟨u, r, rfl, hq 0 u x rfl rfl, by simpa using hl, fun i v y h1 h2 => hq (i + 1) v y h1 h2⟩
theorem bis_nil {K : PySem.W.Frag} {n : Nat} {H : Hp} {us : List V} (h : BisAt K n H us []) : us = [] := List.length_eq_zero_iff.mp h.1
theorem bis_trees {K : PySem.W.Frag} {n : Nat} {H : Hp} : ∀ {ks : List Tr} {us : List V}, BisAt K n H us (ks.map .t) → AtL K n H us ks ∧ us.filter isTupV = us
  | [], us, h => by rw [bis_nil h]; exact ⟨AtL.nil, rfl⟩
  | t :: r, us, h => by
    obtain ⟨u, v, rfl, ⟨⟨a, xs, rfl, _⟩, ha⟩, hr⟩ := bis_cons h
    obtain ⟨q1, q2⟩ := bis_trees hr
    refine ⟨AtL.app (AtL.one ha) q1, ?_⟩
    rw [List.filter_cons_of_pos (by rfl), q2]
theorem eqvAll_strs : ∀ a b : List Str, PyData.eqvAll (a.map PyData.str) (b.map PyData.str) = decide (a = b)
  | [], [] => by simp [PyData.eqvAll]
  | [], y :: b => by simp [PyData.eqvAll]
  | x :: a, [] => by simp [PyData.eqvAll]
  | x :: a, y :: b => by
    rw [List.map_cons, List.map_cons, PyData.eqvAll, eqvAll_strs a b]
    by_cases h1 : x = y
    · by_cases h2 : a = b <;> simp [PyData.eqv, h1, h2]
    · simp [PyData.eqv, h1]
/-- lists of texts, compared -/
theorem eqS {K : PySem.W.Frag} {H : Hp} {p q : Addr} {a b : List Str} {Q : VK} (ha : ∀ s ∈ a, PyData.strOk s = true) (hb : ∀ s ∈ b, PyData.strOk s = true) (h1 : H p = some (.lst (a.map V.str))) (h2 : H q = some (.lst (b.map V.str))) (k : Q (.bl (decide (a = b))) H) : rEqD K false (.ref p) (.ref q) H Q := by
  have fa : Fine 1 (dS a) := fineL fun x hx => ⟨by simp [PyData.canLay0, ha x hx], by simp [PyData.depth]⟩
  have fb : Fine 1 (dS b) := fineL fun x hx => ⟨by simp [PyData.canLay0, hb x hx], by simp [PyData.depth]⟩
  refine ⟨dS a, dS b, LS.dp ⟨p, rfl, h1⟩, LS.dp ⟨q, rfl, h2⟩, fa.1, fb.1, Nat.le_trans fa.2 (by decide), ?_⟩
  have e : PyData.eqv (dS a) (dS b) = decide (a = b) := by
    rw [dS, dS, PyData.eqv]
    exact eqvAll_strs a b
  rw [e]
  exact k
theorem bes_str : ∀ s ∈ (("" : Str) :: "within" :: BES), PyData.strOk s = true := by decide +kernel
theorem brk_inv {xs : List BI} {t : Tr} (h : Brk xs t) : (∃ (w : Str) (ks : List Tr), (w = "and" ∨ w = "or") ∧ xs = .w w :: ks.map BI.t) ∨ (∃ (w : Str) (a b : Tr), w ∈ W2 ∧ xs = [.t a, .w w, .t b]) ∨ (∃ (m : Int) (a b : Tr), (0 ≤ m ∧ m ≤ 5) ∧ xs = [.t a, .w "within", .w (strI m), .t b]) := by
  cases h with
  | many hw ks hk => exact .inl ⟨_, ks, hw, rfl⟩
  | two hw a b => exact .inr (.inl ⟨_, a, b, hw, rfl⟩)
  | wit hm a b => exact .inr (.inr ⟨_, a, b, hm, rfl⟩)
theorem biW_nil {x : BI} (ok : okBI x) (h : biW x = "") : ∃ t, x = .t t := by
  cases x with
  | t t => exact ⟨t, rfl⟩
  | w s => exact absurd h (bes_no s ok).2.2.2.2
theorem biW_in {x : BI} (h : biW x ≠ "") : ∃ s, x = .w s ∧ biW x = s := by
  cases x with
  | t t => exact absurd rfl h
  | w s => exact ⟨s, rfl, rfl⟩
theorem biW_ok {x : BI} (ok : okBI x) : biW x ∈ (("" : Str) :: "within" :: BES) := by
  cases x with
  | t t => exact List.mem_cons_self
  | w s => exact List.mem_cons_of_mem _ (List.mem_cons_of_mem _ ok)
theorem all_trees {K : PySem.W.Frag} {n : Nat} {H : Hp} : ∀ {xs : List BI} {us : List V}, BisAt K n H us xs → (us.filter isTupV).length ≤ us.length ∧ ((us.filter isTupV).length = xs.length → ∃ ks : List Tr, xs = ks.map BI.t)
  | [], us, h => by rw [bis_nil h]; exact ⟨Nat.le_refl _, fun _ => ⟨[], rfl⟩⟩
  | x :: xs, us, h => by
    obtain ⟨u, r, rfl, hu, hr⟩ := bis_cons h
    obtain ⟨q1, q2⟩ := all_trees hr
    have hl := hr.1
    cases x with
    | w s =>
      have e : u = .str s := hu
      subst e
      rw [List.filter_cons_of_neg (by intro z; cases z)]
      exact ⟨by simp; omega, fun e => by simp at e; omega⟩
    | t t =>
      obtain ⟨⟨ad, ws, rfl, _⟩, _⟩ := hu
      rw [List.filter_cons_of_pos (by rfl)]
      refine ⟨by simp; omega, fun e => ?_⟩
      obtain ⟨ks, e2⟩ := q2 (by simpa using e)
      exact ⟨t :: ks, by rw [e2]; rfl⟩
theorem len3 {α : Type} : ∀ {l : List α}, l.length = 3 → ∃ x y z, l = [x, y, z]
  | [x, y, z], _ => ⟨x, y, z, rfl⟩
theorem len4 {α : Type} : ∀ {l : List α}, l.length = 4 → ∃ x y z u, l = [x, y, z, u]
  | [x, y, z, u], _ => ⟨x, y, z, u, rfl⟩
theorem dig_in : ∀ s ∈ (["0", "1", "2", "3", "4", "5"] : List Str), ∃ m ∈ ([0, 1, 2, 3, 4, 5] : List Int), s = strI m := by decide +kernel
def sp_no_bracketed (K : PySem.W.Frag) (a : Adr) : Sp := fun vs H Q E => ∃ (b : Addr) (us : List V) (xs : List BI) (n : Nat), vs = [.ref b] ∧ H b = some (.lst us) ∧ BisAt K n H us xs ∧ xs.length ≤ 390 ∧ (∀ x ∈ xs, okBI x) ∧
  (∀ t, Brk xs t → ∀ H' v, Same H H' → At K (n + 1) H' v t → (∃ a xs, v = .ref a ∧ H' a = some (.tup xs)) → Q v H') ∧ ((∀ t, ¬ Brk xs t) → ∀ H' e, Same H H' → E (.ref e) (some a.C_NoText) H')
theorem no_bracketed {P : Program} {w : World} {K : PySem.W.Frag} {mg : Str → Option Value} {base : Heap} {a : Adr} (T : Txt K mg a) (hw : w.params = a.Pm) : FnOk P w K mg base (CXe P w) 1 a.bracketed a.bracketed_fd ["inner"] (sp_no_bracketed K a) := by
  refine fun_okX T.f_bracketed sc_bracketed (fun vs H Q E h => ?_) (fun cdv A outer s H vs Q E hr h => ?_)
  · obtain ⟨b, us, xs, n, rfl, _⟩ := h
    rfl
  · obtain ⟨b, us, xs, n, rfl, hb, hbi, hxl, okx, k, kx⟩ := h
    refine ⟨_, (@pss_cons _ _ _ _ _ (ps_setComp (i := 1) sc_bracketed.nd rfl rfl (Nc := ["one"]) (ix := [none]) (CompOk.of (by decide +kernel : compChk (defScope s_bracketed) ["inner", "words", "sentences"] ["one"] [none] _ = true)) rfl (pi_listK (K := K) rfl (pv 0)) (fun _ _ _ _ _ => (pg_name (i := 0) (show List.Nodup (["one"] : List Str) by decide +kernel) rfl (by first | exact Or.inl rfl | exact Or.inr rfl))) (fun _ _ _ _ _ => pts_nil) (fun _ _ _ _ _ => (pe_ifExp (pt_val (pe_callB (call_isiK (K := K) rfl "str") rfl T.b_isinstance PyProof.Rows.Boot.«isinstance» (@pa_cons _ _ _ _ _ (pv 0)
      (@pa_cons _ _ _ _ _ (pe_bltn (v := .ty "str") rfl T.b_str PyProof.Rows.Boot.«str» rfl)
      pa_nil
      (by rfl))
      (by rfl)))) (pv 0) pe_str)))
      (@pss_cons _ _ _ _ _ (@ps_set _ _ (2) _ _ _ _ sc_bracketed.nd
      rfl
      (by first | exact Or.inl rfl | exact Or.inr rfl)
      (pe_callTy (call_tupleK (K := K) rfl) rfl T.b_tuple PyProof.Rows.Boot.«tuple» (@pa_cons _ _ _ _ _ (pe_comp (Nc := ["one"]) (ix := [none]) (CompOk.of (by decide +kernel : compChk (defScope s_bracketed) ["inner", "words", "sentences"] ["one"] [none] _ = true)) rfl (pi_listK (K := K) rfl (pv 0)) (fun _ _ _ _ _ => (pg_name (i := 0) (show List.Nodup (["one"] : List Str) by decide +kernel) rfl (by first | exact Or.inl rfl | exact Or.inr rfl))) (fun _ _ _ _ _ => (pts_one (pt_val (pe_callB (call_isiK (K := K) rfl "tuple") rfl T.b_isinstance PyProof.Rows.Boot.«isinstance» (@pa_cons _ _ _ _ _ (pv 0)
      (@pa_cons _ _ _ _ _ (pe_bltn (v := .ty "tuple") rfl T.b_tuple PyProof.Rows.Boot.«tuple» rfl)
      pa_nil
      (by rfl))
      (by rfl)))))) (fun _ _ _ _ _ => (pv 0)))
      pa_nil
      (by rfl)))
      (by rfl)
      (by first | exact .inl rfl | exact .inr rfl | assumption))
      (pss_join (@ps_if _ _ _ _ _ _ _ _ (PW.pt (pw_and (pt_truthK (K := K) rfl (pv 1) (fun _ => rfl)) (pw_and (@pt_cmpR _ _ _ _ _ _ _ _ (op_inK (K := K) rfl)
      (@pe_ix _ _ _ _ _ _ _ (ix_listK (K := K) rfl)
      (pv 1)
      pe_int
      (fun _ _ => rfl))
      (pe_gc (v := .ref a.Y_JOINS) rfl ⟨_, T.g_JOINS, rfl⟩)
      (by with_unfolding_all rfl)) (pw_and1 (@pt_cmpR _ _ _ _ _ _ _ _ op_eq
      (pe_callB (call_lenK (K := K) rfl) rfl T.b_len PyProof.Rows.Boot.«len» (@pa_cons _ _ _ _ _ (pv 2)
      pa_nil
      (by rfl)))
      (@pe_op _ _ _ _ _ _ _ _ op_sub
      (pe_callB (call_lenK (K := K) rfl) rfl T.b_len PyProof.Rows.Boot.«len» (@pa_cons _ _ _ _ _ (pv 1)
      pa_nil
      (by rfl)))
      pe_int)
      (nomark _))))))
      (@pss_one _ _ _ (@ps_ret _ _ _ _ (@pe_tup _ _ _ _ _ (@pa_cons _ _ _ _ _ (@pe_ix _ _ _ _ _ _ _ (ix_listK (K := K) rfl)
      (pv 1)
      pe_int
      (fun _ _ => rfl))
      (@pa_cons _ _ _ _ _ (pv 2)
      pa_nil
      (by rfl))
      (by rfl)))))
      pss_nil)
          (pss_join (@ps_if _ _ _ _ _ _ _ _ (PW.pt (pw_and (@pt_cmpR _ _ _ _ _ _ _ _ op_eq
      (pe_callB (call_lenK (K := K) rfl) rfl T.b_len PyProof.Rows.Boot.«len» (@pa_cons _ _ _ _ _ (pv 1)
      pa_nil
      (by rfl)))
      pe_int
      (nomark _)) (pw_and (@pt_cmpR _ _ _ _ _ _ _ _ (op_eqDK (K := K) rfl (Room.units hr))
      (pv 1)
      (@pe_lst _ _ _ _ (@pa_c _ _ _ _ _ pe_str
      (@pa_c _ _ _ _ _ (@pe_ix _ _ _ _ _ _ _ (ix_listK (K := K) rfl)
      (pv 1)
      pe_int
      (fun _ _ => rfl))
      (@pa_c _ _ _ _ _ pe_str
      pa_nil
      (by rfl))
      (by rfl))
      (by rfl)))
      (nomark _)) (pw_and1 (@pt_cmpR _ _ _ _ _ _ _ _ (op_inK (K := K) rfl)
      (@pe_ix _ _ _ _ _ _ _ (ix_listK (K := K) rfl)
      (pv 1)
      pe_int
      (fun _ _ => rfl))
      (pe_gc (v := .ref a.Y_BETWEEN) rfl ⟨_, T.g_BETWEEN, rfl⟩)
      (by with_unfolding_all rfl))))))
      (@pss_one _ _ _ (@ps_ret _ _ _ _ (@pe_op _ _ _ _ _ _ _ _ (op_catTK (K := K) rfl)
      (@pe_tup _ _ _ _ _ (@pa_cons _ _ _ _ _ (@pe_ix _ _ _ _ _ _ _ (ix_listK (K := K) rfl)
      (pv 1)
      pe_int
      (fun _ _ => rfl))
      pa_nil
      (by rfl)))
      (pv 2))))
      pss_nil)
          (pss_join (@ps_if _ _ _ _ _ _ _ _ (PW.pt (pw_and (@pt_cmpR _ _ _ _ _ _ _ _ op_eq
      (pe_callB (call_lenK (K := K) rfl) rfl T.b_len PyProof.Rows.Boot.«len» (@pa_cons _ _ _ _ _ (pv 1)
      pa_nil
      (by rfl)))
      pe_int
      (nomark _)) (pw_and (@pt_cmpR _ _ _ _ _ _ _ _ (op_eqDK (K := K) rfl (Room.units hr))
      (pv 1)
      (@pe_lst _ _ _ _ (@pa_c _ _ _ _ _ pe_str
      (@pa_c _ _ _ _ _ pe_str
      (@pa_c _ _ _ _ _ (@pe_ix _ _ _ _ _ _ _ (ix_listK (K := K) rfl)
      (pv 1)
      pe_int
      (fun _ _ => rfl))
      (@pa_c _ _ _ _ _ pe_str
      pa_nil
      (by rfl))
      (by rfl))
      (by rfl))
      (by rfl)))
      (nomark _)) (pw_and1 (@pt_cmpR _ _ _ _ _ _ _ _ (op_inK (K := K) rfl)
      (@pe_ix _ _ _ _ _ _ _ (ix_listK (K := K) rfl)
      (pv 1)
      pe_int
      (fun _ _ => rfl))
      (pe_gc (v := .ref a.Y_TURNS) rfl ⟨_, T.g_TURNS, rfl⟩)
      (by with_unfolding_all rfl))))))
      (@pss_one _ _ _ (@ps_ret _ _ _ _ (@pe_op _ _ _ _ _ _ _ _ (op_catTK (K := K) rfl)
      (@pe_tup _ _ _ _ _ (@pa_cons _ _ _ _ _ pe_str
      (@pa_cons _ _ _ _ _ (pe_callTy (call_int_txt) rfl T.b_int PyProof.Rows.Boot.«int» (@pa_cons _ _ _ _ _ (@pe_ix _ _ _ _ _ _ _ (ix_listK (K := K) rfl)
      (pv 1)
      pe_int
      (fun _ _ => rfl))
      pa_nil
      (by rfl)))
      pa_nil
      (by rfl))
      (by rfl)))
      (pv 2))))
      pss_nil)
          (@pss_one _ _ _ (ps_raise raises_cx rfl rfl T.g_NoText T.x_NoText PySem.F.excBase_ValueError (@pa_cons _ _ _ _ _ pe_str
      pa_nil
      (by rfl))))))))), ?_⟩
    have hul := hbi.1
    refine ⟨_, rfl, b, rfl, ⟨_, SqL.of hb⟩, fun D1 hD1 => ?_⟩
    have tyS : ∀ z : Str, PySem.W.kitOne K (.type "str") (.type "str") = some true := fun _ => rfl
    refine comp_map (K := K) hD1 (SqL.of hb) (by rw [hul, sizeLine_eq]; omega) (fun i v _ => ∃ x, xs[i]? = some x ∧ v = .str (biW x)) (fun i v H1 H2 _ h => h) (fun i u H1 N hu s1 hN => ?_) (fun H2 ys hys s2 hyl hyr => ?_)
    · have hi : i < us.length := (List.getElem?_eq_some_iff.mp hu).1
      have hx : xs[i]? = some (xs[i]'(by omega)) := List.getElem?_eq_getElem (by omega)
      have hb1 := (hbi.2 i u _ hu hx)
      generalize xs[i]'(by omega) = x at hx hb1
      cases x with
      | w z =>
        cases hb1
        refine ⟨_, rfl, _, .type "str", _, rfl, .str _, rfl, _, rfl, iteT ⟨_, rfl, hN _ _ (.refl _) ⟨_, hx, rfl⟩⟩⟩
      | t t1 =>
        obtain ⟨⟨ad, ws, rfl, had⟩, _⟩ := hb1
        refine ⟨_, rfl, _, .type "tuple", _, rfl, .tup (s1 _ _ had), rfl, _, rfl, iteF (hN _ _ (.refl _) ⟨_, hx, rfl⟩)⟩
    have eys : ys = (xs.map biW).map V.str := by
      apply List.ext_getElem?
      intro i
      cases e : ys[i]? with
      | none =>
        rw [List.getElem?_eq_none_iff] at e
        rw [eq_comm, List.getElem?_eq_none_iff, List.length_map, List.length_map]
        omega
      | some v =>
        obtain ⟨x, hx, rfl⟩ := hyr i v e
        rw [List.getElem?_map, List.getElem?_map, hx]
        rfl
    subst eys
    clear hyr hyl
    have hb2 := s2 _ _ hb
    refine ⟨_, rfl, b, rfl, ⟨_, SqL.of hb2⟩, fun D2 hD2 => ?_⟩
    refine comp_sel hD2 (xs := us) (by rw [hul, sizeLine_eq]; omega) isTupV (fun i H3 hi s3 => ⟨us, us[i], s3.seq (SqL.of hb2), List.getElem?_eq_getElem hi⟩) (fun H3 s3 => ⟨us, s3.seq (SqL.of hb2), Nat.le_refl _⟩) (fun i H3 x H4 s3 hy => ⟨hy.1, hy.2 us (s3.seq (SqL.of hb2))⟩) (fun i u H3 N hu s3 hN => ?_) (fun x H3 N hN => ⟨_, rfl, hN⟩) (fun H3 hD3 s3 => ?_)
    · have hi : i < us.length := (List.getElem?_eq_some_iff.mp hu).1
      have hx : xs[i]? = some (xs[i]'(by omega)) := List.getElem?_eq_getElem (by omega)
      have hb1 := (hbi.2 i u _ hu hx)
      generalize xs[i]'(by omega) = x at hx hb1
      cases x with
      | w z =>
        cases hb1
        exact ⟨_, rfl, _, .type "str", _, rfl, .str _, rfl, _, rfl, hN⟩
      | t t1 =>
        obtain ⟨⟨ad, ws, rfl, had⟩, _⟩ := hb1
        exact ⟨_, rfl, _, .type "tuple", _, rfl, .tup (s3 _ _ (s2 _ _ had)), rfl, _, rfl, hN⟩
    have hb3 := s3 _ _ hb2
    have hw3 := s3 _ _ hys
    have st : SameT H H3 := (Same.tup s2).trans (Same.tup s3)
    refine ⟨D2, us.filter isTupV, rfl, .inl ⟨SqL.of hD3, fun tp htp => ?_⟩⟩
    have s4 := same_upd (o := .tup (us.filter isTupV)) htp
    have e4 : (upd H3 tp (.tup (us.filter isTupV))) tp = some (.tup (us.filter isTupV)) := upd_same
    generalize upd H3 tp (.tup (us.filter isTupV)) = H4 at s4 e4 ⊢
    have hw4 := s4 _ _ hw3
    have s04 := (s2.trans s3).trans s4
    refine ⟨fun σ' H' => σ' = [some (.ref b), some (.ref D1), some (.ref tp)] ∧ H' = H4 ∧ ∀ (w : Str) (ks : List Tr), (w = "and" ∨ w = "or") → xs ≠ .w w :: ks.map BI.t, ?_, ?_⟩
    · cases xs with
      | nil => exact ⟨_, rfl, false, .inl ⟨_, SqL.of hw4, rfl⟩, iteF ⟨rfl, rfl, fun w ks _ z => by cases z⟩⟩
      | cons x0 r =>
        obtain ⟨u0, ur, rfl, hu0, hr0⟩ := bis_cons hbi
        refine ⟨_, rfl, true, .inl ⟨_, SqL.of hw4, rfl⟩, iteT ⟨_, rfl, D1, _, _, .str (biW x0), rfl, rfl, SqL.of hw4, atI_nat (j := 0) rfl, a.Y_JOINS, _, rfl, .inr (T.y_JOINS _), rfl, rfl, _, rfl, ?_⟩⟩
        by_cases hj : biW x0 ∈ (["and", "or"] : List Str)
        · refine iteIn (ss := ["and", "or"]) hj ?_
          obtain ⟨wj, rfl, hwj⟩ := biW_in (x := x0) (fun z => (by decide +kernel : ∀ w ∈ (["and", "or"] : List Str), w ≠ "") _ hj z)
          have ej : u0 = .str wj := hu0
          subst ej
          rw [List.filter_cons_of_neg (by intro z; cases z)] at e4
          have hrl := hr0.1
          by_cases hall : (ur.filter isTupV).length = r.length
          · obtain ⟨ks, rfl⟩ := (all_trees hr0).2 hall
            obtain ⟨aL, hf⟩ := bis_trees hr0
            rw [hf] at e4
            have hks : ur.length = ks.length := aL.1
            have hw : wj = "and" ∨ wj = "or" := by simpa [biW] using hj
            refine ⟨_, rfl, .inl ⟨tp, _, rfl, .inr (SqT.of e4), _, rfl, .inl ⟨D1, _, rfl, .inl (SqL.of hw4), _, _, rfl, rfl, rfl, _, rfl, iteD ?_ ?_⟩⟩⟩
            · have : (List.map V.str (List.map biW (BI.w wj :: List.map BI.t ks))).length = ur.length + 1 := by simp [hks]
              rw [this]
              exact congrArg V.int (by push_cast; omega)
            refine ⟨_, rfl, D1, _, _, .str wj, rfl, rfl, SqL.of hw4, atI_nat (j := 0) rfl, _, rfl, by rw [sizeLine_eq]; simp, fun t ht => ?_⟩
            have s5 := same_upd (o := .tup [.str wj, .ref tp]) ht
            have hkl : ks.length ≤ 400 := by simp at hxl; omega
            exact k _ (.many hw ks hkl) _ _ (s04.trans s5) (at_mny (SqT.of upd_same) (SqT.of (s5 _ _ e4)) (aL.mono (st.trans ((Same.tup s4).trans (Same.tup s5)))) hw hkl) ⟨_, _, rfl, upd_same⟩
          · refine ⟨_, rfl, .inl ⟨tp, _, rfl, .inr (SqT.of e4), _, rfl, .inl ⟨D1, _, rfl, .inl (SqL.of hw4), _, _, rfl, rfl, rfl, _, rfl, iteN (fun z => hall ?_) ⟨rfl, rfl, fun w ks hw z => hall ?_⟩⟩⟩⟩
            · have z := V.int.inj z
              simp only [List.length_map, List.length_cons] at z
              push_cast at z
              omega
            · obtain ⟨_, rfl⟩ := List.cons.inj z
              rw [(bis_trees hr0).2]
              exact hrl
        · exact iteNin (ss := ["and", "or"]) hj ⟨rfl, rfl, fun w ks hw z => hj (by cases z; simpa [biW] using hw)⟩
    rintro _ _ ⟨rfl, eH, no1⟩
    subst eH
    rename_i H4
    refine ⟨fun σ' H' => σ' = [some (.ref b), some (.ref D1), some (.ref tp)] ∧ Same H4 H' ∧ ∀ (w : Str) (x y : Tr), w ∈ W2 → xs ≠ [.t x, .w w, .t y], ?_, ?_⟩
    · by_cases h3 : xs.length = 3
      · obtain ⟨x0, x1, x2, rfl⟩ := len3 h3
        refine ⟨_, rfl, .inl ⟨D1, _, rfl, .inl (SqL.of hw4), rfl, _, rfl, iteD rfl ?_⟩⟩
        refine ⟨_, rfl, _, rfl, D1, _, _, .str (biW x1), rfl, rfl, SqL.of hw4, atI_nat (j := 1) rfl, by rw [sizeLine_eq]; simp, fun L hL => ?_⟩
        have ok0 := biW_ok (okx x0 (by simp))
        have ok1 := biW_ok (okx x1 (by simp))
        have ok2 := biW_ok (okx x2 (by simp))
        refine eqS (a := [biW x0, biW x1, biW x2]) (b := [("" : Str), biW x1, ""]) (fun s hs => bes_str s ?_) (fun s hs => bes_str s ?_) (same_upd hL _ _ hw4) upd_same ⟨_, rfl, ?_⟩
        · simp only [List.mem_cons, List.not_mem_nil, or_false] at hs
          rcases hs with rfl | rfl | rfl
          · exact ok0
          · exact ok1
          · exact ok2
        · simp only [List.mem_cons, List.not_mem_nil, or_false] at hs
          rcases hs with rfl | rfl | rfl
          · exact List.mem_cons_self
          · exact ok1
          · exact List.mem_cons_self
        have s5 := same_upd (o := .lst [.str "", .str (biW x1), .str ""]) hL
        generalize upd H4 L (.lst [.str "", .str (biW x1), .str ""]) = H5 at s5 ⊢
        by_cases heq : ([biW x0, biW x1, biW x2] : List Str) = [("" : Str), biW x1, ""]
        · refine iteD heq ?_
          have hw5 := s5 _ _ hw4
          refine ⟨_, rfl, D1, _, _, .str (biW x1), rfl, rfl, SqL.of hw5, atI_nat (j := 1) rfl, a.Y_BETWEEN, _, rfl, .inr (T.y_BETWEEN _), rfl, rfl, _, rfl, ?_⟩
          by_cases hb2 : biW x1 ∈ W2
          · refine iteIn (ss := ["until", "since"]) hb2 ?_
            obtain ⟨ta, rfl⟩ := biW_nil (okx x0 (by simp)) (by simpa using congrArg (fun l : List Str => l.getD 0 "") heq)
            obtain ⟨tb, rfl⟩ := biW_nil (okx x2 (by simp)) (by simpa using congrArg (fun l : List Str => l.getD 2 "") heq)
            obtain ⟨w, rfl, hwx⟩ := biW_in (x := x1) (fun z => (by decide +kernel : ∀ w ∈ W2, w ≠ "") _ hb2 z)
            have hw : w ∈ W2 := hb2
            obtain ⟨u0, r0, rfl, ⟨⟨a0, w0, rfl, _⟩, at0⟩, hr0⟩ := bis_cons hbi
            obtain ⟨u1, r1, rfl, rfl, hr1⟩ := bis_cons hr0
            obtain ⟨u2, r2, rfl, ⟨⟨a2, w2, rfl, _⟩, at2⟩, hr2⟩ := bis_cons hr1
            cases bis_nil hr2
            have e5 : H5 tp = some (.tup [.ref a0, .ref a2]) := s5 _ _ e4
            refine ⟨_, rfl, D1, _, _, .str w, rfl, rfl, SqL.of hw5, atI_nat (j := 1) rfl, by rw [sizeLine_eq]; simp, fun t1 ht1 => ?_⟩
            have s6 := same_upd (o := .tup [.str w]) ht1
            have e6 : (upd H5 t1 (.tup [.str w])) t1 = some (.tup [.str w]) := upd_same
            generalize upd H5 t1 (.tup [.str w]) = H6 at s6 e6 ⊢
            refine ⟨_, rfl, t1, tp, _, _, rfl, rfl, SqT.of e6, SqT.of (s6 _ _ e5), by simp, by rw [sizeLine_eq]; simp, fun z => (by cases z), fun _ t ht => ?_⟩
            have s7 := same_upd (o := .tup ([.str w] ++ [.ref a0, .ref a2])) ht
            have sT : SameT H _ := st.trans (Same.tup (s4.trans (s5.trans (s6.trans s7))))
            exact k _ (.two hw ta tb) _ _ (s04.trans (s5.trans (s6.trans s7))) (at_op2 (SqT.of upd_same) hw (at0.mono sT) (at2.mono sT)) ⟨_, _, rfl, upd_same⟩
          · exact iteNin (ss := ["until", "since"]) hb2 ⟨rfl, s5, fun w x y hw z => hb2 (by cases z; exact hw)⟩
        · exact iteN heq ⟨rfl, s5, fun w x y hw z => heq (by cases z; rfl)⟩
      · refine ⟨_, rfl, .inl ⟨D1, _, rfl, .inl (SqL.of hw4), rfl, _, rfl, iteN (fun z => h3 ?_) ⟨rfl, .refl _, fun w x y hw z => h3 (by rw [z]; rfl)⟩⟩⟩
        have z := V.int.inj z
        simp only [List.length_map] at z
        omega
    rintro _ H5 ⟨rfl, s5, no2⟩
    have hw5 := s5 _ _ hw4
    refine ⟨fun σ' H' => Same H5 H' ∧ ∀ (m : Int) (x y : Tr), (0 ≤ m ∧ m ≤ 5) → xs ≠ [.t x, .w "within", .w (strI m), .t y], ?_, ?_⟩
    · by_cases h3 : xs.length = 4
      · obtain ⟨x0, x1, x2, x3, rfl⟩ := len4 h3
        refine ⟨_, rfl, .inl ⟨D1, _, rfl, .inl (SqL.of hw5), rfl, _, rfl, iteD rfl ?_⟩⟩
        refine ⟨_, rfl, _, rfl, D1, _, _, .str (biW x2), rfl, rfl, SqL.of hw5, atI_nat (j := 2) rfl, by rw [sizeLine_eq]; simp, fun L hL => ?_⟩
        have ok0 := biW_ok (okx x0 (by simp))
        have ok1 := biW_ok (okx x1 (by simp))
        have ok2 := biW_ok (okx x2 (by simp))
        have ok3 := biW_ok (okx x3 (by simp))
        refine eqS (a := [biW x0, biW x1, biW x2, biW x3]) (b := [("" : Str), "within", biW x2, ""]) (fun s hs => bes_str s ?_) (fun s hs => bes_str s ?_) (same_upd hL _ _ hw5) upd_same ⟨_, rfl, ?_⟩
        · simp only [List.mem_cons, List.not_mem_nil, or_false] at hs
          rcases hs with rfl | rfl | rfl | rfl
          · exact ok0
          · exact ok1
          · exact ok2
          · exact ok3
        · simp only [List.mem_cons, List.not_mem_nil, or_false] at hs
          rcases hs with rfl | rfl | rfl | rfl
          · exact List.mem_cons_self
          · exact List.mem_cons_of_mem _ List.mem_cons_self
          · exact ok2
          · exact List.mem_cons_self
        have s6 := same_upd (o := .lst [.str "", .str "within", .str (biW x2), .str ""]) hL
        generalize upd H5 L (.lst [.str "", .str "within", .str (biW x2), .str ""]) = H6 at s6 ⊢
        by_cases heq : ([biW x0, biW x1, biW x2, biW x3] : List Str) = [("" : Str), "within", biW x2, ""]
        · refine iteD heq ?_
          have hw6 := s6 _ _ hw5
          refine ⟨_, rfl, D1, _, _, .str (biW x2), rfl, rfl, SqL.of hw6, atI_nat (j := 2) rfl, a.Y_TURNS, _, rfl, .inr (T.y_TURNS _), rfl, rfl, _, rfl, ?_⟩
          by_cases hb2 : biW x2 ∈ (["0", "1", "2", "3", "4", "5"] : List Str)
          · refine iteIn (ss := ["0", "1", "2", "3", "4", "5"]) hb2 ?_
            obtain ⟨ta, rfl⟩ := biW_nil (okx x0 (by simp)) (by simpa using congrArg (fun l : List Str => l.getD 0 "") heq)
            obtain ⟨tb, rfl⟩ := biW_nil (okx x3 (by simp)) (by simpa using congrArg (fun l : List Str => l.getD 3 "") heq)
            have h1w : biW x1 = "within" := by simpa using congrArg (fun l : List Str => l.getD 1 "") heq
            obtain ⟨w1, rfl, hw1⟩ := biW_in (x := x1) (fun z => (by decide +kernel : ¬ (("within" : Str) = "")) (h1w.symm.trans z))
            have e1w : w1 = "within" := h1w
            subst e1w
            obtain ⟨w2, rfl, hw2⟩ := biW_in (x := x2) (fun z => (by decide +kernel : ∀ w ∈ (["0", "1", "2", "3", "4", "5"] : List Str), w ≠ "") _ hb2 z)
            obtain ⟨m, hmm, em⟩ := dig_in w2 hb2
            subst em
            have hm : 0 ≤ m ∧ m ≤ 5 := by
              simp only [List.mem_cons, List.not_mem_nil, or_false] at hmm
              omega
            obtain ⟨u0, r0, rfl, ⟨⟨a0, w0, rfl, _⟩, at0⟩, hr0⟩ := bis_cons hbi
            obtain ⟨u1, r1, rfl, rfl, hr1⟩ := bis_cons hr0
            obtain ⟨u2, r2, rfl, rfl, hr2⟩ := bis_cons hr1
            obtain ⟨u3, r3, rfl, ⟨⟨a2, w2, rfl, _⟩, at2⟩, hr3⟩ := bis_cons hr2
            cases bis_nil hr3
            have e6 : H6 tp = some (.tup [.ref a0, .ref a2]) := (s5.trans s6) _ _ e4
            have hin : intText? (strI m) = some m := by rcases (show m = 0 ∨ m = 1 ∨ m = 2 ∨ m = 3 ∨ m = 4 ∨ m = 5 by omega) with rfl | rfl | rfl | rfl | rfl | rfl <;> decide +kernel
            have hil : (strI m).length ≤ 640 := Nat.le_trans (num_okW hm).1 (by decide)
            refine ⟨_, rfl, D1, _, _, .str (strI m), rfl, rfl, SqL.of hw6, atI_nat (j := 2) rfl, strI m, m, rfl, hin, hil, by rw [sizeLine_eq]; simp, fun t1 ht1 => ?_⟩
            have s7 := same_upd (o := .tup [.str "within", .int m]) ht1
            have e7 : (upd H6 t1 (.tup [.str "within", .int m])) t1 = some (.tup [.str "within", .int m]) := upd_same
            generalize upd H6 t1 (.tup [.str "within", .int m]) = H7 at s7 e7 ⊢
            refine ⟨_, rfl, t1, tp, _, _, rfl, rfl, SqT.of e7, SqT.of (s7 _ _ e6), by simp, by rw [sizeLine_eq]; simp, fun z => (by cases z), fun _ t ht => ?_⟩
            have s8 := same_upd (o := .tup ([.str "within", .int m] ++ [.ref a0, .ref a2])) ht
            have sT : SameT H _ := st.trans (Same.tup (s4.trans (s5.trans (s6.trans (s7.trans s8)))))
            exact k _ (.wit hm ta tb) _ _ (s04.trans (s5.trans (s6.trans (s7.trans s8)))) (at_wit (SqT.of upd_same) hm (at0.mono sT) (at2.mono sT)) ⟨_, _, rfl, upd_same⟩
          · exact iteNin (ss := ["0", "1", "2", "3", "4", "5"]) hb2 ⟨s6, fun m x y hm z => hb2 (by cases z; rcases (show m = 0 ∨ m = 1 ∨ m = 2 ∨ m = 3 ∨ m = 4 ∨ m = 5 by omega) with rfl | rfl | rfl | rfl | rfl | rfl <;> decide +kernel)⟩
        · exact iteN heq ⟨s6, fun m x y hm z => heq (by cases z; rfl)⟩
      · refine ⟨_, rfl, .inl ⟨D1, _, rfl, .inl (SqL.of hw5), rfl, _, rfl, iteN (fun z => h3 ?_) ⟨.refl _, fun m x y hm z => h3 (by rw [z]; rfl)⟩⟩⟩
        have z := V.int.inj z
        simp only [List.length_map] at z
        omega
    rintro _ H6 ⟨s6, no3⟩
    refine ⟨by simp, fun e => kx (fun t hb => ?_) _ e (s04.trans (s5.trans s6))⟩
    rcases brk_inv hb with ⟨w, ks, h1, h2⟩ | ⟨w, x, y, h1, h2⟩ | ⟨m, x, y, h1, h2⟩
    · exact no1 w ks h1 h2
    · exact no2 w x y h1 h2
    · exact no3 m x y h1 h2
end KK

set_option Elab.async false
set_option linter.all false
set_option maxRecDepth 100000
set_option maxHeartbeats 8000000
namespace KK
open PySem PySem.Spec L2 L3
/-- what waits: vs and st from the top on, bs the lists of the brackets -/
inductive StAt (K : PySem.W.Frag) (n : Nat) (H : Hp) : List V → List WI → List Addr → Prop
  | nil : StAt K n H [] [] []
  | hd {s : Str} {vs : List V} {st : List WI} {bs : List Addr} (h : StAt K n H vs st bs) : StAt K n H (.str s :: vs) (.hd s :: st) bs
  | br {b : Addr} {us : List V} {xs : List BI} {vs : List V} {st : List WI} {bs : List Addr} (e : H b = some (.lst us)) (q : BisAt K n H us xs) (nb : b ∉ bs) (h : StAt K n H vs st bs) : StAt K n H (.ref b :: vs) (.br xs :: st) (b :: bs)
def SameS (S : List Addr) (H H' : Hp) : Prop := ∀ a o, a ∉ S → H a = some o → H' a = some o
def tups (H H' : Hp) : Prop := ∀ a xs, H a = some (.tup xs) → H' a = some (.tup xs)
theorem BisAt.mono {K : PySem.W.Frag} {n : Nat} {H H' : Hp} {us : List V} {xs : List BI} (s : SameT H H') (s2 : tups H H') (h : BisAt K n H us xs) : BisAt K n H' us xs := ⟨h.1, fun i u x h1 h2 => (h.2 i u x h1 h2).mono s s2⟩
theorem BisAt.le {K : PySem.W.Frag} {n m : Nat} {H : Hp} {us : List V} {xs : List BI} (h : BisAt K n H us xs) (hm : n ≤ m) : BisAt K m H us xs := ⟨h.1, fun i u x h1 h2 => by
  have q := h.2 i u x h1 h2
  cases x with
  | w z => exact q
  | t t => exact ⟨q.1, q.2.le hm⟩⟩
theorem StAt.mono {K : PySem.W.Frag} {n : Nat} {H H' : Hp} {vs : List V} {st : List WI} {bs : List Addr} (h : StAt K n H vs st bs) (s : SameT H H') (s2 : tups H H') (s3 : ∀ b ∈ bs, ∀ us, H b = some (.lst us) → H' b = some (.lst us)) : StAt K n H' vs st bs := by
  induction h with
  | nil => exact .nil
  | hd h ih => exact .hd (ih s3)
  | br e q nb h ih => exact .br (s3 _ (by simp) _ e) (q.mono s s2) nb (ih fun b hb => s3 b (by simp [hb]))
theorem StAt.le {K : PySem.W.Frag} {n m : Nat} {H : Hp} {vs : List V} {st : List WI} {bs : List Addr} (h : StAt K n H vs st bs) (hm : n ≤ m) : StAt K m H vs st bs := by
  induction h with
  | nil => exact .nil
  | hd h ih => exact .hd ih
  | br e q nb h ih => exact .br e (q.le hm) nb ih
def FoAt (K : PySem.W.Frag) (n : Nat) (H : Hp) (F : Addr) : Option Tr → Prop
  | none => H F = some (.lst [])
  | some t => ∃ u, H F = some (.lst [u]) ∧ At K n H u t
structure RdAt (K : PySem.W.Frag) (C : Addr) (n : Nat) (H : Hp) (r W F : Addr) (bs : List Addr) (st : List WI) (fo : Option Tr) : Prop where
  ob : ∃ dx, H r = some (.ins C dx [("waiting", .ref W), ("found", .ref F)])
  wt : ∃ vs, H W = some (.lst vs.reverse) ∧ StAt K n H vs st bs
  fd : FoAt K n H F fo
  wf : W ≠ F
  wb : W ∉ bs
  fb : F ∉ bs
theorem rput1 (v1 : V) : putF "waiting" v1 ([] : List (Str × V)) = ([("waiting", v1)] : List (Str × V)) := rfl
theorem rput2 (v1 v2 : V) : putF "found" v2 ([("waiting", v1)] : List (Str × V)) = ([("waiting", v1), ("found", v2)] : List (Str × V)) := by simp only [putF, if_neg (by decide +kernel : ¬ (("waiting" : Str) = "found"))]
theorem lkW {v1 v2 : V} : ([("waiting", v1), ("found", v2)] : List (Str × V)).lookup ("waiting" : Str) = some v1 := rfl
theorem lkF {v1 v2 : V} : ([("waiting", v1), ("found", v2)] : List (Str × V)).lookup ("found" : Str) = some v2 := by
  have e : (("found" : Str) == "waiting") = false := by decide +kernel
  rw [List.lookup_cons, e]
  rfl
def sp_Reader_init (K : PySem.W.Frag) (a : Adr) : Sp := fun vs H Q _ => ∃ r dx, vs = [.ref r] ∧ H r = some (.ins a.C_Reader dx []) ∧ ∀ H' W F, SameX r H H' → H W = none → H F = none → r ≠ W → r ≠ F → RdAt K a.C_Reader 0 H' r W F [] [] none → Q .non H'
theorem ok_Reader_init {P : Program} {w : World} {K : PySem.W.Frag} {mg : Str → Option Value} {base : Heap} {a : Adr} (T : Txt K mg a) (hw : w.params = a.Pm) : FnOk P w K mg base CX0 1 a.Reader_init a.Reader_init_fd ["self"] (sp_Reader_init K a) := by
  refine T.f_Reader_init.ok sc_Reader_init (fun vs H Q E h => ?_) (fun cdv A outer s H vs Q E hr h => ?_)
  · obtain ⟨r, dx, rfl, _⟩ := h
    rfl
  · obtain ⟨r, dx, rfl, hr0, k⟩ := h
    refine ⟨_, (@pss_cons _ _ _ _ _ (ps_fld (pv 0) (@pe_lst _ _ _ _ pa_nil) rfl)
      (@pss_one _ _ _ (ps_fld (pv 0) (@pe_lst _ _ _ _ pa_nil) rfl))), ?_⟩
    refine ⟨by decide, fun P hP => ⟨_, rfl, r, _, dx, [], rfl, same_upd hP _ _ hr0, T.cl_Reader, T.na_Reader_waiting, by decide, ?_⟩⟩
    have nP : P ≠ r := fun z => by rw [z, hr0] at hP; cases hP
    have s1 := same_upd (o := .lst []) hP
    have e1 : (upd H P (.lst [])) P = some (.lst []) := upd_same
    generalize upd H P (.lst []) = H1 at s1 e1 ⊢
    have x2 : SameX r H (upd H1 r (.ins a.C_Reader dx (putF "waiting" (.ref P) []))) := (Same.x s1).upd
    have hr2 : (upd H1 r (.ins a.C_Reader dx (putF "waiting" (.ref P) []))) r = some (.ins a.C_Reader dx [("waiting", .ref P)]) := by rw [upd_same, rput1]
    have e2 : (upd H1 r (.ins a.C_Reader dx (putF "waiting" (.ref P) []))) P = some (.lst []) := updK e1 nP
    generalize upd H1 r (.ins a.C_Reader dx (putF "waiting" (.ref P) [])) = H2 at x2 hr2 e2 ⊢
    refine ⟨by decide, fun R hR => ⟨_, rfl, r, _, dx, _, rfl, same_upd hR _ _ hr2, T.cl_Reader, T.na_Reader_found, by simp, ?_⟩⟩
    have nR : R ≠ r := fun z => by rw [z, hr2] at hR; cases hR
    have nRP : R ≠ P := fun z => by rw [z, e2] at hR; cases hR
    have s3 := same_upd (o := .lst []) hR
    have e3 : (upd H2 R (.lst [])) R = some (.lst []) := upd_same
    have e3P := s3 _ _ e2
    generalize upd H2 R (.lst []) = H3 at s3 e3 e3P ⊢
    exact k _ P R ((x2.trans (Same.x s3)).upd) hP (x2.free nR hR) (Ne.symm nP) (Ne.symm nR) ⟨⟨dx, by rw [upd_same, rput2]⟩, ⟨[], updK e3P nP, .nil⟩, updK e3 nR, Ne.symm nRP, by simp, by simp⟩
end KK

set_option Elab.async false
set_option linter.all false
set_option maxRecDepth 100000
set_option maxHeartbeats 8000000
namespace KK
open PySem PySem.Spec L2 L3
def sp_no_Reader_open_bracket (K : PySem.W.Frag) (a : Adr) : Sp := fun vs H Q E => ∃ r W F n bs st fo, vs = [.ref r] ∧ RdAt K a.C_Reader n H r W F bs st fo ∧ (∀ b bs' xs st', bs = b :: bs' → st = .br xs :: st' → Q (.ref b) H) ∧ ((∀ xs st', st ≠ .br xs :: st') → ∀ e, E (.ref e) (some a.C_NoText) H)
theorem no_Reader_open_bracket {P : Program} {w : World} {K : PySem.W.Frag} {mg : Str → Option Value} {base : Heap} {a : Adr} (T : Txt K mg a) (hw : w.params = a.Pm) : FnOk P w K mg base (CXe P w) 1 a.Reader_open_bracket a.Reader_open_bracket_fd ["self"] (sp_no_Reader_open_bracket K a) := by
  refine fun_okX T.f_Reader_open_bracket sc_Reader_open_bracket (fun vs H Q E h => ?_) (fun cdv A outer s H vs Q E hr h => ?_)
  · obtain ⟨r, W, F, n, bs, st, fo, rfl, _⟩ := h
    rfl
  · obtain ⟨r, W, F, n, bs, st, fo, rfl, rd, k, kx⟩ := h
    refine ⟨_, (@pss_cons _ _ _ _ _ (@ps_if _ _ _ _ _ _ _ _ (PW.pt (pw_or (@pt_not _ _ _ _ (pt_truthK (K := K) rfl (pe_fldK (K := K) rfl (pv 0) rfl) (fun _ => rfl))) (pw_or1 (@pt_not _ _ _ _ (pt_val (pe_callB (call_isiK (K := K) rfl "list") rfl T.b_isinstance PyProof.Rows.Boot.«isinstance» (@pa_cons _ _ _ _ _ (@pe_ix _ _ _ _ _ _ _ (ix_listK (K := K) rfl)
      (pe_fldK (K := K) rfl (pv 0) rfl)
      (pe_un un_neg pe_int)
      (fun _ _ => rfl))
      (@pa_cons _ _ _ _ _ (pe_bltn (v := .ty "list") rfl T.b_list PyProof.Rows.Boot.«list» rfl)
      pa_nil
      (by rfl))
      (by rfl))))))))
      (@pss_one _ _ _ (ps_raise raises_cx rfl rfl T.g_NoText T.x_NoText PySem.F.excBase_ValueError (@pa_cons _ _ _ _ _ pe_str
      pa_nil
      (by rfl))))
      pss_nil)
      (@pss_one _ _ _ (@ps_ret _ _ _ _ (@pe_ix _ _ _ _ _ _ _ (ix_listK (K := K) rfl)
      (pe_fldK (K := K) rfl (pv 0) rfl)
      (pe_un un_neg pe_int)
      (fun _ _ => rfl))))), ?_⟩
    obtain ⟨⟨dx, ho⟩, ⟨vs, hW, hst⟩, hfo, wf, wb, fb⟩ := id rd
    cases hst with
    | nil => exact ⟨_, rfl, r, _, dx, _, _, rfl, ho, T.cl_Reader, T.na_Reader_waiting, lkW, false, .inl ⟨_, SqL.of hW, rfl⟩, iteT ⟨by simp, fun e => kx (fun xs st' z => by cases z) e⟩⟩
    | hd h =>
      rename_i s vs st2
      rw [List.reverse_cons] at hW
      refine ⟨_, rfl, r, _, dx, _, _, rfl, ho, T.cl_Reader, T.na_Reader_waiting, lkW, true, .inl ⟨_, SqL.of hW, by simp⟩, iteF ?_⟩
      exact ⟨_, rfl, r, _, dx, _, _, rfl, ho, T.cl_Reader, T.na_Reader_waiting, lkW, _, rfl, W, _, _, .str s, rfl, rfl, SqL.of hW, L3.atI_last, _, .type "str", _, rfl, .str _, rfl, _, rfl, iteT ⟨by simp, fun e => kx (fun xs st' z => by cases z) e⟩⟩
    | br e q nb h =>
      rename_i b us xs vs st2 bs2
      rw [List.reverse_cons] at hW
      refine ⟨_, rfl, r, _, dx, _, _, rfl, ho, T.cl_Reader, T.na_Reader_waiting, lkW, true, .inl ⟨_, SqL.of hW, by simp⟩, iteF ?_⟩
      refine ⟨_, rfl, r, _, dx, _, _, rfl, ho, T.cl_Reader, T.na_Reader_waiting, lkW, _, rfl, W, _, _, .ref b, rfl, rfl, SqL.of hW, L3.atI_last, _, .type "list", _, rfl, .lst e, rfl, _, rfl, iteF ?_⟩
      exact ⟨_, rfl, r, _, dx, _, _, rfl, ho, T.cl_Reader, T.na_Reader_waiting, lkW, _, rfl, W, _, _, .ref b, rfl, rfl, SqL.of hW, L3.atI_last, k b bs2 xs st2 rfl rfl⟩
end KK

set_option Elab.async false
set_option linter.all false
set_option maxRecDepth 100000
set_option maxHeartbeats 8000000
namespace KK
open PySem PySem.Spec L2 L3
def sp_no_Reader_told (K : PySem.W.Frag) (a : Adr) : Sp := fun vs H Q E => ∃ r W F n bs st fo, vs = [.ref r] ∧ RdAt K a.C_Reader n H r W F bs st fo ∧ (∀ t, fo = some t → ∀ v, At K n H v t → Q v H) ∧ (fo = none → ∀ e, E (.ref e) (some a.C_NoText) H)
theorem no_Reader_told {P : Program} {w : World} {K : PySem.W.Frag} {mg : Str → Option Value} {base : Heap} {a : Adr} (T : Txt K mg a) (hw : w.params = a.Pm) : FnOk P w K mg base (CXe P w) 1 a.Reader_told a.Reader_told_fd ["self"] (sp_no_Reader_told K a) := by
  refine fun_okX T.f_Reader_told sc_Reader_told (fun vs H Q E h => ?_) (fun cdv A outer s H vs Q E hr h => ?_)
  · obtain ⟨r, W, F, n, bs, st, fo, rfl, _⟩ := h
    rfl
  · obtain ⟨r, W, F, n, bs, st, fo, rfl, rd, k, kx⟩ := h
    refine ⟨_, (@pss_cons _ _ _ _ _ (@ps_if _ _ _ _ _ _ _ _ (@pt_not _ _ _ _ (pt_truthK (K := K) rfl (pe_fldK (K := K) rfl (pv 0) rfl) (fun _ => rfl)))
      (@pss_one _ _ _ (ps_raise raises_cx rfl rfl T.g_NoText T.x_NoText PySem.F.excBase_ValueError (@pa_cons _ _ _ _ _ pe_str
      pa_nil
      (by rfl))))
      pss_nil)
      (@pss_one _ _ _ (@ps_ret _ _ _ _ (@pe_ix _ _ _ _ _ _ _ (ix_listK (K := K) rfl)
      (pe_fldK (K := K) rfl (pv 0) rfl)
      pe_int
      (fun _ _ => rfl))))), ?_⟩
    cases fo with
    | none =>
      obtain ⟨⟨dx, ho⟩, ⟨vs, hW, hst⟩, hF, wf, wb, fb⟩ := id rd
      have hF' : H F = some (.lst []) := hF
      exact ⟨_, rfl, r, _, dx, _, _, rfl, ho, T.cl_Reader, T.na_Reader_found, lkF, false, .inl ⟨_, SqL.of hF', rfl⟩, iteT ⟨by simp, fun e => kx rfl e⟩⟩
    | some t =>
      obtain ⟨⟨dx, ho⟩, ⟨vs, hW, hst⟩, ⟨u, hF, hu⟩, wf, wb, fb⟩ := id rd
      refine ⟨_, rfl, r, _, dx, _, _, rfl, ho, T.cl_Reader, T.na_Reader_found, lkF, true, .inl ⟨_, SqL.of hF, rfl⟩, iteF ?_⟩
      exact ⟨_, rfl, r, _, dx, _, _, rfl, ho, T.cl_Reader, T.na_Reader_found, lkF, F, _, _, u, rfl, rfl, SqL.of hF, atI_nat (j := 0) rfl, k t rfl u hu⟩
end KK

set_option Elab.async false
set_option linter.all false
set_option maxRecDepth 100000
set_option maxHeartbeats 8000000
namespace KK
open PySem PySem.Spec L2 L3
theorem tups_of {p : Addr} {H H' : Hp} {zs : List V} (x : SameX p H H') (hp : H p = some (.lst zs)) : tups H H' := fun a xs e => x _ _ (fun z => by rw [z, hp] at e; cases e) e
theorem BisAt.snoc {K : PySem.W.Frag} {n : Nat} {H : Hp} {us : List V} {xs : List BI} {u : V} {x : BI} (h : BisAt K n H us xs) (hu : BiAt K n H u x) : BisAt K n H (us ++ [u]) (xs ++ [x]) := by
  refine ⟨by rw [List.length_append, List.length_append, h.1]; rfl, fun i v y h1 h2 => ?_⟩
  by_cases hi : i < us.length
  · rw [List.getElem?_append_left hi] at h1
    rw [List.getElem?_append_left (by rw [← h.1]; exact hi)] at h2
    exact h.2 i v y h1 h2
  · rw [List.getElem?_append_right (by omega)] at h1
    rw [List.getElem?_append_right (by rw [← h.1]; omega), ← h.1] at h2
    cases hj : i - us.length with
    | zero =>
      rw [hj] at h1 h2
      cases h1
      cases h2
      exact hu
    | succ j => rw [hj] at h1; cases h1
def sp_Reader_take_sentence (K : PySem.W.Frag) (a : Adr) : Sp := fun vs H Q _ => ∃ r W F n bs st v t, vs = [.ref r, v] ∧ RdAt K a.C_Reader n H r W F bs st none ∧ (∃ a xs, v = .ref a ∧ H a = some (.tup xs)) ∧ At K n H v t ∧ (∀ w, .hd w ∈ st → w ∈ W1) ∧ (∀ xs, .br xs ∈ st → xs.length ≤ 1000000) ∧
  ∀ H' n', SameS (W :: F :: bs) H H' → RdAt K a.C_Reader n' H' r W F bs (takeS st t).1 (takeS st t).2 → Q .non H'
theorem ok_Reader_take_sentence {P : Program} {w : World} {K : PySem.W.Frag} {mg : Str → Option Value} {base : Heap} {a : Adr} (T : Txt K mg a) (hw : w.params = a.Pm) : FnOk P w K mg base CX0 1 a.Reader_take_sentence a.Reader_take_sentence_fd ["self", "sentence"] (sp_Reader_take_sentence K a) := by
  refine T.f_Reader_take_sentence.ok sc_Reader_take_sentence (fun vs H Q E h => ?_) (fun cdv A outer s H vs Q E hr h => ?_)
  · obtain ⟨r, W, F, n, bs, st, v, t, rfl, _⟩ := h
    rfl
  · obtain ⟨r, W, F, n, bs, st, v, t, rfl, rd, htu, hat, hhd, hbr, k⟩ := h
    refine ⟨_, (@pss_cons _ _ _ _ _ (@ps_set _ _ (2) _ _ _ _ sc_Reader_take_sentence.nd
      rfl
      (by first | exact Or.inl rfl | exact Or.inr rfl)
      (pv 1)
      (by rfl)
      (by first | exact .inl rfl | exact .inr rfl | assumption))
      (@pss_cons _ _ _ _ _ (ps_while PassesOwn.never (PW.pt (pw_and (pt_truthK (K := K) rfl (pe_fldK (K := K) rfl (pv 0) rfl) (fun _ => rfl)) (pw_and1 (pt_val (pe_callB (call_isiK (K := K) rfl "str") rfl T.b_isinstance PyProof.Rows.Boot.«isinstance» (@pa_cons _ _ _ _ _ (@pe_ix _ _ _ _ _ _ _ (ix_listK (K := K) rfl)
      (pe_fldK (K := K) rfl (pv 0) rfl)
      (pe_un un_neg pe_int)
      (fun _ _ => rfl))
      (@pa_cons _ _ _ _ _ (pe_bltn (v := .ty "str") rfl T.b_str PyProof.Rows.Boot.«str» rfl)
      pa_nil
      (by rfl))
      (by rfl))))))) (@pss_one _ _ _ (@ps_set _ _ (2) _ _ _ _ sc_Reader_take_sentence.nd
      rfl
      (by first | exact Or.inl rfl | exact Or.inr rfl)
      (@pe_tup _ _ _ _ _ (@pa_cons _ _ _ _ _ (pe_bm0 PySem.F.plainAttrs_list PySem.F.slot_list_pop PySem.F.type_list_pop mt_pop (pe_fldK (K := K) rfl (pv 0) rfl))
      (@pa_cons _ _ _ _ _ (pv 2)
      pa_nil
      (by rfl))
      (by rfl)))
      (by rfl)
      (by first | exact .inl rfl | exact .inr rfl | assumption))))
      (@pss_cons _ _ _ _ _ (@ps_set _ _ (3) _ _ _ _ sc_Reader_take_sentence.nd
      rfl
      (by first | exact Or.inl rfl | exact Or.inr rfl)
      (pe_ifExp (pt_truthK (K := K) rfl (pe_fldK (K := K) rfl (pv 0) rfl) (fun _ => rfl)) (@pe_ix _ _ _ _ _ _ _ (ix_listK (K := K) rfl)
      (pe_fldK (K := K) rfl (pv 0) rfl)
      (pe_un un_neg pe_int)
      (fun _ _ => rfl)) (pe_fldK (K := K) rfl (pv 0) rfl))
      (by rfl)
      (by first | exact .inl rfl | exact .inr rfl | assumption))
      (@pss_one _ _ _ (@ps_expr _ _ _ _ (pe_bm PySem.F.plainAttrs_list PySem.F.slot_list_append PySem.F.type_list_append mt_append (pv 3) (@pa_cons _ _ _ _ _ (pv 2)
      pa_nil
      (by rfl)))
      (by rfl)))))), ?_⟩
    refine ⟨_, rfl, ?_⟩
    refine ⟨fun m σ H' => ∃ (u : V) (st' : List WI) (t' : Tr) (n' : Nat), σ = [some (.ref r), some v, some u, none] ∧ RdAt K a.C_Reader n' H' r W F bs st' none ∧ (∃ a xs, u = .ref a ∧ H' a = some (.tup xs)) ∧ At K n' H' u t' ∧ takeS st' t' = takeS st t ∧ (∀ w, .hd w ∈ st' → w ∈ W1) ∧ (∀ xs, .br xs ∈ st' → xs.length ≤ 1000000) ∧ SameS (W :: F :: bs) H H' ∧ m = st'.length, ⟨_, v, st, t, n, rfl, rd, htu, hat, rfl, hhd, hbr, fun _ _ _ e => e, rfl⟩, ?_⟩
    rintro m σ H1 ⟨u, st1, t1, n1, rfl, rd1, ⟨ua, uxs, rfl, hua⟩, at1, etk, hhd1, hbr1, ss1, rfl⟩
    obtain ⟨⟨dx, ho⟩, ⟨vs, hW, hst⟩, hfo, wf, wb, fb⟩ := id rd1
    cases hst with
    | nil =>
      refine ⟨_, rfl, r, _, dx, _, _, rfl, ho, T.cl_Reader, T.na_Reader_waiting, lkW, false, .inl ⟨_, SqL.of hW, rfl⟩, iteF ?_⟩
      refine iteF ?_
      refine ⟨_, rfl, r, _, dx, _, _, rfl, ho, T.cl_Reader, T.na_Reader_waiting, lkW, false, .inl ⟨_, SqL.of hW, rfl⟩, iteF ⟨_, rfl, r, _, dx, _, _, rfl, ho, T.cl_Reader, T.na_Reader_found, lkF, ?_⟩⟩
      have hF : H1 F = some (.lst []) := hfo
      refine ⟨_, rfl, .inl ⟨rfl, _, SqL.of hF⟩, _, rfl, F, _, _, rfl, rfl, hF, by decide, ?_⟩
      have x2 : SameX F H1 (upd H1 F (.lst ([] ++ [.ref ua]))) := (SameX.refl H1).upd
      have e2 : (upd H1 F (.lst ([] ++ [.ref ua]))) F = some (.lst [.ref ua]) := upd_same
      generalize upd H1 F (.lst ([] ++ [.ref ua])) = H2 at x2 e2 ⊢
      refine k H2 n1 (fun b o hb e => x2 b o (fun z => hb (by simp [z])) (ss1 b o hb e)) ?_
      rw [← etk]
      exact ⟨⟨dx, x2 _ _ (fun z => by rw [z, hF] at ho; cases ho) ho⟩, ⟨[], x2 _ _ wf hW, .nil⟩, ⟨.ref ua, e2, at1.mono (SameX.tup x2 hF)⟩, wf, by simp, by simp⟩
    | hd h =>
      rename_i s vs st2
      rw [List.reverse_cons] at hW
      refine ⟨_, rfl, r, _, dx, _, _, rfl, ho, T.cl_Reader, T.na_Reader_waiting, lkW, true, .inl ⟨_, SqL.of hW, by simp⟩, iteT ?_⟩
      refine ⟨_, rfl, r, _, dx, _, _, rfl, ho, T.cl_Reader, T.na_Reader_waiting, lkW, _, rfl, W, _, _, .str s, rfl, rfl, SqL.of hW, L3.atI_last, _, .type "str", _, rfl, .str _, rfl, _, rfl, iteT ?_⟩
      have hs : s ∈ W1 := hhd1 s (by simp)
      refine ⟨_, fun σ' H' h' => h', ?_⟩
      refine ⟨_, rfl, r, _, dx, _, _, rfl, ho, T.cl_Reader, T.na_Reader_waiting, lkW, .inl ⟨rfl, _, SqL.of hW⟩, W, _, .str s, rfl, rfl, hW, by simp, ?_⟩
      have x2 : SameX W H1 (upd H1 W (.lst (vs.reverse ++ [V.str s]).dropLast)) := (SameX.refl H1).upd
      have e2 : (upd H1 W (.lst (vs.reverse ++ [V.str s]).dropLast)) W = some (.lst vs.reverse) := by rw [upd_same, List.dropLast_concat]
      generalize upd H1 W (.lst (vs.reverse ++ [V.str s]).dropLast) = H2 at x2 e2 ⊢
      refine ⟨_, rfl, by rw [sizeLine_eq]; simp, fun tq htq => ?_⟩
      have s3 := same_upd (o := .tup [.str s, .ref ua]) htq
      have e3 : (upd H2 tq (.tup [.str s, .ref ua])) tq = some (.tup [.str s, .ref ua]) := upd_same
      generalize upd H2 tq (.tup [.str s, .ref ua]) = H3 at s3 e3 ⊢
      have x3 : SameX W H1 H3 := x2.trans (Same.x s3)
      have sT := SameX.tup x3 hW
      have tp := tups_of x3 hW
      refine ⟨st2.length, by simp, .ref tq, st2, .node (.op s) [t1], n1 + 1, rfl, ?_, ⟨tq, _, rfl, e3⟩, at_op1 (SqT.of e3) hs (at1.mono sT), etk, fun w hw => hhd1 w (by simp [hw]), fun xs hx => hbr1 xs (by simp [hx]), fun c o hc e' => x3 c o (fun z => hc (by simp [z])) (ss1 c o hc e'), rfl⟩
      exact ⟨⟨dx, x3 _ _ (fun z => by rw [z, hW] at ho; cases ho) ho⟩, ⟨vs, s3 _ _ e2, (h.mono sT tp fun c hc zs ec => x3 _ _ (fun z => wb (z ▸ hc)) ec).le (Nat.le_succ _)⟩, x3 _ _ (Ne.symm wf) hfo, wf, wb, fb⟩
    | br e q nb h =>
      rename_i b us xs vs st2 bs2
      rw [List.reverse_cons] at hW
      refine ⟨_, rfl, r, _, dx, _, _, rfl, ho, T.cl_Reader, T.na_Reader_waiting, lkW, true, .inl ⟨_, SqL.of hW, by simp⟩, iteT ?_⟩
      refine ⟨_, rfl, r, _, dx, _, _, rfl, ho, T.cl_Reader, T.na_Reader_waiting, lkW, _, rfl, W, _, _, .ref b, rfl, rfl, SqL.of hW, L3.atI_last, _, .type "list", _, rfl, .lst e, rfl, _, rfl, iteF ?_⟩
      refine ⟨_, rfl, r, _, dx, _, _, rfl, ho, T.cl_Reader, T.na_Reader_waiting, lkW, true, .inl ⟨_, SqL.of hW, by simp⟩, iteT ⟨_, rfl, r, _, dx, _, _, rfl, ho, T.cl_Reader, T.na_Reader_waiting, lkW, _, rfl, W, _, _, .ref b, rfl, rfl, SqL.of hW, L3.atI_last, ?_⟩⟩
      have hxl := hbr1 xs (by simp)
      have hul := q.1
      refine ⟨_, rfl, .inl ⟨rfl, _, SqL.of e⟩, _, rfl, b, _, _, rfl, rfl, e, by rw [sizeLine_eq]; omega, ?_⟩
      have x2 : SameX b H1 (upd H1 b (.lst (us ++ [.ref ua]))) := (SameX.refl H1).upd
      have e2 : (upd H1 b (.lst (us ++ [.ref ua]))) b = some (.lst (us ++ [.ref ua])) := upd_same
      generalize upd H1 b (.lst (us ++ [.ref ua])) = H2 at x2 e2 ⊢
      have sT := SameX.tup x2 e
      have tp := tups_of x2 e
      refine k H2 n1 (fun c o hc e' => x2 c o (fun z => hc (by simp [z])) (ss1 c o hc e')) ?_
      rw [← etk]
      refine ⟨⟨dx, x2 _ _ (fun z => by rw [z, e] at ho; cases ho) ho⟩, ⟨.ref b :: vs, ?_, .br e2 ((q.mono sT tp).snoc ⟨⟨ua, uxs, rfl, tp _ _ hua⟩, at1.mono sT⟩) nb (h.mono sT tp fun c hc zs ec => x2 _ _ (fun z => nb (z ▸ hc)) ec)⟩, x2 _ _ (fun z => fb (by simp [z])) hfo, wf, wb, fb⟩
      rw [List.reverse_cons]
      exact x2 _ _ (fun z => wb (by simp [z])) hW
end KK

set_option Elab.async false
set_option linter.all false
set_option maxRecDepth 100000
set_option maxHeartbeats 8000000
namespace KK
open PySem PySem.Spec L2 L3
def sp_no_Reader_take_word (K : PySem.W.Frag) (a : Adr) : Sp := fun vs H Q E => ∃ r W F n bs st fo w, vs = [.ref r, .str w] ∧ RdAt K a.C_Reader n H r W F bs st fo ∧ (∀ x ∈ st, okWI x) ∧ (∀ xs, .br xs ∈ st → xs.length ≤ 390) ∧ st.length ≤ 1000000 ∧ w.length ≤ 1000 ∧
  (fo = none → ∀ s', Tk w st s' → ∀ H' n' bs', SameS (W :: F :: bs) H H' → (∀ b ∈ bs', b ∈ bs ∨ H b = none) → RdAt K a.C_Reader n' H' r W F bs' s'.1 s'.2 → Q .non H') ∧
  ((fo = none → ∀ s', ¬ Tk w st s') → ∀ H' e, SameS (W :: F :: bs) H H' → E (.ref e) (some a.C_NoText) H')
theorem tk_op {w : Str} {st : List WI} (h : w = "(") : Tk w st (.br [] :: st, none) := by
  subst h
  exact .op
theorem tk_yes {w : Str} {st : List WI} (h : w = "yes") : Tk w st (takeS st (.node .yes [])) := by
  subst h
  exact .yes
theorem tk_cl {st : List WI} {s' : List WI × Option Tr} (h : Tk ")" st s') : ∃ xs t r, st = .br xs :: r ∧ Brk xs t ∧ s' = takeS r t := by
  generalize e : (")" : Str) = w at h
  cases h with
  | hd h => subst e; exact absurd h cl_no.1
  | op => exact absurd e cl_no.2.1
  | cl h => exact ⟨_, _, _, rfl, h, rfl⟩
  | be h => subst e; exact absurd h (by decide +kernel)
  | yes => exact absurd e (by decide +kernel)
  | sg h => subst e; exact absurd rfl (plain_no h).2.2.1
theorem tk_be {w : Str} {st : List WI} {s' : List WI × Option Tr} (hw : w ∈ BES) (h : Tk w st s') : ∃ xs r, st = .br xs :: r := by
  obtain ⟨h1, h2, h3, h4, _⟩ := bes_no w hw
  cases h with
  | hd h => exact absurd h h1
  | op => exact absurd rfl h2
  | cl h => exact absurd rfl h3
  | be h => exact ⟨_, _, rfl⟩
  | yes => exact absurd rfl h4
  | sg h => exact absurd hw (plain_no h).2.2.2.1
theorem st_len {K : PySem.W.Frag} {n : Nat} {H : Hp} {vs : List V} {st : List WI} {bs : List Addr} (h : StAt K n H vs st bs) : vs.length = st.length := by
  induction h with
  | nil => rfl
  | hd h ih => simp [ih]
  | br e q nb h ih => simp [ih]
theorem st_in {K : PySem.W.Frag} {n : Nat} {H : Hp} {vs : List V} {st : List WI} {bs : List Addr} (h : StAt K n H vs st bs) : ∀ b ∈ bs, ∃ us, H b = some (.lst us) := by
  induction h with
  | nil => intro b hb; cases hb
  | hd h ih => exact ih
  | br e q nb h ih =>
    intro b hb
    rcases List.mem_cons.mp hb with rfl | hb
    · exact ⟨_, e⟩
    · exact ih b hb
theorem RdAt.same {K : PySem.W.Frag} {C : Addr} {n : Nat} {H H' : Hp} {r W F : Addr} {bs : List Addr} {st : List WI} {fo : Option Tr} (s : Same H H') (h : RdAt K C n H r W F bs st fo) : RdAt K C n H' r W F bs st fo := by
  obtain ⟨⟨dx, ho⟩, ⟨vs, hW, hst⟩, hfo, wf, wb, fb⟩ := h
  refine ⟨⟨dx, s _ _ ho⟩, ⟨vs, s _ _ hW, hst.mono (Same.tup s) (fun a xs e => s _ _ e) fun b _ us e => s _ _ e⟩, ?_, wf, wb, fb⟩
  cases fo with
  | none => exact s _ _ hfo
  | some t => obtain ⟨u, e, q⟩ := hfo; exact ⟨u, s _ _ e, q.mono (Same.tup s)⟩
theorem RdAt.le {K : PySem.W.Frag} {C : Addr} {n m : Nat} {H : Hp} {r W F : Addr} {bs : List Addr} {st : List WI} {fo : Option Tr} (h : RdAt K C n H r W F bs st fo) (hm : n ≤ m) : RdAt K C m H r W F bs st fo := by
  obtain ⟨ho, ⟨vs, hW, hst⟩, hfo, wf, wb, fb⟩ := h
  refine ⟨ho, ⟨vs, hW, hst.le hm⟩, ?_, wf, wb, fb⟩
  cases fo with
  | none => exact hfo
  | some t => obtain ⟨u, e, q⟩ := hfo; exact ⟨u, e, q.le hm⟩
theorem lkNo {v1 v2 : V} {m : Str} (h1 : (m == ("waiting" : Str)) = false) (h2 : (m == ("found" : Str)) = false) : ([("waiting", v1), ("found", v2)] : List (Str × V)).lookup m = none := by
  rw [List.lookup_cons, h1]
  show List.lookup _ _ = _
  rw [List.lookup_cons, h2]
  rfl
theorem lkO {v1 v2 : V} : ([("waiting", v1), ("found", v2)] : List (Str × V)).lookup ("open_bracket" : Str) = none := lkNo (by decide +kernel) (by decide +kernel)
theorem lkT {v1 v2 : V} : ([("waiting", v1), ("found", v2)] : List (Str × V)).lookup ("take_sentence" : Str) = none := lkNo (by decide +kernel) (by decide +kernel)
theorem no_Reader_take_word {P : Program} {w : World} {K : PySem.W.Frag} {mg : Str → Option Value} {base : Heap} {a : Adr} (T : Txt K mg a) (hw : w.params = a.Pm) : FnOk P w K mg base (CXe P w) 2 a.Reader_take_word a.Reader_take_word_fd ["self", "word"] (sp_no_Reader_take_word K a) := by
  have G_is_name := ok_is_name (P := P) (w := w) (base := base) T hw
  have G_Reader_take_sentence := ok_Reader_take_sentence (P := P) (w := w) (base := base) T hw
  have Z_Reader_open_bracket := no_Reader_open_bracket (P := P) (w := w) (base := base) T hw
  have Z_bracketed := no_bracketed (P := P) (w := w) (base := base) T hw
  refine fun_okX T.f_Reader_take_word sc_Reader_take_word (fun vs H Q E h => ?_) (fun cdv A outer s H vs Q E hr h => ?_)
  · obtain ⟨r, W, F, n, bs, st, fo, w, rfl, _⟩ := h
    rfl
  · obtain ⟨r, W, F, n, bs, st, fo, wd, rfl, rd, okw, hbr, hsl, hwl, k, kx⟩ := h
    refine ⟨_, (@pss_cons _ _ _ _ _ (@ps_if _ _ _ _ _ _ _ _ (pt_truthK (K := K) rfl (pe_fldK (K := K) rfl (pv 0) rfl) (fun _ => rfl))
      (@pss_one _ _ _ (ps_raise raises_cx rfl rfl T.g_NoText T.x_NoText PySem.F.excBase_ValueError (@pa_cons _ _ _ _ _ pe_str
      pa_nil
      (by rfl))))
      pss_nil)
      (@pss_one _ _ _ (@ps_if _ _ _ _ _ _ _ _ (@pt_cmpR _ _ _ _ _ _ _ _ (op_inK (K := K) rfl)
      (pv 1)
      (pe_gc (v := .ref a.Y_HEADS) rfl ⟨_, T.g_HEADS, rfl⟩)
      (by with_unfolding_all rfl))
      (@pss_one _ _ _ (@ps_expr _ _ _ _ (pe_bm PySem.F.plainAttrs_list PySem.F.slot_list_append PySem.F.type_list_append mt_append (pe_fldK (K := K) rfl (pv 0) rfl) (@pa_cons _ _ _ _ _ (pv 1)
      pa_nil
      (by rfl)))
      (by rfl)))
      (@pss_one _ _ _ (@ps_if _ _ _ _ _ _ _ _ (@pt_cmpR _ _ _ _ _ _ _ _ op_eq
      (pv 1)
      pe_str
      (nomark _))
      (@pss_one _ _ _ (@ps_expr _ _ _ _ (pe_bm PySem.F.plainAttrs_list PySem.F.slot_list_append PySem.F.type_list_append mt_append (pe_fldK (K := K) rfl (pv 0) rfl) (@pa_cons _ _ _ _ _ (@pe_lst _ _ _ _ pa_nil)
      pa_nil
      (by rfl)))
      (by rfl)))
      (@pss_one _ _ _ (@ps_if _ _ _ _ _ _ _ _ (@pt_cmpR _ _ _ _ _ _ _ _ op_eq
      (pv 1)
      pe_str
      (nomark _))
      (@pss_cons _ _ _ _ _ (@ps_set _ _ (2) _ _ _ _ sc_Reader_take_word.nd
      rfl
      (by first | exact Or.inl rfl | exact Or.inr rfl)
      (pe_meth0 (pv 0) T.cl_Reader T.m_Reader_open_bracket Z_Reader_open_bracket (hr.mono (by first | decide | omega)) T.n_Reader_open_bracket .nil passes_cx)
      (by rfl)
      (by first | exact .inl rfl | exact .inr rfl | assumption))
      (@pss_cons _ _ _ _ _ (@ps_expr _ _ _ _ (pe_bm0 PySem.F.plainAttrs_list PySem.F.slot_list_pop PySem.F.type_list_pop mt_pop (pe_fldK (K := K) rfl (pv 0) rfl))
      (by rfl))
      (@pss_one _ _ _ (@ps_expr _ _ _ _ (pe_meth (pv 0) T.cl_Reader T.m_Reader_take_sentence G_Reader_take_sentence (hr.mono (by decide)) T.n_Reader_take_sentence .nil pass0 (@pa_cons _ _ _ _ _ (pe_call Z_bracketed (hr.mono (by decide)) rfl T.g_bracketed T.f_bracketed.kp T.n_bracketed .nil passes_cx (@pa_cons _ _ _ _ _ (pv 2)
      pa_nil
      (by rfl)))
      pa_nil
      (by rfl)))
      (by rfl)))))
      (@pss_one _ _ _ (@ps_if _ _ _ _ _ _ _ _ (@pt_cmpR _ _ _ _ _ _ _ _ (op_inK (K := K) rfl)
      (pv 1)
      (pe_gc (v := .ref a.Y_BESIDE) rfl ⟨_, T.g_BESIDE, rfl⟩)
      (by with_unfolding_all rfl))
      (@pss_cons _ _ _ _ _ (@ps_set _ _ (2) _ _ _ _ sc_Reader_take_word.nd
      rfl
      (by first | exact Or.inl rfl | exact Or.inr rfl)
      (pe_meth0 (pv 0) T.cl_Reader T.m_Reader_open_bracket Z_Reader_open_bracket (hr.mono (by first | decide | omega)) T.n_Reader_open_bracket .nil passes_cx)
      (by rfl)
      (by first | exact .inl rfl | exact .inr rfl | assumption))
      (@pss_one _ _ _ (@ps_expr _ _ _ _ (pe_bm PySem.F.plainAttrs_list PySem.F.slot_list_append PySem.F.type_list_append mt_append (pv 2) (@pa_cons _ _ _ _ _ (pv 1)
      pa_nil
      (by rfl)))
      (by rfl))))
      (@pss_one _ _ _ (@ps_if _ _ _ _ _ _ _ _ (@pt_cmpR _ _ _ _ _ _ _ _ op_eq
      (pv 1)
      pe_str
      (nomark _))
      (@pss_one _ _ _ (@ps_expr _ _ _ _ (pe_meth (pv 0) T.cl_Reader T.m_Reader_take_sentence G_Reader_take_sentence (hr.mono (by decide)) T.n_Reader_take_sentence .nil pass0 (@pa_cons _ _ _ _ _ (@pe_tup _ _ _ _ _ (@pa_cons _ _ _ _ _ pe_str
      pa_nil
      (by rfl)))
      pa_nil
      (by rfl)))
      (by rfl)))
      (@pss_one _ _ _ (@ps_if _ _ _ _ _ _ _ _ (pt_val (pe_call G_is_name (hr.mono (by decide)) rfl T.g_is_name T.f_is_name.kp T.n_is_name .nil pass0 (@pa_cons _ _ _ _ _ (pv 1)
      pa_nil
      (by rfl))))
      (@pss_one _ _ _ (@ps_expr _ _ _ _ (pe_meth (pv 0) T.cl_Reader T.m_Reader_take_sentence G_Reader_take_sentence (hr.mono (by decide)) T.n_Reader_take_sentence .nil pass0 (@pa_cons _ _ _ _ _ (@pe_tup _ _ _ _ _ (@pa_cons _ _ _ _ _ pe_str
      (@pa_cons _ _ _ _ _ (pv 1)
      pa_nil
      (by rfl))
      (by rfl)))
      pa_nil
      (by rfl)))
      (by rfl)))
      (@pss_one _ _ _ (ps_raise raises_cx rfl rfl T.g_NoText T.x_NoText PySem.F.excBase_ValueError (@pa_cons _ _ _ _ _ pe_str
      pa_nil
      (by rfl))))))))))))))))), ?_⟩
    cases fo with
    | some t =>
      obtain ⟨⟨dx, ho⟩, _, ⟨u, hF, hu⟩, wf, wb, fb⟩ := id rd
      exact ⟨_, rfl, r, _, dx, _, _, rfl, ho, T.cl_Reader, T.na_Reader_found, lkF, true, .inl ⟨_, SqL.of hF, rfl⟩, iteT ⟨by simp, fun e => kx (fun z => by cases z) _ e fun _ _ _ h => h⟩⟩
    | none =>
    obtain ⟨⟨dx, ho⟩, ⟨vs, hW, hst⟩, hfo, wf, wb, fb⟩ := id rd
    have hF : H F = some (.lst []) := hfo
    have hvl := st_len hst
    refine ⟨_, rfl, r, _, dx, _, _, rfl, ho, T.cl_Reader, T.na_Reader_found, lkF, false, .inl ⟨_, SqL.of hF, rfl⟩, iteF ?_⟩
    by_cases c1 : wd ∈ HD9
    · refine ⟨_, rfl, a.Y_HEADS, _, rfl, .inr (T.y_HEADS _), rfl, rfl, _, rfl, iteIn (ss := HD9) c1 ?_⟩
      refine ⟨_, rfl, r, _, dx, _, _, rfl, ho, T.cl_Reader, T.na_Reader_waiting, lkW, .inl ⟨rfl, _, SqL.of hW⟩, _, rfl, W, _, _, rfl, rfl, hW, by rw [List.length_reverse, sizeLine_eq]; omega, ?_⟩
      have x2 : SameX W H (upd H W (.lst (vs.reverse ++ [.str wd]))) := (SameX.refl H).upd
      have e2 : (upd H W (.lst (vs.reverse ++ [.str wd]))) W = some (.lst (.str wd :: vs).reverse) := by rw [upd_same, List.reverse_cons]
      generalize upd H W (.lst (vs.reverse ++ [.str wd])) = H2 at x2 e2 ⊢
      refine k rfl _ (.hd c1) H2 n bs (fun c o hc e' => x2 c o (fun z => hc (by simp [z])) e') (fun b hb => .inl hb) ?_
      exact ⟨⟨dx, x2 _ _ (fun z => by rw [z, hW] at ho; cases ho) ho⟩, ⟨.str wd :: vs, e2, .hd (hst.mono (SameX.tup x2 hW) (tups_of x2 hW) fun c hc zs ec => x2 _ _ (fun z => wb (z ▸ hc)) ec)⟩, x2 _ _ (Ne.symm wf) hfo, wf, wb, fb⟩
    by_cases c2 : wd = "("
    · refine ⟨_, rfl, a.Y_HEADS, _, rfl, .inr (T.y_HEADS _), rfl, rfl, _, rfl, iteNin (ss := HD9) c1 ?_⟩
      refine ⟨_, rfl, rfl, _, rfl, iteD (congrArg V.str c2) ?_⟩
      refine ⟨_, rfl, r, _, dx, _, _, rfl, ho, T.cl_Reader, T.na_Reader_waiting, lkW, .inl ⟨rfl, _, SqL.of hW⟩, by decide, fun L hL => ?_⟩
      have s1 := same_upd (o := .lst []) hL
      have e1 : (upd H L (.lst [])) L = some (.lst []) := upd_same
      generalize upd H L (.lst []) = H1 at s1 e1 ⊢
      have hW1 := s1 _ _ hW
      refine ⟨W, _, _, rfl, rfl, hW1, by rw [List.length_reverse, sizeLine_eq]; omega, ?_⟩
      have x2 : SameX W H1 (upd H1 W (.lst (vs.reverse ++ [.ref L]))) := (SameX.refl H1).upd
      have e2 : (upd H1 W (.lst (vs.reverse ++ [.ref L]))) W = some (.lst (.ref L :: vs).reverse) := by rw [upd_same, List.reverse_cons]
      generalize upd H1 W (.lst (vs.reverse ++ [.ref L])) = H2 at x2 e2 ⊢
      have x02 : SameX W H H2 := (Same.x s1).trans x2
      have nLW : L ≠ W := fun z => by rw [z, hW] at hL; cases hL
      have nLF : L ≠ F := fun z => by rw [z, hF] at hL; cases hL
      have nLb : L ∉ bs := fun z => by obtain ⟨us, e⟩ := st_in hst L z; rw [e] at hL; cases hL
      refine k rfl _ (tk_op c2) H2 n (L :: bs) (fun c o hc e' => x02 c o (fun z => hc (by simp [z])) e') (fun b hb => (List.mem_cons.mp hb).elim (fun z => .inr (z ▸ hL)) .inl) ?_
      exact ⟨⟨dx, x02 _ _ (fun z => by rw [z, hW] at ho; cases ho) ho⟩, ⟨.ref L :: vs, e2, .br (x2 _ _ nLW e1) ⟨rfl, fun i u x h => by simp at h⟩ nLb (hst.mono (SameX.tup x02 hW) (tups_of x02 hW) fun c hc zs ec => x02 _ _ (fun z => wb (z ▸ hc)) ec)⟩, x02 _ _ (Ne.symm wf) hfo, wf, by simp [Ne.symm nLW, wb], by simp [Ne.symm nLF, fb]⟩
    by_cases c3 : wd = ")"
    · refine ⟨_, rfl, a.Y_HEADS, _, rfl, .inr (T.y_HEADS _), rfl, rfl, _, rfl, iteNin (ss := HD9) c1 ?_⟩
      refine ⟨_, rfl, rfl, _, rfl, iteN (fun z => c2 (V.str.inj z)) ?_⟩
      refine ⟨_, rfl, rfl, _, rfl, iteD (congrArg V.str c3) ?_⟩
      subst c3
      refine ⟨_, rfl, r, dx, _, rfl, ho, lkO, r, W, F, n, bs, st, none, rfl, rd, fun b bs2 xs st2 ebs est => ?_, fun hno e => kx (fun _ s' htk => ?_) H e fun _ _ _ h => h⟩
      case refine_2 =>
        obtain ⟨xs, t, q, e1, _⟩ := tk_cl htk
        exact hno _ _ e1
      subst ebs est
      cases hst with
      | br e q nb h =>
      rename_i us vs
      rw [List.reverse_cons] at hW
      refine ⟨_, rfl, r, _, dx, _, _, rfl, ho, T.cl_Reader, T.na_Reader_waiting, lkW, .inl ⟨rfl, _, SqL.of hW⟩, W, _, .ref b, rfl, rfl, hW, by simp, ?_⟩
      have x2 : SameX W H (upd H W (.lst (vs.reverse ++ [V.ref b]).dropLast)) := (SameX.refl H).upd
      have e2 : (upd H W (.lst (vs.reverse ++ [V.ref b]).dropLast)) W = some (.lst vs.reverse) := by rw [upd_same, List.dropLast_concat]
      generalize upd H W (.lst (vs.reverse ++ [V.ref b]).dropLast) = H2 at x2 e2 ⊢
      have sT := SameX.tup x2 hW
      have tp := tups_of x2 hW
      have ho2 := x2 _ _ (fun z => by rw [z, hW] at ho; cases ho) ho
      have hb2 := x2 _ _ (fun z => wb (by simp [z])) e
      have rd2 : RdAt K a.C_Reader n H2 r W F bs2 st2 none := ⟨⟨dx, ho2⟩, ⟨vs, e2, h.mono sT tp fun c hc zs ec => x2 _ _ (fun z => wb (by simp [← z, hc])) ec⟩, x2 _ _ (Ne.symm wf) hfo, wf, fun z => wb (by simp [z]), fun z => fb (by simp [z])⟩
      have sw : ∀ c o, c ∉ W :: F :: b :: bs2 → H c = some o → H2 c = some o := fun c o hc e' => x2 c o (fun z => hc (by simp [z])) e'
      refine ⟨_, rfl, r, dx, _, rfl, ho2, lkT, _, rfl, b, us, xs, n, rfl, hb2, q.mono sT tp, hbr xs (by simp), okw (.br xs) (by simp), fun t hb H3 v s3 at3 tu3 => ?_, fun hnb H3 e s3 => kx (fun _ s' htk => ?_) H3 e fun c o hc e' => s3 _ _ (sw c o hc e')⟩
      case refine_2 =>
        obtain ⟨xs', t, q, e1, e2, _⟩ := tk_cl htk
        cases e1
        exact hnb t e2
      refine ⟨r, W, F, n + 1, bs2, st2, v, t, rfl, (rd2.same s3).le (Nat.le_succ _), tu3, at3, fun w hw => okw (.hd w) (by simp [hw]), fun xs hx => Nat.le_trans (hbr xs (by simp [hx])) (by decide), fun H4 n4 ss4 rd4 => ?_⟩
      refine k rfl _ (.cl hb) H4 n4 bs2 (fun c o hc e' => ss4 c o (fun z => hc ?_) (s3 _ _ (x2 c o (fun z => hc (by simp [z])) e'))) (fun c hc => .inl (by simp [hc])) rd4
      simp only [List.mem_cons] at z ⊢
      rcases z with z | z | z
      · exact .inl z
      · exact .inr (.inl z)
      · exact .inr (.inr (.inr z))
    by_cases c4 : wd ∈ BES
    · refine ⟨_, rfl, a.Y_HEADS, _, rfl, .inr (T.y_HEADS _), rfl, rfl, _, rfl, iteNin (ss := HD9) c1 ?_⟩
      refine ⟨_, rfl, rfl, _, rfl, iteN (fun z => c2 (V.str.inj z)) ?_⟩
      refine ⟨_, rfl, rfl, _, rfl, iteN (fun z => c3 (V.str.inj z)) ?_⟩
      refine ⟨_, rfl, a.Y_BESIDE, _, rfl, .inr (T.y_BESIDE _), rfl, rfl, _, rfl, iteIn (ss := BES) c4 ?_⟩
      refine ⟨_, rfl, r, dx, _, rfl, ho, lkO, r, W, F, n, bs, st, none, rfl, rd, fun b bs2 xs st2 ebs est => ?_, fun hno e => kx (fun _ s' htk => ?_) H e fun _ _ _ h => h⟩
      case refine_2 =>
        obtain ⟨xs, q, e1⟩ := tk_be c4 htk
        exact hno _ _ e1
      subst ebs est
      cases hst with
      | br e q nb h =>
      rename_i us vs
      have hxl := hbr xs (by simp)
      have hul := q.1
      refine ⟨_, rfl, .inl ⟨rfl, _, SqL.of e⟩, _, rfl, b, _, _, rfl, rfl, e, by rw [sizeLine_eq]; omega, ?_⟩
      have x2 : SameX b H (upd H b (.lst (us ++ [.str wd]))) := (SameX.refl H).upd
      have e2 : (upd H b (.lst (us ++ [.str wd]))) b = some (.lst (us ++ [.str wd])) := upd_same
      generalize upd H b (.lst (us ++ [.str wd])) = H2 at x2 e2 ⊢
      have sT := SameX.tup x2 e
      have tp := tups_of x2 e
      refine k rfl _ (.be c4) H2 n (b :: bs2) (fun c o hc e' => x2 c o (fun z => hc (by simp [z])) e') (fun c hc => .inl hc) ?_
      exact ⟨⟨dx, x2 _ _ (fun z => by rw [z, e] at ho; cases ho) ho⟩, ⟨.ref b :: vs, x2 _ _ (fun z => wb (by simp [z])) hW, .br e2 ((q.mono sT tp).snoc rfl) nb (h.mono sT tp fun c hc zs ec => x2 _ _ (fun z => nb (z ▸ hc)) ec)⟩, x2 _ _ (fun z => fb (by simp [z])) hfo, wf, wb, fb⟩
    by_cases c5 : wd = "yes"
    · refine ⟨_, rfl, a.Y_HEADS, _, rfl, .inr (T.y_HEADS _), rfl, rfl, _, rfl, iteNin (ss := HD9) c1 ?_⟩
      refine ⟨_, rfl, rfl, _, rfl, iteN (fun z => c2 (V.str.inj z)) ?_⟩
      refine ⟨_, rfl, rfl, _, rfl, iteN (fun z => c3 (V.str.inj z)) ?_⟩
      refine ⟨_, rfl, a.Y_BESIDE, _, rfl, .inr (T.y_BESIDE _), rfl, rfl, _, rfl, iteNin (ss := BES) c4 ?_⟩
      refine ⟨_, rfl, rfl, _, rfl, iteD (congrArg V.str c5) ?_⟩
      refine ⟨_, rfl, r, dx, _, rfl, ho, lkT, by rw [sizeLine_eq]; simp, fun tq htq => ?_⟩
      have s1 := same_upd (o := .tup [.str "yes"]) htq
      have e1 : (upd H tq (.tup [.str "yes"])) tq = some (.tup [.str "yes"]) := upd_same
      generalize upd H tq (.tup [.str "yes"]) = H1 at s1 e1 ⊢
      exact ⟨r, W, F, n + 1, bs, st, .ref tq, _, rfl, (rd.same s1).le (Nat.le_succ _), ⟨tq, _, rfl, e1⟩, (at_yes (SqT.of e1) : At K (0 + 1) H1 _ _).le (by omega), fun w hw => okw (.hd w) hw, fun xs hx => Nat.le_trans (hbr xs hx) (by decide), fun H4 n4 ss4 rd4 => k rfl _ (tk_yes c5) H4 n4 bs (fun c o hc e' => ss4 c o hc (s1 _ _ e')) (fun c hc => .inl hc) rd4⟩
    refine ⟨_, rfl, a.Y_HEADS, _, rfl, .inr (T.y_HEADS _), rfl, rfl, _, rfl, iteNin (ss := HD9) c1 ?_⟩
    refine ⟨_, rfl, rfl, _, rfl, iteN (fun z => c2 (V.str.inj z)) ?_⟩
    refine ⟨_, rfl, rfl, _, rfl, iteN (fun z => c3 (V.str.inj z)) ?_⟩
    refine ⟨_, rfl, a.Y_BESIDE, _, rfl, .inr (T.y_BESIDE _), rfl, rfl, _, rfl, iteNin (ss := BES) c4 ?_⟩
    refine ⟨_, rfl, rfl, _, rfl, iteN (fun z => c5 (V.str.inj z)) ?_⟩
    refine ⟨_, rfl, .str wd, rfl, .str wd hwl, fun H1 s1 => ⟨_, rfl, ?_⟩⟩
    by_cases pn : isNameS wd = true
    · have en : isNameV (.str wd) = true := pn
      rw [en]
      refine iteT ?_
      have ho1 := s1 _ _ ho
      refine ⟨_, rfl, r, dx, _, rfl, ho1, lkT, _, rfl, by rw [sizeLine_eq]; simp, fun tq htq => ?_⟩
      have s2 := same_upd (o := .tup [.str "sign", .str wd]) htq
      have e2 : (upd H1 tq (.tup [.str "sign", .str wd])) tq = some (.tup [.str "sign", .str wd]) := upd_same
      generalize upd H1 tq (.tup [.str "sign", .str wd]) = H2 at s2 e2 ⊢
      exact ⟨r, W, F, n + 1, bs, st, .ref tq, _, rfl, (rd.same (s1.trans s2)).le (Nat.le_succ _), ⟨tq, _, rfl, e2⟩, (at_sign (SqT.of e2) pn : At K (0 + 1) H2 _ _).le (by omega), fun w hw => okw (.hd w) hw, fun xs hx => Nat.le_trans (hbr xs hx) (by decide), fun H4 n4 ss4 rd4 => k rfl _ (.sg ⟨pn, c5, c1, c4⟩) H4 n4 bs (fun c o hc e' => ss4 c o hc ((s1.trans s2) _ _ e')) (fun c hc => .inl hc) rd4⟩
    · have en : isNameV (.str wd) = false := by simpa [isNameV] using pn
      rw [en]
      refine iteF ⟨by simp, fun e => kx (fun _ s' htk => ?_) H1 e fun c o _ h => s1 _ _ h⟩
      cases htk with
      | hd h => exact c1 h
      | op => exact c2 rfl
      | cl h => exact c3 rfl
      | be h => exact c4 h
      | yes => exact c5 rfl
      | sg h => exact pn h.1
end KK

set_option Elab.async false
set_option linter.all false
set_option maxRecDepth 100000
set_option maxHeartbeats 8000000
namespace KK
open PySem PySem.Spec L2 L3
theorem take_ok {i : Nat} : ∀ (st : List WI) (t : Tr), (∀ w, .hd w ∈ st → w ∈ W1) → (∀ xs, .br xs ∈ st → xs.length ≤ i) → (∀ w, .hd w ∈ (takeS st t).1 → w ∈ W1) ∧ (∀ xs, .br xs ∈ (takeS st t).1 → xs.length ≤ i + 1) ∧ (takeS st t).1.length ≤ st.length
  | [], t, h1, h2 => ⟨fun w h => (by cases h), fun xs h => (by cases h), Nat.le_refl _⟩
  | .hd w :: r, t, h1, h2 => by
    obtain ⟨a, b, c⟩ := take_ok r (.node (.op w) [t]) (fun x hx => h1 x (by simp [hx])) (fun x hx => h2 x (by simp [hx]))
    exact ⟨a, b, Nat.le_succ_of_le c⟩
  | .br xs :: r, t, h1, h2 => by
    refine ⟨fun w h => ?_, fun ys h => ?_, Nat.le_refl _⟩
    · rcases List.mem_cons.mp h with z | z
      · cases z
      · exact h1 w (by simp [z])
    · rcases List.mem_cons.mp h with z | z
      · cases z
        have := h2 xs (by simp)
        rw [List.length_append, List.length_singleton]
        omega
      · exact Nat.le_succ_of_le (h2 ys (by simp [z]))
theorem tk_ok {i : Nat} {w : Str} {st : List WI} {s' : List WI × Option Tr} (h : Tk w st s') (h1 : ∀ w, .hd w ∈ st → w ∈ W1) (h2 : ∀ xs, .br xs ∈ st → xs.length ≤ i) (h3 : st.length ≤ i) :
    (∀ w, .hd w ∈ s'.1 → w ∈ W1) ∧ (∀ xs, .br xs ∈ s'.1 → xs.length ≤ i + 1) ∧ s'.1.length ≤ i + 1 := by
  cases h with
  | hd h =>
    refine ⟨fun x hx => ?_, fun xs hx => ?_, by simp; omega⟩
    · rcases List.mem_cons.mp hx with z | z
      · cases z; exact (by decide +kernel : ∀ w ∈ HD9, w ∈ W1) _ h
      · exact h1 x z
    · rcases List.mem_cons.mp hx with z | z
      · cases z
      · exact Nat.le_succ_of_le (h2 xs z)
  | op =>
    refine ⟨fun x hx => ?_, fun xs hx => ?_, by simp; omega⟩
    · rcases List.mem_cons.mp hx with z | z
      · cases z
      · exact h1 x z
    · rcases List.mem_cons.mp hx with z | z
      · cases z; simp
      · exact Nat.le_succ_of_le (h2 xs z)
  | cl hb =>
    obtain ⟨a, b, c⟩ := take_ok (i := i) _ _ (fun x hx => h1 x (List.mem_cons_of_mem _ hx)) (fun x hx => h2 x (List.mem_cons_of_mem _ hx))
    exact ⟨a, b, by have : _ + 1 ≤ i := h3; omega⟩
  | be hb =>
    refine ⟨fun x hx => ?_, fun ys hx => ?_, by have : _ + 1 ≤ i := h3; show _ + 1 ≤ i + 1; omega⟩
    · rcases List.mem_cons.mp hx with z | z
      · cases z
      · exact h1 x (List.mem_cons_of_mem _ z)
    · rcases List.mem_cons.mp hx with z | z
      · cases z
        have := h2 _ (List.mem_cons_self ..)
        rw [List.length_append, List.length_singleton]
        omega
      · exact Nat.le_succ_of_le (h2 ys (List.mem_cons_of_mem _ z))
  | yes => obtain ⟨a, b, c⟩ := take_ok (i := i) st (.node .yes []) h1 h2; exact ⟨a, b, by omega⟩
  | sg hz => obtain ⟨a, b, c⟩ := take_ok (i := i) st (.node (.sign w) []) h1 h2; exact ⟨a, b, by omega⟩
theorem own_same {H : Hp} {x dx : Addr} {o o' : HO} (h1 : H x = none) (h2 : H dx = none) : Same H (upd (upd H dx o) x o') := fun b u e => by
  rw [upd_ne (ne_of_none e h1), upd_ne (ne_of_none e h2)]; exact e
theorem lkM {v1 v2 : V} : ([("waiting", v1), ("found", v2)] : List (Str × V)).lookup ("take_word" : Str) = none := lkNo (by decide +kernel) (by decide +kernel)
theorem lkD {v1 v2 : V} : ([("waiting", v1), ("found", v2)] : List (Str × V)).lookup ("told" : Str) = none := lkNo (by decide +kernel) (by decide +kernel)
theorem Runs.snoc {w : Str} {s2 : List WI × Option Tr} : ∀ {ws : List Str} {s : List WI × Option Tr} {st : List WI}, Runs ws s (st, none) → Tk w st s2 → Runs (ws ++ [w]) s s2
  | [], s, st, h, k => by cases h; exact .cons k .nil
  | x :: ws, s, st, h, k => by
    cases h with
    | cons k1 r => exact .cons k1 (Runs.snoc r k)
theorem acc_step {t : Tr} {ws rest : List Str} {wd : Str} {s : List WI × Option Tr} (h : Pl t) (e : wds t = ws ++ wd :: rest) (r : Runs ws ([], none) s) : s.2 = none ∧ ∃ s', Tk wd s.1 s' := by
  obtain ⟨n, h⟩ := h
  have q := reads_all h
  rw [e] at q
  obtain ⟨s1, r1, r2⟩ := q.split
  cases r1.det r
  cases r2 with
  | cons k _ => exact ⟨rfl, _, k⟩
theorem acc_end {t : Tr} {ws : List Str} {s : List WI × Option Tr} (h : Pl t) (e : wds t = ws) (r : Runs ws ([], none) s) : s.2 = some t := by
  obtain ⟨n, h⟩ := h
  have q := reads_all h
  rw [e] at q
  cases r.det q
  rfl
def sp_no_read_sentence (K : PySem.W.Frag) (a : Adr) : Sp := fun vs H Q E => ∃ (v : V), vs = [v] ∧
  ((∃ (x : Str) (ws : List Str), v = .str x ∧ Txt.split x " " = ws ∧ x.length ≤ 10000 ∧ ws.length ≤ 389 ∧ (∀ w ∈ ws, w.length ≤ 1000) ∧
     (∀ t, Pl t → wds t = ws → ∀ H' u m, Same H H' → At K m H' u t → Q u H') ∧ ((∀ t, Pl t → wds t ≠ ws) → ∀ H' e, Same H H' → E (.ref e) (some a.C_NoText) H')) ∨
   (Kd H v ∧ isTy H "str" v = false ∧ ∀ e, E (.ref e) (some a.C_NoText) H))
theorem no_read_sentence {P : Program} {w : World} {K : PySem.W.Frag} {mg : Str → Option Value} {base : Heap} {a : Adr} (T : Txt K mg a) (hw : w.params = a.Pm) : FnOk P w K mg base (CXe P w) 3 a.read_sentence a.read_sentence_fd ["text"] (sp_no_read_sentence K a) := by
  have G_Reader_init := ok_Reader_init (P := P) (w := w) (base := base) T hw
  have Z_Reader_take_word := no_Reader_take_word (P := P) (w := w) (base := base) T hw
  have Z_Reader_told := no_Reader_told (P := P) (w := w) (base := base) T hw
  refine fun_okX T.f_read_sentence sc_read_sentence (fun vs H Q E h => ?_) (fun cdv A outer s H vs Q E hr h => ?_)
  · obtain ⟨v, rfl, _⟩ := h
    rfl
  · obtain ⟨v, rfl, h⟩ := h
    refine ⟨_, (@pss_cons _ _ _ _ _ (@ps_if _ _ _ _ _ _ _ _ (@pt_not _ _ _ _ (pt_val (pe_callB (call_isiK (K := K) rfl "str") rfl T.b_isinstance PyProof.Rows.Boot.«isinstance» (@pa_cons _ _ _ _ _ (pv 0)
      (@pa_cons _ _ _ _ _ (pe_bltn (v := .ty "str") rfl T.b_str PyProof.Rows.Boot.«str» rfl)
      pa_nil
      (by rfl))
      (by rfl)))))
      (@pss_one _ _ _ (ps_raise raises_cx rfl rfl T.g_NoText T.x_NoText PySem.F.excBase_ValueError (@pa_cons _ _ _ _ _ pe_str
      pa_nil
      (by rfl))))
      pss_nil)
      (@pss_cons _ _ _ _ _ (@ps_set _ _ (1) _ _ _ _ sc_read_sentence.nd
      rfl
      (by first | exact Or.inl rfl | exact Or.inr rfl)
      (pe_make0 T.mk_Reader G_Reader_init (hr.mono (by decide)) rfl T.g_Reader T.n_Reader_init .nil pass0)
      (by rfl)
      (by first | exact .inl rfl | exact .inr rfl | assumption))
      (@pss_cons _ _ _ _ _ (ps_for PassesOwn.leaving rfl (pi_listK (K := K) rfl (pe_bm PySem.F.plainAttrs_str PySem.F.slot_str_split PySem.F.type_str_split mt_split (pv 0) (@pa_cons _ _ _ _ _ pe_str
      pa_nil
      (by rfl)))) (pg_name (i := 2) sc_read_sentence.nd rfl (by first | exact Or.inl rfl | exact Or.inr rfl)) (@pss_one _ _ _ (@ps_expr _ _ _ _ (pe_meth (pv 1) T.cl_Reader T.m_Reader_take_word Z_Reader_take_word (hr.mono (by decide)) T.n_Reader_take_word .nil passes_cx (@pa_cons _ _ _ _ _ (pv 2)
      pa_nil
      (by rfl)))
      (by rfl))))
      (@pss_one _ _ _ (@ps_ret _ _ _ _ (pe_meth0 (pv 1) T.cl_Reader T.m_Reader_told Z_Reader_told (hr.mono (by first | decide | omega)) T.n_Reader_told .nil passes_cx)))))), ?_⟩
    rcases h with ⟨y, ws, rfl, hsp, hxl, hwl, hw1, k, kx⟩ | ⟨hk, hty, kx⟩
    case inr =>
      obtain ⟨ty, c1, c2⟩ := isi_f K (by simp) hk hty
      exact ⟨_, rfl, _, ty, _, rfl, c1, c2, _, rfl, iteT ⟨by simp, fun e => kx e⟩⟩
    refine ⟨_, rfl, _, .type "str", _, rfl, .str _, rfl, _, rfl, iteF ?_⟩
    refine fun x dx nx ndx nex => ⟨x, dx, rfl, upd_same, fun H1 W F x1 hW hF nW nF rd1 => ⟨rfl, ?_⟩⟩
    have s0 := own_same (o := .own x) (o' := .ins a.C_Reader dx []) nx ndx
    have s1 : Same H H1 := fun b u e => x1 _ _ (ne_of_none e nx) (s0 _ _ e)
    have hW0 : H W = none := s0.free hW
    have hF0 : H F = none := s0.free hF
    refine ⟨_, rfl, rfl, y, " ", rfl, rfl, by decide, hxl, fun L hL => ⟨L, rfl, ⟨_, SqL.of upd_same⟩, ?_⟩⟩
    rw [hsp]
    have s2 := same_upd (o := .lst (ws.map V.str)) hL
    have e2 : (upd H1 L (.lst (ws.map V.str))) L = some (.lst (ws.map V.str)) := upd_same
    generalize upd H1 L (.lst (ws.map V.str)) = H2 at s2 e2 ⊢
    have rd2 := rd1.same s2
    have hL0 : H L = none := s1.free hL
    have nLW : L ≠ W := fun z => by obtain ⟨vs, e, _⟩ := rd1.wt; rw [z, e] at hL; cases hL
    have nLF : L ≠ F := fun z => by have e : H1 F = some (.lst []) := rd1.fd; rw [z, e] at hL; cases hL
    refine for_list (K := K) (xs := ws.map V.str) (fun i σ H' => ∃ (z : Option V) (bs : List Addr) (s : List WI × Option Tr) (n' : Nat), σ = [some (.str y), some (.ref x), z] ∧ RdAt K a.C_Reader n' H' x W F bs s.1 s.2 ∧ Runs (ws.take i) ([], none) s ∧ okS s ∧ rep s = ws.take i ∧ (∀ xs, .br xs ∈ s.1 → xs.length ≤ i) ∧ s.1.length ≤ i ∧ Same H H' ∧ H' L = some (.lst (ws.map V.str)) ∧ L ∉ bs ∧ ∀ b ∈ bs, H b = none) ?_ ?_ ?_ ?_
    · exact ⟨_, [], ([], none), 0, rfl, rd2, .nil, ⟨fun x hx => (by cases hx), fun t e => (by cases e)⟩, rfl, fun w h => (by cases h), Nat.le_refl _, s1.trans s2, e2, by simp, fun b h => by cases h⟩
    · rintro i σ H' hi ⟨z, bs, s, n', rfl, rd, _, _, _, _, _, _, eL, _⟩
      exact SqL.of eL
    · rintro i y2 σ H3 hy ⟨z, bs, s, n', rfl, rd, hr, hok, hrep, h2, h3, s3, eL, nLb, hbs⟩
      have hi : i < ws.length := by have := (List.getElem?_eq_some_iff.mp hy).1; simpa using this
      rw [List.getElem?_map, List.getElem?_eq_getElem hi] at hy
      cases hy
      have hcut : ws = ws.take i ++ ws[i] :: ws.drop (i + 1) := by rw [← List.drop_eq_getElem_cons hi, List.take_append_drop]
      have htk1 : ws.take (i + 1) = ws.take i ++ [ws[i]] := by rw [List.take_add_one, List.getElem?_eq_getElem hi]; rfl
      have hwd := hw1 _ (List.getElem_mem hi)
      generalize ws[i] = wd at hcut htk1 hwd
      obtain ⟨dx3, ho3⟩ := rd.ob
      have back : ∀ H4, SameS (W :: F :: bs) H3 H4 → Same H H4 := fun H4 ss4 b o e => ss4 b o (by
        simp only [List.mem_cons, not_or]
        exact ⟨ne_of_none e hW0, ne_of_none e hF0, fun z => by rw [hbs b z] at e; cases e⟩) (s3 _ _ e)
      refine ⟨_, rfl, x, dx3, _, rfl, ho3, lkM, _, rfl, x, W, F, n', bs, s.1, s.2, wd, rfl, rd, hok.1, fun xs hx => by have := h2 xs hx; omega, by omega, hwd, fun hfo s' htk H4 n4 bs4 ss4 hb4 rd4 => ?_, fun hno H4 e ss4 => kx (fun t ht et => ?_) H4 e (back H4 ss4)⟩
      case refine_2 =>
        rw [hcut] at et
        obtain ⟨q1, s', q2⟩ := acc_step ht et hr
        exact hno q1 s' q2
      obtain ⟨st, fo⟩ := s
      have hfo' : fo = none := hfo
      subst hfo'
      have hhd : ∀ w, .hd w ∈ st → w ∈ W1 := fun w hw => hok.1 (.hd w) hw
      obtain ⟨q1, q2, q3⟩ := tk_ok htk hhd h2 h3
      obtain ⟨p1, p2⟩ := htk.rep hok.1
      refine ⟨_, bs4, s', n4, rfl, rd4, by rw [htk1]; exact Runs.snoc hr htk, p1, ?_, q2, q3, back H4 ss4, ss4 L _ ?_ eL, ?_, fun b hb => ?_⟩
      · have hrep' : stWs st ++ [] = ws.take i := hrep
        rw [p2, htk1, ← hrep', List.append_nil]
      · simp only [List.mem_cons, not_or]
        exact ⟨nLW, nLF, nLb⟩
      · intro hb
        rcases hb4 L hb with z | z
        · exact nLb z
        · rw [eL] at z; cases z
      · rcases hb4 b hb with z | z
        · exact hbs b z
        · exact s3.free z
    rintro σ H3 ⟨z, bs, s, n', rfl, rd, hr, hok, hrep, h2, h3, s3, eL, nLb, hbs⟩
    rw [List.length_map, List.take_length] at hr hrep
    obtain ⟨dx3, ho3⟩ := rd.ob
    refine ⟨_, rfl, x, dx3, _, rfl, ho3, lkD, x, W, F, n', bs, s.1, s.2, rfl, rd, fun t efo v hv => ?_, fun efo e => kx (fun t ht et => ?_) H3 e s3⟩
    · obtain ⟨e1, e2⟩ := hok.2 t efo
      refine k t e2 ?_ H3 v n' s3 hv
      rw [← hrep, rep, e1, efo]
      rfl
    · have := acc_end ht et hr
      rw [efo] at this
      cases this
end KK

set_option Elab.async false
set_option linter.all false
set_option maxRecDepth 100000
set_option maxHeartbeats 8000000
namespace KK
open PySem PySem.Spec L2 L3
theorem comp_selS {J : It} {D : Addr} {xs : List V} {tt : TT} {te : TE} {τ : L3.St} {H0 : Hp} {Q : VK} (hD : H0 D = none) (hz : xs.length ≤ sizeLine) (p : V → Bool)
    (hgo : ∀ (i : Nat) H, i < xs.length → Same H0 H → J.go i H) (hst : ∀ H, Same H0 H → J.stop xs.length H) (hy : ∀ (i : Nat) H x H2, Same H0 H → J.yld i H x H2 → H2 = H ∧ xs[i]? = some x)
    (step : ∀ (i : Nat) x H (N : Bool → Hp → Prop), xs[i]? = some x → Same H0 H → (∀ H', Same H H' → N (p x) H') → tt (some x :: τ) H N) (elt : ∀ x H (N : V → Hp → Prop), N x H → te (some x :: τ) H N)
    (fin : ∀ H', H' D = some (.lst (xs.filter p)) → Same H0 H' → Q (.ref D) H') : CompW J D (gName 0) tt te (none :: τ) H0 Q := by
  have hlen : ∀ i, ((xs.take i).filter p).length ≤ i := fun i => Nat.le_trans (List.length_filter_le ..) (by rw [List.length_take]; omega)
  refine comp_gen (n := xs.length) (fun i σ H => ∃ z, σ = z :: τ ∧ H D = some (.lst ((xs.take i).filter p)) ∧ Same H0 H) ?_ ?_ ?_ ?_ ?_
  · exact ⟨none, rfl, by rw [upd_same]; rfl, same_upd hD⟩
  · rintro i σ H hi ⟨z, rfl, _, s⟩
    exact hgo i H hi s
  · rintro σ H ⟨z, rfl, _, s⟩
    exact hst H s
  · rintro i x σ H H2 hi ⟨z, rfl, hd, s⟩ hyl N N0 hN hN0
    obtain ⟨rfl, hx⟩ := hy i H x H2 s hyl
    have et : xs.take (i + 1) = xs.take i ++ [x] := by
      rw [List.take_add_one, hx]
      rfl
    show tt (some x :: τ) H2 _
    refine step i x H2 _ hx s fun H3 s3 => ?_
    have hd3 := s3 _ _ hd
    have s03 := s.trans s3
    cases hp : p x with
    | true =>
      rw [if_pos rfl]
      refine elt x H3 _ (hN x _ H3 _ hd3 (by have := hlen i; omega) ⟨some x, rfl, ?_, (SameX.upd (Same.x s03)).same hD⟩)
      rw [upd_same, et, List.filter_append]
      simp [hp]
    | false =>
      rw [if_neg Bool.false_ne_true]
      refine hN0 _ H3 ⟨some x, rfl, ?_, s03⟩
      rw [hd3, et, List.filter_append]
      simp [hp]
  · rintro σ H ⟨z, rfl, hd, s⟩
    rw [List.take_length] at hd
    exact fin H hd s
def chV (c : Nat) : V := .str ⟨#[c]⟩
def badV : V → Bool
  | .str z => !(z.cps.toList.all isLow)
  | _ => false
def sp__law_is_name (K : PySem.W.Frag) (a : Adr) : Sp := fun vs H Q _ => ∃ z : Str, vs = [.str z] ∧ z.length ≤ 1000 ∧ PyData.strOk z = true ∧ ∀ H', Same H H' → Q (.bl (isNameS z)) H'
theorem ok__law_is_name {P : Program} {w : World} {K : PySem.W.Frag} {mg : Str → Option Value} {base : Heap} {a : Adr} (T : Txt K mg a) (hw : w.params = a.Pm) : FnOk P w K mg base CX0 1 a._law_is_name a._law_is_name_fd ["_law_word"] (sp__law_is_name K a) := by
  refine T.f__law_is_name.ok sc__law_is_name (fun vs H Q E h => ?_) (fun cdv A outer s H vs Q E hr h => ?_)
  · obtain ⟨z, rfl, _⟩ := h
    rfl
  · obtain ⟨z, rfl, hz, hok, k⟩ := h
    refine ⟨_, (@pss_one _ _ _ (@ps_ret _ _ _ _ (pe_and (pe_chain op_le op_le pe_int (pe_callB (call_lenK (K := K) rfl) rfl T.b_len PyProof.Rows.Boot.«len» (@pa_cons _ _ _ _ _ (pv 0)
      pa_nil
      (by rfl))) pe_int) (pe_one (@pe_cmpR _ _ _ _ _ _ _ _ (op_eqDK (K := K) rfl (Room.units hr))
      (pe_comp (Nc := ["_law_sign"]) (ix := [none]) (CompOk.of (by decide +kernel : compChk (defScope s__law_is_name) ["_law_word"] ["_law_sign"] [none] _ = true)) rfl (pi_str (pv 0)) (fun _ _ _ _ _ => (pg_name (i := 0) (show List.Nodup (["_law_sign"] : List Str) by decide +kernel) rfl (by first | exact Or.inl rfl | exact Or.inr rfl))) (fun _ _ _ _ _ => (pts_one (@pt_cmpR _ _ _ _ _ _ _ _ op_notIn_str
      (pv 0)
      pe_str
      (by with_unfolding_all rfl)))) (fun _ _ _ _ _ => (pv 0)))
      (@pe_lst _ _ _ _ pa_nil)
      (nomark _)))))), ?_⟩
    have fin : decide (1 ≤ (z.length : Int)) = true → decide ((z.length : Int) ≤ 8) = true → isNameS z = z.cps.toList.all isLow := fun a b => by
      have a' := of_decide_eq_true a
      have b' := of_decide_eq_true b
      have a2 : 1 ≤ z.length := by omega
      have b2 : z.length ≤ 8 := by omega
      simp [isNameS, a2, b2]
    have nof : ¬ ((1 : Int) ≤ z.length ∧ (z.length : Int) ≤ 8) → isNameS z = false := fun q => by
      have : ¬ (1 ≤ z.length ∧ z.length ≤ 8) := by omega
      simp only [isNameS]
      by_cases h1 : 1 ≤ z.length
      · have h2 : ¬ z.length ≤ 8 := fun h2 => this ⟨h1, h2⟩
        simp [h1, h2]
      · simp [h1]
    refine ⟨_, rfl, .inr (.inl ⟨z, rfl, by rw [sizeLine_eq]; omega, _, _, rfl, rfl, _, rfl, ?_⟩)⟩
    refine ite2 (fun c1 => ?_) (fun c1 => ?_)
    case refine_2 =>
      refine ⟨_, rfl, iteF ?_⟩
      have q := k H (.refl H)
      rw [nof (fun q => c1 (decide_eq_true q.1))] at q
      exact q
    refine ⟨_, _, rfl, rfl, _, rfl, ?_⟩
    refine ite2 (fun c2 => ?_) (fun c2 => ?_)
    case refine_2 =>
      have q := k H (.refl H)
      rw [nof (fun q => c2 (decide_eq_true q.2))] at q
      exact q
    refine ⟨_, rfl, z, rfl, fun D hD => ?_⟩
    have hsz : z.cps.toList.length = z.length := Array.length_toList
    refine comp_selS (J := Its z) hD (xs := z.cps.toList.map chV) (by rw [List.length_map, sizeLine_eq]; omega) badV (fun i H' hi _ => by rw [List.length_map, Array.length_toList] at hi; exact hi) (fun H' _ => by rw [List.length_map, Array.length_toList]; exact Nat.le_refl _) (fun i H' x H2 _ hy => ?_) (fun i x H' N hx s' hN => ?_) (fun x H' N hN => ⟨_, rfl, hN⟩) (fun H' hD' s' => ?_)
    · obtain ⟨e, c, hc, rfl⟩ := hy
      refine ⟨e, ?_⟩
      rw [List.getElem?_map, Array.getElem?_toList, hc]
      rfl
    · obtain ⟨c, hc, rfl⟩ := List.mem_map.mp (List.mem_of_getElem? hx)
      refine ⟨_, rfl, _, _, rfl, rfl, _, rfl, ?_⟩
      have el := PySem.StrLaws.found_one ("abcdefghijklmnopqrstuvwxyz" : Str) c
      have e2 : badV (chV c) = !(!(Builtin.Str.occurrences ("abcdefghijklmnopqrstuvwxyz" : Str) ⟨#[c]⟩ 0 ("abcdefghijklmnopqrstuvwxyz" : Str).length 1).isEmpty) := by
        rw [el, mem_letters]
        simp [badV, chV]
      have q := hN H' (.refl _)
      rw [e2] at q
      exact q
    refine ⟨by decide, fun E1 hE1 => ?_⟩
    have hfl : (z.cps.toList.map chV).filter badV = ((z.cps.toList.filter fun c => badV (chV c)).map fun c => (⟨#[c]⟩ : Str)).map V.str := by
      rw [List.filter_map, List.map_map]
      rfl
    rw [hfl] at hD'
    refine eqS (b := []) (fun s hs => ?_) (fun s hs => by cases hs) (same_upd hE1 _ _ hD') upd_same ?_
    · obtain ⟨c, hc, rfl⟩ := List.mem_map.mp hs
      have hm := (List.mem_filter.mp hc).1
      unfold PyData.strOk at hok ⊢
      rw [Array.all_eq_true_iff_forall_mem] at hok
      have := hok c (Array.mem_toList_iff.mp hm)
      simpa using this
    have q := k _ (s'.trans (same_upd (o := .lst []) hE1))
    rw [fin c1 c2] at q
    have e3 : z.cps.toList.all isLow = decide (((z.cps.toList.filter fun c => badV (chV c)).map fun c => (⟨#[c]⟩ : Str)) = []) := by
      rw [Bool.eq_iff_iff, decide_eq_true_iff, List.map_eq_nil_iff, List.filter_eq_nil_iff, List.all_eq_true]
      constructor
      · intro h c hc
        simp [badV, chV, h c hc]
      · intro h c hc
        simpa [badV, chV] using h c hc
    rw [e3] at q
    exact q
end KK

set_option Elab.async false
set_option linter.all false
set_option maxRecDepth 100000
set_option maxHeartbeats 8000000
namespace KK
open PySem PySem.Spec L2 L3
def GW (w : Str) : Prop := free 32 w ∧ w.length ≤ 9 ∧ PyData.strOk w = true
theorem drop_at {ws a r : List Str} {i : Nat} (h : ws.drop i = a ++ r) (hi : i ≤ ws.length) : ws.drop (i + a.length) = r ∧ i + a.length ≤ ws.length := by
  have hl := congrArg List.length h
  rw [List.length_drop, List.length_append] at hl
  refine ⟨?_, by omega⟩
  rw [← List.drop_drop, h, List.drop_left]
theorem at_drop {ws r : List Str} {w : Str} {i : Nat} (h : ws.drop i = w :: r) : i < ws.length ∧ ws[i]? = some w ∧ ws.drop (i + 1) = r := by
  have hl := congrArg List.length h
  rw [List.length_drop, List.length_cons] at hl
  have hi : i < ws.length := by omega
  rw [List.drop_eq_getElem_cons hi] at h
  obtain ⟨h1, h2⟩ := List.cons.inj h
  exact ⟨hi, by rw [List.getElem?_eq_getElem hi, h1], h2⟩
theorem drop_nil {ws : List Str} {i : Nat} (h : ws.drop i = []) : ws.length ≤ i := List.drop_eq_nil_iff.mp h
theorem brk_two {a t : Tr} {d r1 rest : List Str} (ha : Pl a) (e : d = wds a ++ r1) (ht : Pl t) (et : ("(" : Str) :: d = wds t ++ rest) :
    (∃ c b, c ∈ W2 ∧ Pl b ∧ r1 = c :: (wds b ++ (")" : Str) :: rest)) ∨ (∃ (m : Int) (b : Tr), (0 ≤ m ∧ m ≤ 5) ∧ Pl b ∧ r1 = ("within" : Str) :: strI m :: (wds b ++ (")" : Str) :: rest)) := by
  have hv := inv_of ht et
  cases hd : d with
  | nil =>
    rw [hd] at e
    exact absurd (List.append_eq_nil_iff.mp e.symm).1 (wds_ne a)
  | cons w r =>
  rw [hd] at e hv
  have hf := (inv_of ha e).fst
  generalize h0 : ("(" : Str) = o at hv
  generalize h1 : w :: r = d' at hv
  cases hv with
  | yes => exact absurd h0.symm (by decide +kernel)
  | sign h => exact absurd h0.symm (plain_no h).2.1
  | op1 h _ => subst h0; exact absurd h (by decide +kernel)
  | many h _ _ =>
    obtain ⟨e1, _⟩ := List.cons.inj h1
    exact absurd (e1 ▸ (by rcases h with rfl | rfl <;> decide +kernel)) hf.2.1
  | op2 h h2 h3 =>
    rw [h1] at e
    obtain ⟨rfl, e2⟩ := uniq h2 ha e
    exact .inl ⟨_, _, h, h3, e2.symm⟩
  | wit h h2 h3 =>
    rw [h1] at e
    obtain ⟨rfl, e2⟩ := uniq h2 ha e
    exact .inr ⟨_, _, h, h3, e2.symm⟩
theorem brk_no {t : Tr} {d rest : List Str} (h : ∀ w r, d = w :: r → w ∉ (["and", "or"] : List Str)) (hn : ∀ t rest, Pl t → d ≠ wds t ++ rest) (ht : Pl t) : ("(" : Str) :: d ≠ wds t ++ rest := fun et => by
  have hv := inv_of ht et
  generalize h0 : ("(" : Str) = o at hv
  cases hv with
  | yes => exact absurd h0.symm (by decide +kernel)
  | sign h => exact absurd h0.symm (plain_no h).2.1
  | op1 h _ => subst h0; exact absurd h (by decide +kernel)
  | many hw _ _ => exact h _ _ rfl (by rcases hw with rfl | rfl <;> simp)
  | op2 h h2 h3 => exact hn _ _ h2 rfl
  | wit h h2 h3 => exact hn _ _ h2 rfl
theorem brk_mny {t : Tr} {w : Str} {d rest : List Str} (hw : w ∈ (["and", "or"] : List Str)) (ht : Pl t) (et : ("(" : Str) :: w :: d = wds t ++ rest) : ∃ ks : List Tr, (∀ k ∈ ks, Pl k) ∧ d = (ks.map wds).flatten ++ (")" : Str) :: rest := by
  have hb : w ∈ BES := (by decide +kernel : ∀ w ∈ (["and", "or"] : List Str), w ∈ BES) w hw
  have hv := inv_of ht et
  generalize h0 : ("(" : Str) = o at hv
  generalize h1 : w :: d = d' at hv
  cases hv with
  | yes => exact absurd h0.symm (by decide +kernel)
  | sign h => exact absurd h0.symm (plain_no h).2.1
  | op1 h _ => subst h0; exact absurd h (by decide +kernel)
  | many h _ hk => obtain ⟨_, e2⟩ := List.cons.inj h1; exact ⟨_, hk, e2⟩
  | op2 h h2 h3 => exact absurd hb (inv_of h2 h1).fst.2.1
  | wit h h2 h3 => exact absurd hb (inv_of h2 h1).fst.2.1
theorem wt_drop {ws : List Str} {i j : Nat} (h : i ≤ j) : wt (ws.drop j) ≤ wt (ws.drop i) := by
  have e : ws.drop j = (ws.drop i).drop (j - i) := by rw [List.drop_drop]; congr 1; omega
  rw [e]
  exact (List.drop_sublist _ _).countP_le
theorem iteNY {c A B : Prop} [Decidable c] (h : ¬ c) (a : A) : if (!decide c) = true then A else B := by
  rw [decide_eq_false h]
  exact iteT a
theorem iteNot {w : Str} {ss : List Str} {A B : Prop} (h : w ∉ ss) (a : A) : if (if true = true then !inV (.str w) (ss.map V.str) else inV (.str w) (ss.map V.str)) = true then A else B := by
  have e : inV (.str w) (ss.map V.str) = false := Bool.eq_false_iff.mpr fun z => h (inV_str.mp z)
  rw [if_pos rfl, e]
  exact iteT a
theorem iteYes {w : Str} {ss : List Str} {A B : Prop} (h : w ∈ ss) (b : B) : if (if true = true then !inV (.str w) (ss.map V.str) else inV (.str w) (ss.map V.str)) = true then A else B := by
  rw [if_pos rfl, inV_str.mpr h]
  exact iteF b
theorem len_flat : ∀ ks : List Tr, ks.length ≤ ((ks.map wds).flatten).length
  | [] => Nat.le_refl _
  | k :: r => by
    have h1 := len_flat r
    have h2 := List.length_pos_iff.mpr (wds_ne k)
    rw [List.map_cons, List.flatten_cons, List.length_append, List.length_cons]
    omega
def sp__law_end (n : Nat) (K : PySem.W.Frag) (a : Adr) : Sp := fun vs H Q _ => ∃ (L : Addr) (ws : List Str) (i : Nat) (j : Int), vs = [.ref L, .int j] ∧ j = (i : Int) ∧ H L = some (.lst (ws.map V.str)) ∧ (∀ w ∈ ws, GW w) ∧ ws.length ≤ 390 ∧ i ≤ ws.length ∧ wt (ws.drop i) < n ∧ ∀ H' r, Same H H' → EndAt (ws.drop i) i r → Q (.int r) H'
def sp__law_end_of_brackets (n : Nat) (K : PySem.W.Frag) (a : Adr) : Sp := fun vs H Q _ => ∃ (L : Addr) (ws : List Str) (i : Nat) (j : Int), vs = [.ref L, .int j] ∧ j = (i : Int) ∧ H L = some (.lst (ws.map V.str)) ∧ (∀ w ∈ ws, GW w) ∧ ws.length ≤ 390 ∧ i ≤ ws.length ∧ wt (ws.drop i) < n ∧ ∀ H' r, Same H H' → EndAt (("(" : Str) :: ws.drop i) ((i : Int) - 1) r → Q (.int r) H'
theorem ok__law_end_of_brackets {P : Program} {w : World} {K : PySem.W.Frag} {mg : Str → Option Value} {base : Heap} {a : Adr} (T : Txt K mg a) (hw : w.params = a.Pm) (n : Nat) (G__law_end : FnOk P w K mg base CX0 (2 * n + 2) a._law_end a._law_end_fd ["_law_words", "_law_at"] (sp__law_end n K a)) : FnOk P w K mg base CX0 (2 * n + 3) a._law_end_of_brackets a._law_end_of_brackets_fd ["_law_words", "_law_at"] (sp__law_end_of_brackets n K a) := by
  refine T.f__law_end_of_brackets.ok sc__law_end_of_brackets (fun vs H Q E h => ?_) (fun cdv A outer s H vs Q E hr h => ?_)
  · obtain ⟨L, ws, i, j, rfl, _⟩ := h
    rfl
  · obtain ⟨L, ws, i, j, rfl, rfl, hL, hgw, hwl, hi, hwt, k⟩ := h
    refine ⟨_, (pss_join (@ps_if _ _ _ _ _ _ _ _ (PW.pt (pw_and (@pt_cmpR _ _ _ _ _ _ _ _ op_lt
      (pv 1)
      (pe_callB (call_lenK (K := K) rfl) rfl T.b_len PyProof.Rows.Boot.«len» (@pa_cons _ _ _ _ _ (pv 0)
      pa_nil
      (by rfl)))
      (nomark _)) (pw_and1 (@pt_cmpR _ _ _ _ _ _ _ _ (op_inK (K := K) rfl)
      (@pe_ix _ _ _ _ _ _ _ (ix_listK (K := K) rfl)
      (pv 0)
      (pv 1)
      (fun _ _ => rfl))
      (@pe_lst _ _ _ _ (@pa_cons _ _ _ _ _ pe_str
      (@pa_cons _ _ _ _ _ pe_str
      pa_nil
      (by rfl))
      (by rfl)))
      (by with_unfolding_all rfl)))))
      (@pss_cons _ _ _ _ _ (@ps_set _ _ (1) _ _ _ _ sc__law_end_of_brackets.nd
      rfl
      (by first | exact Or.inl rfl | exact Or.inr rfl)
      (@pe_op _ _ _ _ _ _ _ _ op_add
      (pv 1)
      pe_int)
      (by rfl)
      (by first | exact .inl rfl | exact .inr rfl | assumption))
      (@pss_cons _ _ _ _ _ (ps_while PassesOwn.never (PW.pt (pw_and (@pt_cmpR _ _ _ _ _ _ _ _ op_ne
      (pv 1)
      (pe_un un_neg pe_int)
      (nomark _)) (pw_and (@pt_cmpR _ _ _ _ _ _ _ _ op_lt
      (pv 1)
      (pe_callB (call_lenK (K := K) rfl) rfl T.b_len PyProof.Rows.Boot.«len» (@pa_cons _ _ _ _ _ (pv 0)
      pa_nil
      (by rfl)))
      (nomark _)) (pw_and1 (@pt_cmpR _ _ _ _ _ _ _ _ op_ne
      (@pe_ix _ _ _ _ _ _ _ (ix_listK (K := K) rfl)
      (pv 0)
      (pv 1)
      (fun _ _ => rfl))
      pe_str
      (nomark _)))))) (@pss_one _ _ _ (@ps_set _ _ (1) _ _ _ _ sc__law_end_of_brackets.nd
      rfl
      (by first | exact Or.inl rfl | exact Or.inr rfl)
      (pe_call G__law_end (hr.mono (show _ ≤ 2 * n + 2 by omega)) rfl T.g__law_end T.f__law_end.kp T.n__law_end .nil pass0 (@pa_cons _ _ _ _ _ (pv 0)
      (@pa_cons _ _ _ _ _ (pv 1)
      pa_nil
      (by rfl))
      (by rfl)))
      (by rfl)
      (by first | exact .inl rfl | exact .inr rfl | assumption))))
      (pss_join (@ps_if _ _ _ _ _ _ _ _ (PW.pt (pw_or (@pt_cmpR _ _ _ _ _ _ _ _ op_eq
      (pv 1)
      (pe_un un_neg pe_int)
      (nomark _)) (pw_or1 (@pt_cmpR _ _ _ _ _ _ _ _ op_ge
      (pv 1)
      (pe_callB (call_lenK (K := K) rfl) rfl T.b_len PyProof.Rows.Boot.«len» (@pa_cons _ _ _ _ _ (pv 0)
      pa_nil
      (by rfl)))
      (nomark _)))))
      (@pss_one _ _ _ (@ps_ret _ _ _ _ (pe_un un_neg pe_int)))
      pss_nil)
          (@pss_one _ _ _ (@ps_ret _ _ _ _ (@pe_op _ _ _ _ _ _ _ _ op_add
      (pv 1)
      pe_int))))))
      pss_nil)
          (@pss_cons _ _ _ _ _ (@ps_set _ _ (1) _ _ _ _ sc__law_end_of_brackets.nd
      rfl
      (by first | exact Or.inl rfl | exact Or.inr rfl)
      (pe_call G__law_end (hr.mono (show _ ≤ 2 * n + 2 by omega)) rfl T.g__law_end T.f__law_end.kp T.n__law_end .nil pass0 (@pa_cons _ _ _ _ _ (pv 0)
      (@pa_cons _ _ _ _ _ (pv 1)
      pa_nil
      (by rfl))
      (by rfl)))
      (by rfl)
      (by first | exact .inl rfl | exact .inr rfl | assumption))
      (pss_join (@ps_if _ _ _ _ _ _ _ _ (PW.pt (pw_or (@pt_cmpR _ _ _ _ _ _ _ _ op_eq
      (pv 1)
      (pe_un un_neg pe_int)
      (nomark _)) (pw_or (@pt_cmpR _ _ _ _ _ _ _ _ op_ge
      (pv 1)
      (pe_callB (call_lenK (K := K) rfl) rfl T.b_len PyProof.Rows.Boot.«len» (@pa_cons _ _ _ _ _ (pv 0)
      pa_nil
      (by rfl)))
      (nomark _)) (pw_or1 (@pt_cmpR _ _ _ _ _ _ _ _ (op_notInK (K := K) rfl)
      (@pe_ix _ _ _ _ _ _ _ (ix_listK (K := K) rfl)
      (pv 0)
      (pv 1)
      (fun _ _ => rfl))
      (@pe_lst _ _ _ _ (@pa_c _ _ _ _ _ pe_str
      (@pa_c _ _ _ _ _ pe_str
      (@pa_c _ _ _ _ _ pe_str
      pa_nil
      (by rfl))
      (by rfl))
      (by rfl)))
      (by with_unfolding_all rfl))))))
      (@pss_one _ _ _ (@ps_ret _ _ _ _ (pe_un un_neg pe_int)))
      pss_nil)
          (pss_join (@ps_if _ _ _ _ _ _ _ _ (@pt_cmpR _ _ _ _ _ _ _ _ op_eq
      (@pe_ix _ _ _ _ _ _ _ (ix_listK (K := K) rfl)
      (pv 0)
      (pv 1)
      (fun _ _ => rfl))
      pe_str
      (nomark _))
      (@pss_cons _ _ _ _ _ (@ps_set _ _ (1) _ _ _ _ sc__law_end_of_brackets.nd
      rfl
      (by first | exact Or.inl rfl | exact Or.inr rfl)
      (@pe_op _ _ _ _ _ _ _ _ op_add
      (pv 1)
      pe_int)
      (by rfl)
      (by first | exact .inl rfl | exact .inr rfl | assumption))
      (@pss_one _ _ _ (@ps_if _ _ _ _ _ _ _ _ (PW.pt (pw_or (@pt_cmpR _ _ _ _ _ _ _ _ op_ge
      (pv 1)
      (pe_callB (call_lenK (K := K) rfl) rfl T.b_len PyProof.Rows.Boot.«len» (@pa_cons _ _ _ _ _ (pv 0)
      pa_nil
      (by rfl)))
      (nomark _)) (pw_or1 (@pt_cmpR _ _ _ _ _ _ _ _ (op_notInK (K := K) rfl)
      (@pe_ix _ _ _ _ _ _ _ (ix_listK (K := K) rfl)
      (pv 0)
      (pv 1)
      (fun _ _ => rfl))
      (@pe_lst _ _ _ _ (@pa_c _ _ _ _ _ pe_str
      (@pa_c _ _ _ _ _ pe_str
      (@pa_c _ _ _ _ _ pe_str
      (@pa_c _ _ _ _ _ pe_str
      (@pa_c _ _ _ _ _ pe_str
      (@pa_c _ _ _ _ _ pe_str
      pa_nil
      (by rfl))
      (by rfl))
      (by rfl))
      (by rfl))
      (by rfl))
      (by rfl)))
      (by with_unfolding_all rfl)))))
      (@pss_one _ _ _ (@ps_ret _ _ _ _ (pe_un un_neg pe_int)))
      pss_nil)))
      pss_nil)
          (@pss_cons _ _ _ _ _ (@ps_set _ _ (1) _ _ _ _ sc__law_end_of_brackets.nd
      rfl
      (by first | exact Or.inl rfl | exact Or.inr rfl)
      (pe_call G__law_end (hr.mono (show _ ≤ 2 * n + 2 by omega)) rfl T.g__law_end T.f__law_end.kp T.n__law_end .nil pass0 (@pa_cons _ _ _ _ _ (pv 0)
      (@pa_cons _ _ _ _ _ (@pe_op _ _ _ _ _ _ _ _ op_add
      (pv 1)
      pe_int)
      pa_nil
      (by rfl))
      (by rfl)))
      (by rfl)
      (by first | exact .inl rfl | exact .inr rfl | assumption))
      (pss_join (@ps_if _ _ _ _ _ _ _ _ (PW.pt (pw_or (@pt_cmpR _ _ _ _ _ _ _ _ op_eq
      (pv 1)
      (pe_un un_neg pe_int)
      (nomark _)) (pw_or (@pt_cmpR _ _ _ _ _ _ _ _ op_ge
      (pv 1)
      (pe_callB (call_lenK (K := K) rfl) rfl T.b_len PyProof.Rows.Boot.«len» (@pa_cons _ _ _ _ _ (pv 0)
      pa_nil
      (by rfl)))
      (nomark _)) (pw_or1 (@pt_cmpR _ _ _ _ _ _ _ _ op_ne
      (@pe_ix _ _ _ _ _ _ _ (ix_listK (K := K) rfl)
      (pv 0)
      (pv 1)
      (fun _ _ => rfl))
      pe_str
      (nomark _))))))
      (@pss_one _ _ _ (@ps_ret _ _ _ _ (pe_un un_neg pe_int)))
      pss_nil)
          (@pss_one _ _ _ (@ps_ret _ _ _ _ (@pe_op _ _ _ _ _ _ _ _ op_add
      (pv 1)
      pe_int))))))))), ?_⟩
    have hlm : (ws.map V.str).length = ws.length := List.length_map ..
    refine ⟨fun σ' H' => σ' = [some (.ref L), some (.int (i : Int))] ∧ Same H H' ∧ ∀ w r, ws.drop i = w :: r → w ∉ (["and", "or"] : List Str), ?_, ?_⟩
    · refine ⟨_, rfl, _, rfl, .inl ⟨L, _, rfl, .inl (SqL.of hL), _, _, rfl, rfl, _, rfl, ?_⟩⟩
      refine ite2 (fun c => ?_) (fun c => ⟨rfl, .refl _, fun w r e => ?_⟩)
      case refine_2 => exact absurd (decide_eq_true (by rw [hlm]; have := (at_drop e).1; omega)) c
      have hlt : i < ws.length := by have := of_decide_eq_true c; rw [hlm] at this; omega
      have hdw := List.drop_eq_getElem_cons hlt
      have hgi := List.getElem?_eq_getElem hlt
      generalize ws[i] = w at hdw hgi
      refine ⟨_, rfl, _, rfl, L, _, _, .str w, rfl, rfl, SqL.of hL, atI_nat (j := i) (by rw [List.getElem?_map, hgi]; rfl), by rw [sizeLine_eq]; simp, fun L1 hL1 => ⟨L1, _, rfl, .inl (SqL.of upd_same), rfl, rfl, _, rfl, ?_⟩⟩
      have s1 := same_upd (o := .lst [.str "and", .str "or"]) hL1
      generalize upd H L1 (.lst [.str "and", .str "or"]) = H1 at s1 ⊢
      by_cases c1 : w ∈ (["and", "or"] : List Str)
      case neg => exact iteNin (ss := ["and", "or"]) c1 ⟨rfl, s1, fun w' r e => by rw [hdw] at e; cases e; exact c1⟩
      refine iteIn (ss := ["and", "or"]) c1 ?_
      have hL1' := s1 _ _ hL
      have hd1 : ws.drop i = w :: ws.drop (i + 1) := hdw
      refine ⟨_, rfl, _, _, rfl, rfl, ?_⟩
      refine ⟨fun m σ H' => ∃ (p : Int), σ = [some (.ref L), some (.int p)] ∧ Same H1 H' ∧ ((∃ (ks : List Tr) (rest : List Str), (∀ k ∈ ks, Pl k) ∧ ws.drop (i + 1) = (ks.map wds).flatten ++ rest ∧ p = ((i + 1 + ((ks.map wds).flatten).length : Nat) : Int) ∧ m = rest.length + 1) ∨ (p = -1 ∧ m = 0 ∧ ∀ t rest, Pl t → ("(" : Str) :: ws.drop i ≠ wds t ++ rest)), ⟨_, _, rfl, .refl _, .inl ⟨[], ws.drop (i + 1), fun k hk => (by cases hk), rfl, by simp, rfl⟩⟩, ?_⟩
      rintro m σ H2 ⟨p, rfl, s2, hp⟩
      have hL2 := s2 _ _ hL1'
      have s02 := s1.trans s2
      rcases hp with ⟨ks, rest, hks, hrest, rfl, rfl⟩ | ⟨rfl, rfl, hno⟩
      case inr =>
        refine ⟨_, rfl, 1, rfl, rfl, _, rfl, iteNS rfl (iteF ⟨fun _ _ => False, ⟨_, rfl, 1, rfl, rfl, _, rfl, iteD rfl ⟨1, rfl, k _ (-1) s02 (.inr ⟨hno, rfl⟩)⟩⟩, fun _ _ z => z.elim⟩)⟩
      obtain ⟨hdp, hpl⟩ := drop_at hrest hlt
      generalize hF : ((ks.map wds).flatten).length = q at hdp hpl
      refine ⟨_, rfl, 1, rfl, rfl, _, rfl, iteNY (fun z => by have := V.int.inj z; omega) ?_⟩
      have seq : ∀ t rest', Pl t → ("(" : Str) :: ws.drop i = wds t ++ rest' → ∃ k2 : List Tr, (∀ k ∈ k2, Pl k) ∧ rest = (k2.map wds).flatten ++ (")" : Str) :: rest' := fun t rest' ht et => by
        rw [hd1] at et
        obtain ⟨ks', hk', e'⟩ := brk_mny c1 ht et
        rw [hrest] at e'
        obtain ⟨k2, e1, e2⟩ := seq_pre hks hk' e'
        exact ⟨k2, fun k hk => hk' k (by rw [e1]; simp [hk]), e2⟩
      cases rest with
      | nil =>
        have hle := drop_nil hdp
        refine ⟨_, rfl, _, rfl, .inl ⟨L, _, rfl, .inl (SqL.of hL2), _, _, rfl, rfl, _, rfl, iteN (fun z => by rw [hlm] at z; omega) (iteF ?_)⟩⟩
        refine ⟨fun _ _ => False, ⟨_, rfl, 1, rfl, rfl, _, rfl, iteN (fun z => by have := V.int.inj z; omega) ?_⟩, fun _ _ z => z.elim⟩
        refine ⟨_, rfl, _, rfl, .inl ⟨L, _, rfl, .inl (SqL.of hL2), _, _, rfl, rfl, _, rfl, iteD (by rw [hlm]; omega) ⟨1, rfl, k _ (-1) s02 (.inr ⟨fun t rest' ht et => ?_, rfl⟩)⟩⟩⟩
        obtain ⟨k2, _, e2⟩ := seq t rest' ht et
        simp at e2
      | cons w' r' =>
        obtain ⟨hlt', hgi', hdr'⟩ := at_drop hdp
        refine ⟨_, rfl, _, rfl, .inl ⟨L, _, rfl, .inl (SqL.of hL2), _, _, rfl, rfl, _, rfl, iteD (by rw [hlm]; omega) ?_⟩⟩
        refine ⟨_, rfl, _, rfl, L, _, _, .str w', rfl, rfl, SqL.of hL2, atI_nat (j := i + 1 + q) (by rw [List.getElem?_map, hgi']; rfl), rfl, _, rfl, ?_⟩
        by_cases c2 : w' = ")"
        · subst c2
          refine iteNS rfl ?_
          refine ⟨fun σ' H' => σ' = [some (.ref L), some (.int ((i + 1 + q : Nat) : Int))] ∧ H' = H2, ⟨_, rfl, 1, rfl, rfl, _, rfl, iteN (fun z => by have := V.int.inj z; omega) ?_⟩, ?_⟩
          · exact ⟨_, rfl, _, rfl, .inl ⟨L, _, rfl, .inl (SqL.of hL2), _, _, rfl, rfl, _, rfl, iteN (fun z => by rw [hlm] at z; omega) ⟨rfl, rfl⟩⟩⟩
          rintro _ _ ⟨rfl, rfl⟩
          refine ⟨_, rfl, _, _, rfl, rfl, k _ _ s02 (.inl ⟨.node (.many w) ks, r', (PlF.many (by simpa using c1) (by have := len_flat ks; omega) hks).pl, ?_, ?_⟩)⟩
          · rw [hd1, hrest, wds_many]; simp
          · rw [wds_many]
            simp only [List.length_cons, List.length_append, List.length_nil, hF]
            push_cast
            omega
        · refine iteNY (fun z => c2 (V.str.inj z)) ?_
          refine ⟨_, fun σ' H' h' => h', ?_⟩
          have hwt' : wt (ws.drop (i + 1 + q)) < n := Nat.lt_of_le_of_lt (wt_drop (by omega)) hwt
          refine ⟨_, rfl, _, rfl, L, ws, i + 1 + q, _, rfl, rfl, hL2, hgw, hwl, by omega, hwt', fun H3 r s3 he => ?_⟩
          rw [hdp] at he
          rcases he with ⟨t, rest2, ht, e2, rfl⟩ | ⟨hn, rfl⟩
          · have hne := List.length_pos_iff.mpr (wds_ne t)
            have hl2 := congrArg List.length e2
            rw [List.length_append, List.length_cons] at hl2
            refine ⟨rest2.length + 1, by simp; omega, _, rfl, s2.trans s3, .inl ⟨ks ++ [t], rest2, fun k hk => ?_, ?_, ?_, rfl⟩⟩
            · rcases List.mem_append.mp hk with hk | hk
              · exact hks k hk
              · cases List.mem_singleton.mp hk; exact ht
            · rw [hrest, e2]; simp
            · simp only [List.map_append, List.flatten_append, List.length_append, List.map_cons, List.map_nil, List.flatten_cons, List.flatten_nil, List.append_nil, hF]
              push_cast
              omega
          · refine ⟨0, by simp, _, rfl, s2.trans s3, .inr ⟨rfl, rfl, fun t rest' ht et => ?_⟩⟩
            obtain ⟨k2, hk2, e2⟩ := seq t rest' ht et
            cases k2 with
            | nil => simp at e2; exact c2 e2.1
            | cons k0 k2 =>
              rw [List.map_cons, List.flatten_cons, List.append_assoc] at e2
              exact hn k0 _ (hk2 k0 (by simp)) e2
    rintro _ H1 ⟨rfl, s1, no1⟩
    have hL1 := s1 _ _ hL
    refine ⟨_, rfl, _, rfl, L, ws, i, _, rfl, rfl, hL1, hgw, hwl, hi, hwt, fun H2 r s2 he => ?_⟩
    have hL2 := s2 _ _ hL1
    have s02 := s1.trans s2
    refine ⟨fun σ' H' => ∃ (x : Tr) (c : Str) (r2 : List Str), σ' = [some (.ref L), some (.int ((i + (wds x).length : Nat) : Int))] ∧ Same H2 H' ∧ Pl x ∧ ws.drop i = wds x ++ c :: r2 ∧ c ∈ (["until", "since", "within"] : List Str), ?_, ?_⟩
    · rcases he with ⟨x, r1, hx, e1, rfl⟩ | ⟨hn, rfl⟩
      case inr => exact ⟨_, rfl, 1, rfl, rfl, _, rfl, iteD rfl ⟨1, rfl, k _ (-1) s02 (.inr ⟨fun t rest ht => brk_no no1 hn ht, rfl⟩)⟩⟩
      obtain ⟨hd2, hl2⟩ := drop_at e1 hi
      have fails : ∀ H', Same H2 H' → (∀ c r2, r1 = c :: r2 → c ∉ (["until", "since", "within"] : List Str)) → Q (.int (-1)) H' := fun H' s' hc => by
        refine k _ (-1) (s02.trans s') (.inr ⟨fun t rest ht et => ?_, rfl⟩)
        rcases brk_two hx e1 ht et with ⟨c, b, h1, _, h3⟩ | ⟨m, b, _, _, h3⟩
        · exact hc _ _ h3 ((by decide +kernel : ∀ w ∈ W2, w ∈ (["until", "since", "within"] : List Str)) c h1)
        · exact hc _ _ h3 (by decide +kernel)
      refine ⟨_, rfl, 1, rfl, rfl, _, rfl, iteN (fun z => by have := V.int.inj z; omega) ?_⟩
      cases r1 with
      | nil =>
        have hle := drop_nil hd2
        exact ⟨_, rfl, _, rfl, .inl ⟨L, _, rfl, .inl (SqL.of hL2), _, _, rfl, rfl, _, rfl, iteD (by rw [hlm]; omega) ⟨1, rfl, fails _ (.refl _) fun c r2 z => by cases z⟩⟩⟩
      | cons c r2 =>
        obtain ⟨hlt, hgi, hdr⟩ := at_drop hd2
        refine ⟨_, rfl, _, rfl, .inl ⟨L, _, rfl, .inl (SqL.of hL2), _, _, rfl, rfl, _, rfl, iteN (fun z => by rw [hlm] at z; omega) ?_⟩⟩
        refine ⟨_, rfl, _, rfl, L, _, _, .str c, rfl, rfl, SqL.of hL2, atI_nat (j := i + (wds x).length) (by rw [List.getElem?_map, hgi]; rfl), by rw [sizeLine_eq]; simp, fun L3 hL3 => ⟨L3, _, rfl, .inl (SqL.of upd_same), rfl, rfl, _, rfl, ?_⟩⟩
        have s3 := same_upd (o := .lst [.str "until", .str "since", .str "within"]) hL3
        generalize upd H2 L3 (.lst [.str "until", .str "since", .str "within"]) = H3 at s3 ⊢
        by_cases hc : c ∈ (["until", "since", "within"] : List Str)
        · exact iteYes (ss := ["until", "since", "within"]) hc ⟨x, c, r2, rfl, s3, hx, e1, hc⟩
        · exact iteNot (ss := ["until", "since", "within"]) hc ⟨1, rfl, fails _ s3 fun c' r' z => by cases z; exact hc⟩
    rintro _ H3 ⟨x, c, r2, rfl, s3, hx, e1, hc⟩
    have hL3 := s3 _ _ hL2
    have s03 := s02.trans s3
    obtain ⟨hd2, hl2⟩ := drop_at e1 hi
    obtain ⟨hlt, hgi, hdr⟩ := at_drop hd2
    refine ⟨fun σ' H' => ∃ (p : Nat) (f : Tr → Tr), σ' = [some (.ref L), some (.int (p : Int))] ∧ Same H3 H' ∧ p + 1 ≤ ws.length ∧ i ≤ p ∧ (∀ b rest, Pl b → ws.drop (p + 1) = wds b ++ (")" : Str) :: rest → Pl (f b) ∧ ("(" : Str) :: ws.drop i = wds (f b) ++ rest ∧ i + (wds (f b)).length = p + 1 + (wds b).length + 2) ∧ ∀ t rest, Pl t → ("(" : Str) :: ws.drop i = wds t ++ rest → ∃ b, Pl b ∧ ws.drop (p + 1) = wds b ++ (")" : Str) :: rest, ?_, ?_⟩
    · refine ⟨_, rfl, _, rfl, L, _, _, .str c, rfl, rfl, SqL.of hL3, atI_nat (j := i + (wds x).length) (by rw [List.getElem?_map, hgi]; rfl), rfl, _, rfl, ?_⟩
      by_cases cw : c = "within"
      · subst cw
        refine iteD rfl ⟨_, rfl, _, _, rfl, rfl, ?_⟩
        have fails : ∀ H', Same H3 H' → (∀ m r, (0 ≤ m ∧ m ≤ 5) → r2 ≠ strI m :: r) → Q (.int (-1)) H' := fun H' s' hc => by
          refine k _ (-1) (s03.trans s') (.inr ⟨fun t rest ht et => ?_, rfl⟩)
          rcases brk_two hx e1 ht et with ⟨c, b, h1, _, h3⟩ | ⟨m, b, h1, _, h3⟩
          · obtain ⟨e4, _⟩ := List.cons.inj h3
            exact absurd h1 (e4 ▸ (by decide +kernel))
          · exact hc m _ h1 (List.cons.inj h3).2
        cases r2 with
        | nil =>
          have hle := drop_nil hdr
          exact ⟨_, rfl, _, rfl, .inl ⟨L, _, rfl, .inl (SqL.of hL3), _, _, rfl, rfl, _, rfl, iteD (by rw [hlm]; omega) ⟨1, rfl, fails _ (.refl _) fun m r _ z => by cases z⟩⟩⟩
        | cons d r3 =>
          obtain ⟨hlt2, hgi2, hdr2⟩ := at_drop hdr
          refine ⟨_, rfl, _, rfl, .inl ⟨L, _, rfl, .inl (SqL.of hL3), _, _, rfl, rfl, _, rfl, iteN (fun z => by rw [hlm] at z; omega) ?_⟩⟩
          refine ⟨_, rfl, _, rfl, L, _, _, .str d, rfl, rfl, SqL.of hL3, atI_nat (j := i + (wds x).length + 1) (by rw [List.getElem?_map, hgi2]; rfl), by rw [sizeLine_eq]; simp, fun L4 hL4 => ⟨L4, _, rfl, .inl (SqL.of upd_same), rfl, rfl, _, rfl, ?_⟩⟩
          have s4 := same_upd (o := .lst [.str "0", .str "1", .str "2", .str "3", .str "4", .str "5"]) hL4
          generalize upd H3 L4 (.lst [.str "0", .str "1", .str "2", .str "3", .str "4", .str "5"]) = H4 at s4 ⊢
          by_cases hd : d ∈ (["0", "1", "2", "3", "4", "5"] : List Str)
          · obtain ⟨m, hmm, em⟩ := dig_in d hd
            have hm : 0 ≤ m ∧ m ≤ 5 := by
              simp only [List.mem_cons, List.not_mem_nil, or_false] at hmm
              omega
            subst em
            refine iteYes (ss := ["0", "1", "2", "3", "4", "5"]) hd ?_
            refine ⟨i + (wds x).length + 1, fun b => .node (.wit m) [x, b], rfl, s4, by omega, by omega, fun b rest hb eb => ?_, fun t rest ht et => ?_⟩
            · rw [hdr2] at eb
              refine ⟨(PlF.wit hm hx hb).pl, ?_, ?_⟩
              · rw [e1, eb, wds_wit]; simp
              · rw [wds_wit]; simp; omega
            · rcases brk_two hx e1 ht et with ⟨c, b, h1, _, h3⟩ | ⟨m', b, h1, h2, h3⟩
              · obtain ⟨e4, _⟩ := List.cons.inj h3
                exact absurd h1 (e4 ▸ (by decide +kernel))
              · obtain ⟨_, e5⟩ := List.cons.inj h3
                obtain ⟨_, e6⟩ := List.cons.inj e5
                exact ⟨b, h2, by rw [hdr2, e6]⟩
          · exact iteNot (ss := ["0", "1", "2", "3", "4", "5"]) hd ⟨1, rfl, fails _ s4 fun m r hm z => by
              obtain ⟨e5, _⟩ := List.cons.inj z
              subst e5
              exact hd (by rcases (show m = 0 ∨ m = 1 ∨ m = 2 ∨ m = 3 ∨ m = 4 ∨ m = 5 by omega) with rfl | rfl | rfl | rfl | rfl | rfl <;> decide +kernel)⟩
      · have hc2 : c ∈ W2 := by
          simp only [List.mem_cons, List.not_mem_nil, or_false] at hc
          rcases hc with rfl | rfl | rfl
          · decide +kernel
          · decide +kernel
          · exact absurd rfl cw
        refine iteN (fun z => cw (V.str.inj z)) ⟨i + (wds x).length, fun b => .node (.op c) [x, b], rfl, .refl _, by omega, by omega, fun b rest hb eb => ?_, fun t rest ht et => ?_⟩
        · rw [hdr] at eb
          refine ⟨(PlF.op2 hc2 hx hb).pl, ?_, ?_⟩
          · rw [e1, eb, wds_op2 hc2]; simp
          · rw [wds_op2 hc2]; simp; omega
        · rcases brk_two hx e1 ht et with ⟨c', b, h1, h2, h3⟩ | ⟨m', b, h1, h2, h3⟩
          · obtain ⟨_, e5⟩ := List.cons.inj h3
            exact ⟨b, h2, by rw [hdr, e5]⟩
          · exact absurd (List.cons.inj h3).1 cw
    rintro _ H4 ⟨p, f, rfl, s4, hp1, hp2, hyes, hall⟩
    have hL4 := s4 _ _ hL3
    have s04 := s03.trans s4
    have hwt' : wt (ws.drop (p + 1)) < n := Nat.lt_of_le_of_lt (wt_drop (by omega)) hwt
    refine ⟨_, rfl, _, rfl, _, _, rfl, rfl, L, ws, p + 1, _, rfl, by push_cast; rfl, hL4, hgw, hwl, hp1, hwt', fun H5 r5 s5 he5 => ?_⟩
    have hL5 := s5 _ _ hL4
    have s05 := s04.trans s5
    have fails : (∀ b rest, Pl b → ws.drop (p + 1) ≠ wds b ++ (")" : Str) :: rest) → Q (.int (-1)) H5 := fun hc => k _ (-1) s05 (.inr ⟨fun t rest ht et => by
      obtain ⟨b, hb, eb⟩ := hall t rest ht et
      exact hc b rest hb eb, rfl⟩)
    refine ⟨fun σ' H' => ∃ (b : Tr) (rest : List Str), σ' = [some (.ref L), some (.int ((p + 1 + (wds b).length : Nat) : Int))] ∧ H' = H5 ∧ Pl b ∧ ws.drop (p + 1) = wds b ++ (")" : Str) :: rest, ?_, ?_⟩
    · rcases he5 with ⟨b, r1, hb, eb, rfl⟩ | ⟨hn, rfl⟩
      case inr => exact ⟨_, rfl, 1, rfl, rfl, _, rfl, iteD rfl ⟨1, rfl, fails fun b rest hb => hn b _ hb⟩⟩
      obtain ⟨hd6, hl6⟩ := drop_at eb hp1
      refine ⟨_, rfl, 1, rfl, rfl, _, rfl, iteN (fun z => by have := V.int.inj z; omega) ?_⟩
      cases r1 with
      | nil =>
        have hle := drop_nil hd6
        refine ⟨_, rfl, _, rfl, .inl ⟨L, _, rfl, .inl (SqL.of hL5), _, _, rfl, rfl, _, rfl, iteD (by rw [hlm]; push_cast; omega) ⟨1, rfl, fails fun b' rest hb' z => ?_⟩⟩⟩
        rw [eb] at z
        exact absurd (uniq hb hb' z).2 (by simp)
      | cons d r2 =>
        obtain ⟨hlt7, hgi7, hdr7⟩ := at_drop hd6
        refine ⟨_, rfl, _, rfl, .inl ⟨L, _, rfl, .inl (SqL.of hL5), _, _, rfl, rfl, _, rfl, iteN (fun z => by rw [hlm] at z; push_cast at z; omega) ?_⟩⟩
        refine ⟨_, rfl, _, rfl, L, _, _, .str d, rfl, rfl, SqL.of hL5, atI_nat (j := p + 1 + (wds b).length) (by rw [List.getElem?_map, hgi7]; rfl), rfl, _, rfl, ?_⟩
        by_cases cd : d = ")"
        · subst cd
          exact iteNS rfl ⟨b, r2, rfl, rfl, hb, eb⟩
        · refine iteNY (fun z => cd (V.str.inj z)) ⟨1, rfl, fails fun b' rest hb' z => ?_⟩
          rw [eb] at z
          exact cd (List.cons.inj (uniq hb hb' z).2).1
    rintro _ _ ⟨b, rest, rfl, rfl, hb, eb⟩
    obtain ⟨q1, q2, q3⟩ := hyes b rest hb eb
    exact ⟨_, rfl, _, _, rfl, rfl, k _ _ s05 (.inl ⟨f b, rest, q1, q2, by push_cast; omega⟩)⟩
end KK

set_option Elab.async false
set_option linter.all false
set_option maxRecDepth 100000
set_option maxHeartbeats 8000000
namespace KK
open PySem PySem.Spec L2 L3
theorem inv_hd {t : Tr} {w : Str} {r rest : List Str} (h : Inv w r t rest) (hw : w ∈ HD9) : ∃ t1, Pl t1 ∧ r = wds t1 ++ rest := by
  cases h with
  | yes => exact absurd hw (by decide +kernel)
  | sign h => exact absurd hw (plain_no h).1
  | op1 h ht => exact ⟨_, ht, rfl⟩
  | many _ _ _ => exact absurd hw (by decide +kernel)
  | op2 _ _ _ => exact absurd hw (by decide +kernel)
  | wit _ _ _ => exact absurd hw (by decide +kernel)
theorem plain_dec {w : Str} (h1 : w ∉ HD9) (h2 : w ≠ "yes") (h3 : isNameS w = true) (h4 : w ∉ (["until", "since", "within", "and", "or"] : List Str)) : plainS w :=
  ⟨h3, h2, h1, fun hb => by
    rcases (by decide +kernel : ∀ w ∈ BES, w ∈ (["until", "since", "within", "and", "or"] : List Str) ∨ isNameS w = false) w hb with q | q
    · exact h4 q
    · rw [q] at h3; cases h3⟩
theorem zz__law_end {K : PySem.W.Frag} {a : Adr} {vs : List V} {H : Hp} {Q : VK} {E : XK} (h : sp__law_end 0 K a vs H Q E) : False := by
  obtain ⟨_, _, _, _, _, _, _, _, _, _, hm, _⟩ := h
  omega
theorem ok__law_end {P : Program} {w : World} {K : PySem.W.Frag} {mg : Str → Option Value} {base : Heap} {a : Adr} (T : Txt K mg a) (hw : w.params = a.Pm) : ∀ n : Nat, FnOk P w K mg base CX0 (2 * n + 2) a._law_end a._law_end_fd ["_law_words", "_law_at"] (sp__law_end n K a) := by
  have G__law_is_name := ok__law_is_name (P := P) (w := w) (base := base) T hw
  intro n
  induction n with
  | zero => exact ⟨fun _ _ _ _ h => (zz__law_end h).elim, fun _ _ _ _ _ _ _ _ _ _ _ _ _ h => (zz__law_end h).elim⟩
  | succ n G__law_end =>
    have G__law_end_of_brackets := ok__law_end_of_brackets (P := P) (w := w) (base := base) T hw n G__law_end
    refine T.f__law_end.ok sc__law_end (fun vs H Q E h => ?_) (fun cdv A outer s H vs Q E hr h => ?_)
    · obtain ⟨L, ws, i, j, rfl, _⟩ := h
      rfl
    · obtain ⟨L, ws, i, j, rfl, rfl, hL, hgw, hwl, hi, hwt, k⟩ := h
      refine ⟨_, (@pss_cons _ _ _ _ _ (@ps_if _ _ _ _ _ _ _ _ (@pt_cmpR _ _ _ _ _ _ _ _ op_ge
      (pv 1)
      (pe_callB (call_lenK (K := K) rfl) rfl T.b_len PyProof.Rows.Boot.«len» (@pa_cons _ _ _ _ _ (pv 0)
      pa_nil
      (by rfl)))
      (nomark _))
      (@pss_one _ _ _ (@ps_ret _ _ _ _ (pe_un un_neg pe_int)))
      pss_nil)
      (@pss_cons _ _ _ _ _ (@ps_set _ _ (2) _ _ _ _ sc__law_end.nd
      rfl
      (by first | exact Or.inl rfl | exact Or.inr rfl)
      (@pe_ix _ _ _ _ _ _ _ (ix_listK (K := K) rfl)
      (pv 0)
      (pv 1)
      (fun _ _ => rfl))
      (by rfl)
      (by first | exact .inl rfl | exact .inr rfl | assumption))
      (@pss_cons _ _ _ _ _ (@ps_if _ _ _ _ _ _ _ _ (@pt_cmpR _ _ _ _ _ _ _ _ (op_inK (K := K) rfl)
      (pv 2)
      (@pe_lst _ _ _ _ (@pa_c _ _ _ _ _ pe_str
      (@pa_c _ _ _ _ _ pe_str
      (@pa_c _ _ _ _ _ pe_str
      (@pa_c _ _ _ _ _ pe_str
      (@pa_c _ _ _ _ _ pe_str
      (@pa_c _ _ _ _ _ pe_str
      (@pa_c _ _ _ _ _ pe_str
      (@pa_c _ _ _ _ _ pe_str
      (@pa_c _ _ _ _ _ pe_str
      pa_nil
      (by rfl))
      (by rfl))
      (by rfl))
      (by rfl))
      (by rfl))
      (by rfl))
      (by rfl))
      (by rfl))
      (by rfl)))
      (by with_unfolding_all rfl))
      (@pss_one _ _ _ (@ps_ret _ _ _ _ (pe_call G__law_end (hr.mono (show _ ≤ 2 * n + 3 by omega)) rfl T.g__law_end T.f__law_end.kp T.n__law_end .nil pass0 (@pa_cons _ _ _ _ _ (pv 0)
      (@pa_cons _ _ _ _ _ (@pe_op _ _ _ _ _ _ _ _ op_add
      (pv 1)
      pe_int)
      pa_nil
      (by rfl))
      (by rfl)))))
      pss_nil)
      (@pss_cons _ _ _ _ _ (@ps_if _ _ _ _ _ _ _ _ (@pt_cmpR _ _ _ _ _ _ _ _ op_eq
      (pv 2)
      pe_str
      (nomark _))
      (@pss_one _ _ _ (@ps_ret _ _ _ _ (pe_call G__law_end_of_brackets (hr.mono (show _ ≤ 2 * n + 3 by omega)) rfl T.g__law_end_of_brackets T.f__law_end_of_brackets.kp T.n__law_end_of_brackets .nil pass0 (@pa_cons _ _ _ _ _ (pv 0)
      (@pa_cons _ _ _ _ _ (@pe_op _ _ _ _ _ _ _ _ op_add
      (pv 1)
      pe_int)
      pa_nil
      (by rfl))
      (by rfl)))))
      pss_nil)
      (@pss_cons _ _ _ _ _ (@ps_if _ _ _ _ _ _ _ _ (PW.pt (pw_or (@pt_cmpR _ _ _ _ _ _ _ _ op_eq
      (pv 2)
      pe_str
      (nomark _)) (pw_or1 (PW.pt (pw_and (pt_val (pe_call G__law_is_name (hr.mono (show _ ≤ 2 * n + 3 by omega)) rfl T.g__law_is_name T.f__law_is_name.kp T.n__law_is_name .nil pass0 (@pa_cons _ _ _ _ _ (pv 2)
      pa_nil
      (by rfl)))) (pw_and1 (@pt_cmpR _ _ _ _ _ _ _ _ (op_notInK (K := K) rfl)
      (pv 2)
      (@pe_lst _ _ _ _ (@pa_c _ _ _ _ _ pe_str
      (@pa_c _ _ _ _ _ pe_str
      (@pa_c _ _ _ _ _ pe_str
      (@pa_c _ _ _ _ _ pe_str
      (@pa_c _ _ _ _ _ pe_str
      pa_nil
      (by rfl))
      (by rfl))
      (by rfl))
      (by rfl))
      (by rfl)))
      (by with_unfolding_all rfl))))))))
      (@pss_one _ _ _ (@ps_ret _ _ _ _ (@pe_op _ _ _ _ _ _ _ _ op_add
      (pv 1)
      pe_int)))
      pss_nil)
      (@pss_one _ _ _ (@ps_ret _ _ _ _ (pe_un un_neg pe_int)))))))), ?_⟩
      have hlm : (ws.map V.str).length = ws.length := List.length_map ..
      refine ⟨_, rfl, _, rfl, .inl ⟨L, _, rfl, .inl (SqL.of hL), _, _, rfl, rfl, _, rfl, ?_⟩⟩
      refine ite2 (fun c => ⟨1, rfl, k _ (-1) (.refl _) (.inr ⟨fun t rest ht et => ?_, rfl⟩)⟩) (fun c => ?_)
      · have hle : ws.length ≤ i := by have := of_decide_eq_true c; rw [hlm] at this; omega
        rw [List.drop_eq_nil_of_le hle] at et
        exact wds_ne t (List.append_eq_nil_iff.mp et.symm).1
      have hlt : i < ws.length := by
        by_cases h : i < ws.length
        · exact h
        · exact absurd (decide_eq_true (by rw [hlm]; omega)) c
      have hdw := List.drop_eq_getElem_cons hlt
      have hgi := List.getElem?_eq_getElem hlt
      have hgw0 := hgw _ (List.getElem_mem hlt)
      generalize ws[i] = w at hdw hgi hgw0
      refine ⟨_, rfl, _, rfl, L, _, _, .str w, rfl, rfl, SqL.of hL, atI_nat (j := i) (by rw [List.getElem?_map, hgi]; rfl), ?_⟩
      rw [hdw] at k hwt
      generalize hr0 : ws.drop (i + 1) = r at k hwt hdw
      refine ⟨_, rfl, by rw [sizeLine_eq]; simp, fun L1 hL1 => ⟨L1, _, rfl, .inl (SqL.of upd_same), rfl, rfl, _, rfl, ?_⟩⟩
      have s1 := same_upd (o := .lst [.str "not", .str "next", .str "always", .str "ever", .str "before", .str "once", .str "sofar", .str "all", .str "some"]) hL1
      generalize upd H L1 (.lst [.str "not", .str "next", .str "always", .str "ever", .str "before", .str "once", .str "sofar", .str "all", .str "some"]) = H1 at s1 ⊢
      have hL' := s1 _ _ hL
      by_cases c1 : w ∈ HD9
      · have hop : opens w = true := by simp [opens, c1]
        rw [wt_cons, hop, if_pos rfl] at hwt
        refine iteIn (ss := HD9) c1 ⟨_, rfl, _, rfl, _, _, rfl, rfl, L, ws, i + 1, _, rfl, by push_cast; rfl, hL', hgw, hwl, hlt, by rw [hr0]; omega, fun H2 q s2 he => k _ q (s1.trans s2) ?_⟩
        rw [hr0] at he
        have h1 := hd_w1 w c1
        rcases he with ⟨t, rest, ht, e, rfl⟩ | ⟨hn, rfl⟩
        · exact .inl ⟨.node (.op w) [t], rest, (PlF.op1 h1 ht).pl, by rw [wds_op1 h1, e]; rfl, by rw [wds_op1 h1, List.length_cons]; push_cast; omega⟩
        · refine .inr ⟨fun t rest ht et => ?_, rfl⟩
          obtain ⟨t1, h2, h3⟩ := inv_hd (inv_of ht et) c1
          exact hn t1 rest h2 h3
      refine iteNin (ss := HD9) c1 ?_
      refine ⟨_, rfl, rfl, _, rfl, ?_⟩
      by_cases c2 : w = "("
      · subst c2
        rw [wt_cons, op_op, if_pos rfl] at hwt
        refine iteD rfl ⟨_, rfl, _, rfl, _, _, rfl, rfl, L, ws, i + 1, _, rfl, by push_cast; rfl, hL', hgw, hwl, hlt, by rw [hr0]; omega, fun H2 q s2 he => k _ q (s1.trans s2) ?_⟩
        rw [hr0, show (((i + 1 : Nat) : Int) - 1) = (i : Int) by push_cast; omega] at he
        exact he
      refine iteN (fun z => c2 (V.str.inj z)) ?_
      refine ⟨_, rfl, rfl, _, rfl, ?_⟩
      by_cases c3 : w = "yes"
      · subst c3
        exact iteD rfl ⟨_, rfl, _, _, rfl, rfl, k _ _ s1 (.inl ⟨.node .yes [], r, PlF.yes.pl, by rw [wds_yes]; rfl, by rw [wds_yes]; rfl⟩)⟩
      refine iteN (fun z => c3 (V.str.inj z)) ?_
      have none : ¬ plainS w → ∀ H', Same H H' → Q (.int (-1)) H' := fun hp H' s' => k _ (-1) s' (.inr ⟨fun t rest ht et => by
        rcases (inv_of ht et).fst.2.2 with h | h | h | h
        · exact c1 (w1_hd w h)
        · exact c2 h
        · exact c3 h
        · exact hp h, rfl⟩)
      refine ⟨_, rfl, w, rfl, Nat.le_trans hgw0.2.1 (by decide), hgw0.2.2, fun H2 s2 => ⟨_, rfl, ?_⟩⟩
      have s02 := s1.trans s2
      cases c4 : isNameS w with
      | false => exact iteF ⟨1, rfl, none (fun hp => by rw [hp.1] at c4; cases c4) _ s02⟩
      | true =>
        refine iteT ⟨_, rfl, by rw [sizeLine_eq]; simp, fun L3 hL3 => ⟨L3, _, rfl, .inl (SqL.of upd_same), rfl, rfl, _, rfl, ?_⟩⟩
        have s3 := s02.trans (same_upd (o := .lst [.str "until", .str "since", .str "within", .str "and", .str "or"]) hL3)
        generalize upd H2 L3 (.lst [.str "until", .str "since", .str "within", .str "and", .str "or"]) = H3 at s3 ⊢
        by_cases c5 : w ∈ (["until", "since", "within", "and", "or"] : List Str)
        · exact iteYes (ss := ["until", "since", "within", "and", "or"]) c5 ⟨1, rfl, none (fun hp => hp.2.2.2 ((by decide +kernel : ∀ w ∈ (["until", "since", "within", "and", "or"] : List Str), w ∈ BES) w c5)) _ s3⟩
        · have hp := plain_dec c1 c3 c4 c5
          exact iteNot (ss := ["until", "since", "within", "and", "or"]) c5 ⟨_, rfl, _, _, rfl, rfl, k _ _ s3 (.inl ⟨.node (.sign w) [], r, (PlF.sign hp).pl, by rw [wds_sign]; rfl, by rw [wds_sign]; rfl⟩)⟩
end KK

set_option Elab.async false
set_option linter.all false
set_option maxRecDepth 100000
set_option maxHeartbeats 8000000
namespace KK
open PySem PySem.Spec L2 L3
abbrev CH14 : List Str := ["(", ")", "and", "or", "until", "within", "3", "6", "03", "not", "yes", "all", "q", "ninelette"]
abbrev CH21 : List Str := ["(", ")", "and", "or", "until", "within", "3", "6", "03", "not", "yes", "all", "q", "ninelette", "Q", "q1", "", "since", "some", "-1", "sofar"]
theorem gw_dec {w : Str} (h : (w.cps.toList.all (fun c => decide (c ≠ 32)) && decide (w.length ≤ 9) && PyData.strOk w) = true) : GW w := by
  simp only [Bool.and_eq_true] at h
  obtain ⟨⟨h1, h2⟩, h3⟩ := h
  refine ⟨fun hm => ?_, of_decide_eq_true h2, h3⟩
  have := List.all_eq_true.mp h1 32 hm
  simp at this
theorem ch_gw : ∀ w ∈ CH21, GW w := fun w hw => gw_dec ((by decide +kernel : ∀ w ∈ CH21, (w.cps.toList.all (fun c => decide (c ≠ 32)) && decide (w.length ≤ 9) && PyData.strOk w) = true) w hw)
theorem cutV_fromN (xs : List V) (m : Nat) : cutV xs (some (m : Int)) none = xs.drop m := by
  by_cases h : m ≤ xs.length
  · exact cutV_from xs m h
  · have e : HT.sIx xs.length 0 (some (m : Int)) = xs.length := by
      unfold HT.sIx
      simp only []
      split <;> omega
    unfold cutV
    rw [e, List.drop_eq_nil_of_le (Nat.le_refl _), List.drop_eq_nil_of_le (by omega)]
    simp
theorem cutV_toN (xs : List V) (m : Nat) : cutV xs none (some (m : Int)) = xs.take m := by
  by_cases h : m ≤ xs.length
  · exact cutV_to xs m h
  · have e : HT.sIx xs.length xs.length (some (m : Int)) = xs.length := by
      unfold HT.sIx
      simp only []
      split <;> omega
    have e2 : HT.sIx xs.length 0 none = 0 := rfl
    unfold cutV
    rw [e, e2, List.drop_zero, List.take_of_length_le (by omega), List.take_of_length_le (by omega)]
theorem cutV_twoN (xs : List V) (m : Nat) (h : m ≤ xs.length) : cutV xs (some (m : Int)) (some ((m : Int) + 2)) = (xs.drop m).take 2 := by
  have e1 : HT.sIx xs.length 0 (some (m : Int)) = m := by
    unfold HT.sIx
    simp only []
    split <;> omega
  have e2 : HT.sIx xs.length xs.length (some ((m : Int) + 2)) = min (m + 2) xs.length := by
    unfold HT.sIx
    simp only []
    split <;> omega
  unfold cutV
  rw [e1, e2]
  by_cases h2 : m + 2 ≤ xs.length
  · rw [Nat.min_eq_left h2]; congr 1; omega
  · rw [Nat.min_eq_right (by omega), List.take_of_length_le (by rw [List.length_drop]; omega), List.take_of_length_le (by rw [List.length_drop]; omega)]
def sp__law_changed (K : PySem.W.Frag) (a : Adr) : Sp := fun vs H Q _ => ∃ (p : Addr) (ns : List Int) (L : Addr) (ws : List Str), vs = [.ref p, .ref L] ∧ H p = some (.lst (ns.map V.int)) ∧ H L = some (.lst (ws.map V.str)) ∧ L ≠ p ∧ ws ≠ [] ∧ ws.length ≤ 1000 ∧ (∀ w ∈ ws, GW w) ∧
  ∀ H' l (ws' : List Str) (ns' : List Int), SameX p H H' → H' p = some (.lst (ns'.map V.int)) → H l = none → H' l = some (.lst (ws'.map V.str)) → (∀ w ∈ ws', GW w) → ws'.length ≤ ws.length + 1 → wt ws' ≤ wt ws + 1 → Q (.ref l) H'
theorem ok__law_changed {P : Program} {w : World} {K : PySem.W.Frag} {mg : Str → Option Value} {base : Heap} {a : Adr} (T : Txt K mg a) (hw : w.params = a.Pm) : FnOk P w K mg base CX0 2 a._law_changed a._law_changed_fd ["_law_xs", "_law_words"] (sp__law_changed K a) := by
  have G__law_draw := ok__law_draw (P := P) (w := w) (base := base) T hw
  refine T.f__law_changed.ok sc__law_changed (fun vs H Q E h => ?_) (fun cdv A outer s H vs Q E hr h => ?_)
  · obtain ⟨p, ns, L, ws, rfl, _⟩ := h
    rfl
  · obtain ⟨p, ns, L, ws, rfl, hp, hL, nL, hne, hwl, hgw, k⟩ := h
    refine ⟨_, (@pss_cons _ _ _ _ _ (@ps_set _ _ (2) _ _ _ _ sc__law_changed.nd
      rfl
      (by first | exact Or.inl rfl | exact Or.inr rfl)
      (@pe_lst _ _ _ _ (@pa_c _ _ _ _ _ pe_str
      (@pa_c _ _ _ _ _ pe_str
      (@pa_c _ _ _ _ _ pe_str
      (@pa_c _ _ _ _ _ pe_str
      (@pa_c _ _ _ _ _ pe_str
      (@pa_c _ _ _ _ _ pe_str
      (@pa_c _ _ _ _ _ pe_str
      (@pa_c _ _ _ _ _ pe_str
      (@pa_c _ _ _ _ _ pe_str
      (@pa_c _ _ _ _ _ pe_str
      (@pa_c _ _ _ _ _ pe_str
      (@pa_c _ _ _ _ _ pe_str
      (@pa_c _ _ _ _ _ pe_str
      (@pa_c _ _ _ _ _ pe_str
      pa_nil
      (by rfl))
      (by rfl))
      (by rfl))
      (by rfl))
      (by rfl))
      (by rfl))
      (by rfl))
      (by rfl))
      (by rfl))
      (by rfl))
      (by rfl))
      (by rfl))
      (by rfl))
      (by rfl)))
      (by rfl)
      (by first | exact .inl rfl | exact .inr rfl | assumption))
      (@pss_cons _ _ _ _ _ (@ps_set _ _ (2) _ _ _ _ sc__law_changed.nd
      rfl
      (by first | exact Or.inl rfl | exact Or.inr rfl)
      (@pe_op _ _ _ _ _ _ _ _ op_cat
      (pv 2)
      (@pe_lst _ _ _ _ (@pa_c _ _ _ _ _ pe_str
      (@pa_c _ _ _ _ _ pe_str
      (@pa_c _ _ _ _ _ pe_str
      (@pa_c _ _ _ _ _ pe_str
      (@pa_c _ _ _ _ _ pe_str
      (@pa_c _ _ _ _ _ pe_str
      (@pa_c _ _ _ _ _ pe_str
      pa_nil
      (by rfl))
      (by rfl))
      (by rfl))
      (by rfl))
      (by rfl))
      (by rfl))
      (by rfl))))
      (by rfl)
      (by first | exact .inl rfl | exact .inr rfl | assumption))
      (@pss_cons _ _ _ _ _ (@ps_set _ _ (3) _ _ _ _ sc__law_changed.nd
      rfl
      (by first | exact Or.inl rfl | exact Or.inr rfl)
      (@pe_ix _ _ _ _ _ _ _ (ix_listK (K := K) rfl)
      (pv 2)
      (@pe_op _ _ _ _ _ _ _ _ op_mod
      (pe_call G__law_draw (hr.mono (by decide)) rfl T.g__law_draw T.f__law_draw.kp T.n__law_draw .nil pass0 (@pa_cons _ _ _ _ _ (pv 0)
      pa_nil
      (by rfl)))
      pe_int)
      (fun _ _ => rfl))
      (by rfl)
      (by first | exact .inl rfl | exact .inr rfl | assumption))
      (@pss_cons _ _ _ _ _ (@ps_set _ _ (4) _ _ _ _ sc__law_changed.nd
      rfl
      (by first | exact Or.inl rfl | exact Or.inr rfl)
      (@pe_op _ _ _ _ _ _ _ _ op_mod
      (pe_call G__law_draw (hr.mono (by decide)) rfl T.g__law_draw T.f__law_draw.kp T.n__law_draw .nil pass0 (@pa_cons _ _ _ _ _ (pv 0)
      pa_nil
      (by rfl)))
      (pe_callB (call_lenK (K := K) rfl) rfl T.b_len PyProof.Rows.Boot.«len» (@pa_cons _ _ _ _ _ (pv 1)
      pa_nil
      (by rfl))))
      (by rfl)
      (by first | exact .inl rfl | exact .inr rfl | assumption))
      (@pss_cons _ _ _ _ _ (@ps_set _ _ (5) _ _ _ _ sc__law_changed.nd
      rfl
      (by first | exact Or.inl rfl | exact Or.inr rfl)
      (@pe_op _ _ _ _ _ _ _ _ op_mod
      (pe_call G__law_draw (hr.mono (by decide)) rfl T.g__law_draw T.f__law_draw.kp T.n__law_draw .nil pass0 (@pa_cons _ _ _ _ _ (pv 0)
      pa_nil
      (by rfl)))
      pe_int)
      (by rfl)
      (by first | exact .inl rfl | exact .inr rfl | assumption))
      (@pss_cons _ _ _ _ _ (@ps_if _ _ _ _ _ _ _ _ (@pt_cmpR _ _ _ _ _ _ _ _ op_eq
      (pv 5)
      pe_int
      (nomark _))
      (@pss_one _ _ _ (@ps_ret _ _ _ _ (@pe_op _ _ _ _ _ _ _ _ op_cat
      (pe_slice (sl_listK (K := K) rfl) (pv 1) po_none (po_some (pv 4)))
      (pe_slice (sl_listK (K := K) rfl) (pv 1) (po_some (@pe_op _ _ _ _ _ _ _ _ op_add
      (pv 4)
      pe_int)) po_none))))
      pss_nil)
      (@pss_cons _ _ _ _ _ (@ps_if _ _ _ _ _ _ _ _ (@pt_cmpR _ _ _ _ _ _ _ _ op_eq
      (pv 5)
      pe_int
      (nomark _))
      (@pss_one _ _ _ (@ps_ret _ _ _ _ (@pe_op _ _ _ _ _ _ _ _ op_cat
      (@pe_op _ _ _ _ _ _ _ _ op_cat
      (pe_slice (sl_listK (K := K) rfl) (pv 1) po_none (po_some (pv 4)))
      (@pe_lst _ _ _ _ (@pa_cons _ _ _ _ _ (@pe_ix _ _ _ _ _ _ _ (ix_listK (K := K) rfl)
      (pv 1)
      (pv 4)
      (fun _ _ => rfl))
      pa_nil
      (by rfl))))
      (pe_slice (sl_listK (K := K) rfl) (pv 1) (po_some (pv 4)) po_none))))
      pss_nil)
      (@pss_cons _ _ _ _ _ (@ps_if _ _ _ _ _ _ _ _ (@pt_cmpR _ _ _ _ _ _ _ _ op_eq
      (pv 5)
      pe_int
      (nomark _))
      (@pss_one _ _ _ (@ps_ret _ _ _ _ (@pe_op _ _ _ _ _ _ _ _ op_cat
      (@pe_op _ _ _ _ _ _ _ _ op_cat
      (pe_slice (sl_listK (K := K) rfl) (pv 1) po_none (po_some (pv 4)))
      (pe_revK (K := K) rfl (pe_slice (sl_listK (K := K) rfl) (pv 1) (po_some (pv 4)) (po_some (@pe_op _ _ _ _ _ _ _ _ op_add
      (pv 4)
      pe_int))) (po_some (pe_un un_neg pe_int))))
      (pe_slice (sl_listK (K := K) rfl) (pv 1) (po_some (@pe_op _ _ _ _ _ _ _ _ op_add
      (pv 4)
      pe_int)) po_none))))
      pss_nil)
      (@pss_cons _ _ _ _ _ (@ps_if _ _ _ _ _ _ _ _ (@pt_cmpR _ _ _ _ _ _ _ _ op_eq
      (pv 5)
      pe_int
      (nomark _))
      (@pss_one _ _ _ (@ps_ret _ _ _ _ (@pe_op _ _ _ _ _ _ _ _ op_cat
      (@pe_op _ _ _ _ _ _ _ _ op_cat
      (pe_slice (sl_listK (K := K) rfl) (pv 1) po_none (po_some (pv 4)))
      (@pe_lst _ _ _ _ (@pa_cons _ _ _ _ _ (pv 3)
      pa_nil
      (by rfl))))
      (pe_slice (sl_listK (K := K) rfl) (pv 1) (po_some (pv 4)) po_none))))
      pss_nil)
      (@pss_cons _ _ _ _ _ (@ps_if _ _ _ _ _ _ _ _ (@pt_cmpR _ _ _ _ _ _ _ _ op_eq
      (pv 5)
      pe_int
      (nomark _))
      (@pss_one _ _ _ (@ps_ret _ _ _ _ (@pe_op _ _ _ _ _ _ _ _ op_cat
      (pv 1)
      (@pe_lst _ _ _ _ (@pa_cons _ _ _ _ _ (pv 3)
      pa_nil
      (by rfl))))))
      pss_nil)
      (@pss_one _ _ _ (@ps_ret _ _ _ _ (@pe_op _ _ _ _ _ _ _ _ op_cat
      (@pe_op _ _ _ _ _ _ _ _ op_cat
      (pe_slice (sl_listK (K := K) rfl) (pv 1) po_none (po_some (pv 4)))
      (@pe_lst _ _ _ _ (@pa_cons _ _ _ _ _ (pv 3)
      pa_nil
      (by rfl))))
      (pe_slice (sl_listK (K := K) rfl) (pv 1) (po_some (@pe_op _ _ _ _ _ _ _ _ op_add
      (pv 4)
      pe_int)) po_none)))))))))))))), ?_⟩
    have hlm : (ws.map V.str).length = ws.length := List.length_map ..
    refine ⟨by rw [sizeLine_eq]; simp, fun S hS => ?_⟩
    have s1 := same_upd (o := .lst [.str "(", .str ")", .str "and", .str "or", .str "until", .str "within", .str "3", .str "6", .str "03", .str "not", .str "yes", .str "all", .str "q", .str "ninelette"]) hS
    have e1 : (upd H S (.lst [.str "(", .str ")", .str "and", .str "or", .str "until", .str "within", .str "3", .str "6", .str "03", .str "not", .str "yes", .str "all", .str "q", .str "ninelette"])) S = some (.lst (CH14.map V.str)) := upd_same
    generalize upd H S (.lst [.str "(", .str ")", .str "and", .str "or", .str "until", .str "within", .str "3", .str "6", .str "03", .str "not", .str "yes", .str "all", .str "q", .str "ninelette"]) = H1 at s1 e1 ⊢
    refine ⟨_, rfl, by rw [sizeLine_eq]; simp, fun S2 hS2 => ?_⟩
    have s2 := same_upd (o := .lst [.str "Q", .str "q1", .str "", .str "since", .str "some", .str "-1", .str "sofar"]) hS2
    have e2 : (upd H1 S2 (.lst [.str "Q", .str "q1", .str "", .str "since", .str "some", .str "-1", .str "sofar"])) S2 = some (.lst [.str "Q", .str "q1", .str "", .str "since", .str "some", .str "-1", .str "sofar"]) := upd_same
    generalize upd H1 S2 (.lst [.str "Q", .str "q1", .str "", .str "since", .str "some", .str "-1", .str "sofar"]) = H2 at s2 e2 ⊢
    refine ⟨S, S2, _, _, rfl, rfl, s2 _ _ e1, e2, by rw [sizeLine_eq]; simp, fun S3 hS3 => ?_⟩
    have s3 := same_upd (o := .lst (CH14.map V.str ++ [.str "Q", .str "q1", .str "", .str "since", .str "some", .str "-1", .str "sofar"])) hS3
    have e3 : (upd H2 S3 (.lst (CH14.map V.str ++ [.str "Q", .str "q1", .str "", .str "since", .str "some", .str "-1", .str "sofar"]))) S3 = some (.lst (CH21.map V.str)) := upd_same
    generalize upd H2 S3 (.lst (CH14.map V.str ++ [.str "Q", .str "q1", .str "", .str "since", .str "some", .str "-1", .str "sofar"])) = H3 at s3 e3 ⊢
    have s03 := s1.trans (s2.trans s3)
    refine ⟨_, rfl, _, rfl, p, ns, rfl, s03 _ _ hp, fun H4 n4 ns4 x4 h4 => ⟨_, _, rfl, rfl, by simp, ?_⟩⟩
    have nS3 : S3 ≠ p := fun z => by rw [z, (s1.trans s2) _ _ hp] at hS3; cases hS3
    have e4 := x4 _ _ nS3 e3
    obtain ⟨_, v4, hv4, hm4⟩ := at_mod (ts := CH21.map V.str) n4 (by simp)
    obtain ⟨wd, hwd, rfl⟩ := List.mem_map.mp hm4
    refine ⟨S3, _, _, .str wd, rfl, rfl, SqL.of e4, hv4, ?_⟩
    have L4 := x4 _ _ nL (s03 _ _ hL)
    refine ⟨_, rfl, p, ns4, rfl, h4, fun H5 n5 ns5 x5 h5 => ?_⟩
    have L5 := x5 _ _ nL L4
    have hpos : (0 : Int) < ((ws.map V.str).length : Int) := by rw [hlm]; have := List.length_pos_iff.mpr hne; omega
    refine ⟨_, rfl, .inl ⟨L, _, rfl, .inl (SqL.of L5), _, _, rfl, rfl, hpos, ?_⟩⟩
    have q0 := Int.emod_nonneg n5 (Int.ne_of_gt hpos)
    have q1 := Int.emod_lt_of_pos n5 hpos
    refine ⟨_, rfl, p, ns5, rfl, h5, fun H6 n6 ns6 x6 h6 => ⟨_, _, rfl, rfl, by simp, ?_⟩⟩
    have L6 := x6 _ _ nL L5
    have x06 : SameX p H H6 := (Same.x s03).trans (x4.trans (x5.trans x6))
    have g0 := Int.emod_nonneg n6 (show (6 : Int) ≠ 0 by decide)
    have g1 := Int.emod_lt_of_pos n6 (show (0 : Int) < 6 by decide)
    have hwdg := ch_gw wd hwd
    clear hv4 hm4 e4 e3 s3 e2 s2 e1 s1 s03 x4 x5 x6 L4 L5 h4 h5
    obtain ⟨kk, hj⟩ := Int.eq_ofNat_of_zero_le q0
    have hk : kk < ws.length := by rw [hj, hlm] at q1; omega
    have done : ∀ H' l (ws' : List Str), Same H6 H' → H6 l = none → H' l = some (.lst (ws'.map V.str)) → (∀ w ∈ ws', w ∈ ws ∨ w = wd) → ws'.length ≤ ws.length + 1 → wt ws' ≤ wt ws + 1 → Q (.ref l) H' := fun H' l ws' s' hl0 hl hm h1 h2 =>
      k H' l ws' ns6 (x06.trans (Same.x s')) (s' _ _ h6) (x06.free (fun z => by rw [z, h6] at hl0; cases hl0) hl0) hl (fun w hw => (hm w hw).elim (hgw w) fun e => e ▸ hwdg) h1 h2
    have hsp := List.take_append_drop kk ws
    have hsplen : (ws.take kk).length + (ws.drop kk).length = ws.length := by rw [← List.length_append, hsp]
    have hspwt : wt (ws.take kk) + wt (ws.drop kk) = wt ws := by rw [← wt_app, hsp]
    have hmt : ∀ w ∈ ws.take kk, w ∈ ws := fun w hw => List.mem_of_mem_take hw
    have hmd : ∀ w ∈ ws.drop kk, w ∈ ws := fun w hw => List.mem_of_mem_drop hw
    have cT : cutV (ws.map V.str) none (some (kk : Int)) = (ws.take kk).map V.str := by rw [cutV_toN, List.map_take]
    have cF : ∀ m : Nat, cutV (ws.map V.str) (some (m : Int)) none = (ws.drop m).map V.str := fun m => by rw [cutV_fromN, List.map_drop]
    have cM : cutV (ws.map V.str) (some (kk : Int)) (some ((kk : Int) + 2)) = ((ws.drop kk).take 2).map V.str := by rw [cutV_twoN _ _ (by rw [hlm]; omega), ← List.map_drop, List.map_take]
    have c1 : n5 % ((ws.map V.str).length : Int) + 1 = ((kk + 1 : Nat) : Int) := by rw [hj]; push_cast; rfl
    have c2 : n5 % ((ws.map V.str).length : Int) + 2 = ((kk + 2 : Nat) : Int) := by rw [hj]; push_cast; rfl
    have wt1 : wt (ws.drop (kk + 1)) ≤ wt (ws.drop kk) := wt_drop (by omega)
    have ln1 : (ws.drop (kk + 1)).length ≤ (ws.drop kk).length := by rw [List.length_drop, List.length_drop]; omega
    have hmd1 : ∀ m, ∀ w ∈ ws.drop m, w ∈ ws := fun m w hw => List.mem_of_mem_drop hw
    have wone : ∀ z : Str, wt [z] ≤ 1 := fun z => by rw [wt_cons, wt_nil]; have := op_le z; omega
    -- the first part of all but one
    have head : ∀ (j : Int) (N : V → Hp → Prop), j = (kk : Int) → (∀ p1 H7, H6 p1 = none → Same H6 H7 → H7 p1 = some (.lst ((ws.take kk).map V.str)) → N (.ref p1) H7) → rSlL K (.ref L) none (some j) H6 N := fun j N hj' hN => ⟨L, _, rfl, SqL.of L6, fun p1 h1 => by
      rw [hj', cT]
      exact hN p1 _ h1 (same_upd h1) upd_same⟩
    refine ⟨_, rfl, rfl, _, rfl, ?_⟩
    by_cases w0 : n6 % 6 = 0
    · refine iteD (congrArg V.int w0) ⟨_, rfl, _, rfl, _, rfl, head _ _ hj fun p1 H7 n1 s7 e7 => ?_⟩
      refine ⟨_, rfl, _, rfl, _, _, rfl, rfl, _, rfl, L, _, rfl, SqL.of (s7 _ _ L6), fun p2 h2 => ?_⟩
      rw [c1, cF]
      have s8 := same_upd (o := .lst ((ws.drop (kk + 1)).map V.str)) h2
      refine ⟨p1, p2, _, _, rfl, rfl, s8 _ _ e7, upd_same, by rw [List.length_map, List.length_map, sizeLine_eq]; omega, fun p3 h3 => ?_⟩
      refine done _ p3 (ws.take kk ++ ws.drop (kk + 1)) (s7.trans (s8.trans (same_upd h3))) ((s7.trans s8).free h3) (by rw [upd_same, List.map_append]) (fun w hw => ?_) (by rw [List.length_append]; omega) (by rw [wt_app]; omega)
      exact .inl ((List.mem_append.mp hw).elim (hmt w) (hmd1 _ w))
    refine iteN (fun z => w0 (V.int.inj z)) ⟨_, rfl, rfl, _, rfl, ?_⟩
    have hgk := List.getElem?_eq_getElem hk
    have hdk := List.drop_eq_getElem_cons hk
    have hmk := List.getElem_mem hk
    generalize ws[kk] = wk at hgk hdk hmk
    -- head, one word, a tail
    have three : ∀ (x : Str) (m : Nat) (j : Int) (H8 : Hp) (p1 p2 : Addr), Same H6 H8 → H8 p1 = some (.lst ((ws.take kk).map V.str)) → H8 p2 = some (.lst [.str x]) → (x ∈ ws ∨ x = wd) → kk ≤ m → j = (m : Int) → rCat (.ref p1) (.ref p2) H8 fun y H9 => rSlL K (.ref L) (some j) none H9 fun z HA => rCat y z HA Q := fun x m j H8 p1 p2 s8 e1 e2 hx hm hj' => by
      subst hj'
      refine ⟨p1, p2, _, _, rfl, rfl, e1, e2, by rw [List.length_map, sizeLine_eq]; simp; omega, fun p3 h3 => ?_⟩
      have s9 := same_upd (o := .lst ((ws.take kk).map V.str ++ [.str x])) h3
      have e9 : (upd H8 p3 (.lst ((ws.take kk).map V.str ++ [.str x]))) p3 = some (.lst ((ws.take kk).map V.str ++ [.str x])) := upd_same
      generalize upd H8 p3 (.lst ((ws.take kk).map V.str ++ [.str x])) = H9 at s9 e9 ⊢
      refine ⟨L, _, rfl, SqL.of ((s8.trans s9) _ _ L6), fun p4 h4 => ?_⟩
      rw [cF]
      have sA := same_upd (o := .lst ((ws.drop m).map V.str)) h4
      have lnm : (ws.drop m).length ≤ (ws.drop kk).length := by rw [List.length_drop, List.length_drop]; omega
      have wtm : wt (ws.drop m) ≤ wt (ws.drop kk) := wt_drop hm
      refine ⟨p3, p4, _, _, rfl, rfl, sA _ _ e9, upd_same, by rw [List.length_append, List.length_map, List.length_map, sizeLine_eq]; simp only [List.length_cons, List.length_nil]; omega, fun p5 h5 => ?_⟩
      have sAll := s8.trans (s9.trans sA)
      have := wone x
      refine done _ p5 (ws.take kk ++ [x] ++ ws.drop m) (sAll.trans (same_upd h5)) (sAll.free h5) (by rw [upd_same, List.map_append, List.map_append]; rfl) (fun w hw => ?_) (by rw [List.length_append, List.length_append]; simp only [List.length_cons, List.length_nil]; omega) (by rw [wt_app, wt_app]; omega)
      rcases List.mem_append.mp hw with hw | hw
      · rcases List.mem_append.mp hw with hw | hw
        · exact .inl (hmt w hw)
        · cases List.mem_singleton.mp hw; exact hx
      · exact .inl (hmd1 _ w hw)
    by_cases w1 : n6 % 6 = 1
    · refine iteD (congrArg V.int w1) ⟨_, rfl, _, rfl, _, rfl, head _ _ hj fun p1 H7 n1 s7 e7 => ?_⟩
      refine ⟨_, rfl, _, rfl, L, _, _, .str wk, rfl, rfl, SqL.of (s7 _ _ L6), (show atI (ws.map V.str) (n5 % ((ws.map V.str).length : Int)) = some (.str wk) by rw [hj]; exact atI_nat (j := kk) (by rw [List.getElem?_map, hgk]; rfl)), by rw [sizeLine_eq]; simp, fun p2 h2 => ?_⟩
      have s8 := same_upd (o := .lst [.str wk]) h2
      obtain ⟨q1, q2, q3, q4, q5, q6, q7, q8, q9, q10⟩ := three wk kk _ _ p1 p2 (s7.trans s8) (s8 _ _ e7) upd_same (.inl hmk) (Nat.le_refl _) hj
      exact ⟨q1, q2, q3, q4, q5, q6, q7, q8, q9, fun p3 h3 => ⟨_, rfl, _, rfl, _, rfl, q10 p3 h3⟩⟩
    refine iteN (fun z => w1 (V.int.inj z)) ⟨_, rfl, rfl, _, rfl, ?_⟩
    by_cases w2 : n6 % 6 = 2
    · refine iteD (congrArg V.int w2) ⟨_, rfl, _, rfl, _, rfl, head _ _ hj fun p1 H7 n1 s7 e7 => ?_⟩
      refine ⟨_, rfl, _, rfl, _, rfl, _, rfl, _, _, rfl, rfl, _, rfl, L, _, rfl, SqL.of (s7 _ _ L6), fun p2 h2 => ?_⟩
      rw [show n5 % ((ws.map V.str).length : Int) = (kk : Int) from hj, cM]
      have s8 := same_upd (o := .lst (((ws.drop kk).take 2).map V.str)) h2
      have e8 : (upd H7 p2 (.lst (((ws.drop kk).take 2).map V.str))) p2 = some (.lst (((ws.drop kk).take 2).map V.str)) := upd_same
      generalize upd H7 p2 (.lst (((ws.drop kk).take 2).map V.str)) = H8 at s8 e8 ⊢
      refine ⟨1, rfl, _, rfl, p2, _, rfl, rfl, SqL.of e8, fun p3 h3 => ?_⟩
      rw [← List.map_reverse]
      have s9 := same_upd (o := .lst ((((ws.drop kk).take 2).reverse).map V.str)) h3
      have e9 : (upd H8 p3 (.lst ((((ws.drop kk).take 2).reverse).map V.str))) p3 = some (.lst ((((ws.drop kk).take 2).reverse).map V.str)) := upd_same
      generalize upd H8 p3 (.lst ((((ws.drop kk).take 2).reverse).map V.str)) = H9 at s9 e9 ⊢
      have h22 := List.take_append_drop 2 (ws.drop kk)
      rw [List.drop_drop] at h22
      have l22 : ((ws.drop kk).take 2).length + (ws.drop (kk + 2)).length = (ws.drop kk).length := by rw [← List.length_append, h22]
      have t22 : wt ((ws.drop kk).take 2) + wt (ws.drop (kk + 2)) = wt (ws.drop kk) := by rw [← wt_app, h22]
      have tr : wt ((ws.drop kk).take 2).reverse = wt ((ws.drop kk).take 2) := List.countP_reverse
      refine ⟨p1, p3, _, _, rfl, rfl, (s8.trans s9) _ _ e7, e9, by rw [List.length_map, List.length_map, List.length_reverse, sizeLine_eq]; omega, fun p4 h4 => ?_⟩
      have sA := same_upd (o := .lst ((ws.take kk).map V.str ++ (((ws.drop kk).take 2).reverse).map V.str)) h4
      have eA : (upd H9 p4 (.lst ((ws.take kk).map V.str ++ (((ws.drop kk).take 2).reverse).map V.str))) p4 = some (.lst ((ws.take kk).map V.str ++ (((ws.drop kk).take 2).reverse).map V.str)) := upd_same
      generalize upd H9 p4 (.lst ((ws.take kk).map V.str ++ (((ws.drop kk).take 2).reverse).map V.str)) = HA at sA eA ⊢
      have s6A := s7.trans (s8.trans (s9.trans sA))
      refine ⟨_, rfl, _, rfl, _, _, rfl, rfl, _, rfl, L, _, rfl, SqL.of (s6A _ _ L6), fun p5 h5 => ?_⟩
      first
        | rw [c2, cF]
        | rw [show ((kk : Int) + 2) = ((kk + 2 : Nat) : Int) by push_cast; rfl, cF]
      have sB := same_upd (o := .lst ((ws.drop (kk + 2)).map V.str)) h5
      refine ⟨p4, p5, _, _, rfl, rfl, sB _ _ eA, upd_same, by rw [List.length_append, List.length_map, List.length_map, List.length_map, List.length_reverse, sizeLine_eq]; omega, fun p6 h6' => ?_⟩
      have sAll := s6A.trans sB
      refine done _ p6 (ws.take kk ++ ((ws.drop kk).take 2).reverse ++ ws.drop (kk + 2)) (sAll.trans (same_upd h6')) (sAll.free h6') (by rw [upd_same, List.map_append, List.map_append]) (fun w hw => ?_) (by rw [List.length_append, List.length_append, List.length_reverse]; omega) (by rw [wt_app, wt_app, tr]; omega)
      rcases List.mem_append.mp hw with hw | hw
      · rcases List.mem_append.mp hw with hw | hw
        · exact .inl (hmt w hw)
        · exact .inl (hmd w (List.mem_of_mem_take (List.mem_reverse.mp hw)))
      · exact .inl (hmd1 _ w hw)
    refine iteN (fun z => w2 (V.int.inj z)) ⟨_, rfl, rfl, _, rfl, ?_⟩
    by_cases w3 : n6 % 6 = 3
    · refine iteD (congrArg V.int w3) ⟨_, rfl, _, rfl, _, rfl, head _ _ hj fun p1 H7 n1 s7 e7 => ?_⟩
      refine ⟨_, rfl, by rw [sizeLine_eq]; simp, fun p2 h2 => ?_⟩
      have s8 := same_upd (o := .lst [.str wd]) h2
      obtain ⟨q1, q2, q3, q4, q5, q6, q7, q8, q9, q10⟩ := three wd kk _ _ p1 p2 (s7.trans s8) (s8 _ _ e7) upd_same (.inr rfl) (Nat.le_refl _) hj
      exact ⟨q1, q2, q3, q4, q5, q6, q7, q8, q9, fun p3 h3 => ⟨_, rfl, _, rfl, _, rfl, q10 p3 h3⟩⟩
    refine iteN (fun z => w3 (V.int.inj z)) ⟨_, rfl, rfl, _, rfl, ?_⟩
    by_cases w4 : n6 % 6 = 4
    · refine iteD (congrArg V.int w4) ⟨_, rfl, _, rfl, by rw [sizeLine_eq]; simp, fun p2 h2 => ?_⟩
      have s8 := same_upd (o := .lst [.str wd]) h2
      refine ⟨L, p2, _, _, rfl, rfl, s8 _ _ L6, upd_same, by rw [List.length_map, sizeLine_eq]; simp only [List.length_cons, List.length_nil]; omega, fun p3 h3 => ?_⟩
      have := wone wd
      refine done _ p3 (ws ++ [wd]) (s8.trans (same_upd h3)) (s8.free h3) (by rw [upd_same, List.map_append]; rfl) (fun w hw => ?_) (by rw [List.length_append]; exact Nat.le_refl _) (by rw [wt_app]; omega)
      rcases List.mem_append.mp hw with hw | hw
      · exact .inl hw
      · exact .inr (List.mem_singleton.mp hw)
    refine iteN (fun z => w4 (V.int.inj z)) ?_
    refine ⟨_, rfl, _, rfl, _, rfl, head _ _ hj fun p1 H7 n1 s7 e7 => ?_⟩
    refine ⟨_, rfl, by rw [sizeLine_eq]; simp, fun p2 h2 => ?_⟩
    have s8 := same_upd (o := .lst [.str wd]) h2
    obtain ⟨q1, q2, q3, q4, q5, q6, q7, q8, q9, q10⟩ := three wd (kk + 1) _ _ p1 p2 (s7.trans s8) (s8 _ _ e7) upd_same (.inr rfl) (by omega) c1
    exact ⟨q1, q2, q3, q4, q5, q6, q7, q8, q9, fun p3 h3 => ⟨_, rfl, _, rfl, _, _, rfl, rfl, _, rfl, q10 p3 h3⟩⟩
end KK

set_option Elab.async false
set_option linter.all false
set_option maxRecDepth 100000
set_option maxHeartbeats 8000000
namespace KK
open PySem PySem.Spec L2 L3
/-- x = (e0, e1), where e1 may let an exception out -/
def tPairX (t0 : TE) (te : L2.St → Hp → VK → XK → Prop) : L2.St → Hp → VK → XK → Prop := fun σ H Q E => t0 σ H fun x H1 => te σ H1 (fun y H2 => ∀ p, H2 p = none → Q (.ref p) (upd H2 p (.tup [x, y]))) E
theorem pex_pair {X : Cx} {e0 e1 : Expr} {x1} {pos : Pos} {t0 : TE} {te : L2.St → Hp → VK → XK → Prop} (h0 : PE X.nox e0 t0) (h1 : PEx X e1 te) (hs0 : starEach [e0, e1] X.env = (false, eval e0 X.env) :: starEach [e1] X.env := by rfl) (hs1 : starEach [e1] X.env = (false, eval e1 X.env) :: starEach [] X.env := by rfl) :
    PEx X (.Tuple [e0, e1] x1 pos) (tPairX t0 te) := by
  intro pins s σ H Q E I h
  refine wpAny_Tuple_spliced ?_
  rw [hs0]
  show wpAny _ _ (spliced ((false, eval e0 X.env) :: backTo pos (starEach [e1] X.env))) _ _ s
  refine Calls.spliced_cons (wpAny_mono (h0 pins s σ H _ (I.wish _) h) (fun u s1 q => ?_) fun _ _ z => False.elim z)
  obtain ⟨x, H1, I1, r1, q1⟩ := q
  rw [hs1]
  show wpAny _ _ (spliced ((false, eval e1 X.env) :: backTo pos (starEach [] X.env))) _ _ s1
  refine Calls.spliced_cons (wpAny_mono (h1 pins s1 σ H1 _ _ I1.unwish q1) (fun u2 s2 q2 => ?_) fun _ _ z => z)
  obtain ⟨y, H2, I2, r2, q2⟩ := q2
  refine Calls.spliced_nil ?_
  have rr : Vals [x, y] [u, u2] := .cons r1 (.cons r2 .nil)
  have hf : H2 s2.heap.objs.size = none := I2.hok.fresh (Nat.le_refl _)
  refine ⟨by rw [sizeLine_eq]; simp, ?_⟩
  refine ⟨.ref s2.heap.objs.size, upd H2 s2.heap.objs.size (.tup [x, y]), I2.laid (t' := s2.toks) (fun b u e => Heap.get?_push_of_some _ e) (Nat.le_refl _) ?_, rfl, q2 _ hf⟩
  exact ⟨by rw [sizeLine_eq]; simp, [u, u2], rr, ⟨_, Heap.get?_push_size _ rfl, rfl, _, rfl⟩⟩
def tAsgX (te : L2.St → Hp → VK → XK → Prop) (i : Nat) : L2.Ends → XS → L2.St → Hp → Prop := fun D E σ H => te σ H (fun v H1 => D.nx (σ.set i (some v)) H1) (fun e c H1 => E e c σ H1)
theorem psx_set {X : Cx} {e : Expr} {pos pos' : Pos} {i : Nat} {x : Str} {te : L2.St → Hp → VK → XK → Prop} (hN : X.N.Nodup) (hi : X.N[i]? = some x) (hx : Loc X.env.scope x) (h0 : PEx X e te) (hs : swapsWith e (some (.Name x pos')) pos.line X.env = pure false := by rfl) (hf : X.fn x = true ∨ X.env.scope.names.lookup x = some .local := by first | exact .inl rfl | exact .inr rfl | assumption) :
    PSx X [.Assign [.Name x pos'] e pos] (tAsgX te i) := by
  intro pins s σ H D E I h
  refine wpAny_execs_cons (wpAny_Assign_Name (wpAny_mono (h0 pins s σ H _ _ I h) (fun v s1 h1 => ?_) fun v s1 z => ?_) hs)
  · obtain ⟨y, H1, I1, r1, q1⟩ := h1
    exact store_ok I1 hN hi hx r1 (fun s2 I2 => wpAny_execs_nil ⟨_, H1, I2, q1⟩) hf
  · exact xp_mono (fun e c σ' H' ⟨q1, q2⟩ => by subst q1; exact q2) z
theorem exm_of {K : PySem.W.Frag} {t c : Value} (h1 : PySem.W.subIn K c (.type "BaseException") = some true) (h2 : (t == c) = false) (h3 : PySem.W.kitOne K t c = some true) : PySem.W.exmOne K t c = some true := by
  unfold PySem.W.exmOne
  rw [h1, if_pos (by rfl)]
  unfold PySem.W.kitOne at h3
  rw [h2, if_neg Bool.false_ne_true] at h3
  exact h3
theorem refs4 {a b c d : Addr} : ∀ v ∈ [V.ref a, V.ref b, V.ref c, V.ref d], ∃ C, v = V.ref C := by
  intro v hv
  simp only [List.mem_cons, List.not_mem_nil, or_false] at hv
  rcases hv with h | h | h | h <;> exact ⟨_, h⟩
theorem vals4 {a b c d : Addr} : Vals [V.ref a, V.ref b, V.ref c, V.ref d] [.ref a, .ref b, .ref c, .ref d] := .cons rfl (.cons rfl (.cons rfl (.cons rfl .nil)))
def sp__law_read (K : PySem.W.Frag) (a : Adr) : Sp := fun vs H Q _ => ∃ (v : V), vs = [v] ∧
  ((∃ (x : Str) (ws : List Str), v = .str x ∧ Txt.split x " " = ws ∧ x.length ≤ 10000 ∧ ws.length ≤ 389 ∧ (∀ w ∈ ws, w.length ≤ 1000) ∧
     (∀ t, Pl t → wds t = ws → ∀ H' p u m, Same H H' → At K m H' u t → H' p = some (.tup [.str "read", u]) → Q (.ref p) H') ∧ ((∀ t, Pl t → wds t ≠ ws) → ∀ H' p, Same H H' → H' p = some (.tup [.str "text", .non]) → Q (.ref p) H')) ∨
   (Kd H v ∧ isTy H "str" v = false ∧ ∀ H' p, Same H H' → H' p = some (.tup [.str "text", .non]) → Q (.ref p) H'))
theorem ok__law_read {P : Program} {w : World} {K : PySem.W.Frag} {mg : Str → Option Value} {base : Heap} {a : Adr} (T : Txt K mg a) (hw : w.params = a.Pm) : FnOk P w K mg base CX0 4 a._law_read a._law_read_fd ["_law_text"] (sp__law_read K a) := by
  have Z_read_sentence := no_read_sentence (P := P) (w := w) (base := base) T hw
  refine T.f__law_read.ok sc__law_read (fun vs H Q E h => ?_) (fun cdv A outer s H vs Q E hr h => ?_)
  · obtain ⟨v, rfl, _⟩ := h
    rfl
  · obtain ⟨v, rfl, h⟩ := h
    refine ⟨_, (@pss_cons _ _ _ _ _ (@ps_set _ _ (1) _ _ _ _ sc__law_read.nd
      rfl
      (by first | exact Or.inl rfl | exact Or.inr rfl)
      (@pe_tup _ _ _ _ _ (@pa_cons _ _ _ _ _ pe_str
      (@pa_cons _ _ _ _ _ pe_non
      pa_nil
      (by rfl))
      (by rfl)))
      (by rfl)
      (by first | exact .inl rfl | exact .inr rfl | assumption))
      (@pss_cons _ _ _ _ _ (ps_try (i := 2) rfl rfl sc__law_read.nd rfl rfl rfl T.g_TimeError (psx_set (i := 1) sc__law_read.nd rfl (by first | exact Or.inl rfl | exact Or.inr rfl) (pex_pair pe_str (pex_call Z_read_sentence (hr.mono (by decide)) rfl T.g_read_sentence T.f_read_sentence.kp T.n_read_sentence (@pa_cons _ _ _ _ _ (pv 0)
      pa_nil
      (by rfl))))) (fun _ => (@pss_cons _ _ _ _ _ (@ps_set _ _ (3) _ _ _ _ sc__law_read.nd
      rfl
      (by first | exact Or.inl rfl | exact Or.inr rfl)
      (pe_callB (call_isXT (K := K) rfl (cs := [.ref a.C_BadSentence, .ref a.C_BadWorld, .ref a.C_NoLine, .ref a.C_NoWorld]) (ws := [.ref a.C_BadSentence, .ref a.C_BadWorld, .ref a.C_NoLine, .ref a.C_NoWorld]) refs4 vals4) rfl T.b_isinstance PyProof.Rows.Boot.«isinstance» (@pa_cons _ _ _ _ _ (pv 2)
      (@pa_cons _ _ _ _ _ (@pe_tup _ _ _ _ _ (@pa_c _ _ _ _ _ (pe_gc (v := .ref a.C_BadSentence) rfl ⟨_, T.g_BadSentence, rfl⟩)
      (@pa_c _ _ _ _ _ (pe_gc (v := .ref a.C_BadWorld) rfl ⟨_, T.g_BadWorld, rfl⟩)
      (@pa_c _ _ _ _ _ (pe_gc (v := .ref a.C_NoLine) rfl ⟨_, T.g_NoLine, rfl⟩)
      (@pa_c _ _ _ _ _ (pe_gc (v := .ref a.C_NoWorld) rfl ⟨_, T.g_NoWorld, rfl⟩)
      pa_nil
      (by rfl))
      (by rfl))
      (by rfl))
      (by rfl)))
      pa_nil
      (by rfl))
      (by rfl)))
      (by rfl)
      (by first | exact .inl rfl | exact .inr rfl | assumption))
      (@pss_one _ _ _ (@ps_if _ _ _ _ _ _ _ _ (PW.pt (pw_and (pt_val (pe_callB (call_isX (K := K) rfl (c := .ref a.C_NoText) (.inl ⟨_, rfl⟩)) rfl T.b_isinstance PyProof.Rows.Boot.«isinstance» (@pa_cons _ _ _ _ _ (pv 2)
      (@pa_cons _ _ _ _ _ (pe_gc (v := .ref a.C_NoText) rfl ⟨_, T.g_NoText, rfl⟩)
      pa_nil
      (by rfl))
      (by rfl)))) (pw_and (pt_val (pe_callB (call_isX (K := K) rfl (c := .ty "ValueError") (.inr ⟨_, rfl⟩)) rfl T.b_isinstance PyProof.Rows.Boot.«isinstance» (@pa_cons _ _ _ _ _ (pv 2)
      (@pa_cons _ _ _ _ _ (pe_bltn (v := .ty "ValueError") rfl T.b_ValueError PyProof.Rows.Boot.«ValueError» rfl)
      pa_nil
      (by rfl))
      (by rfl)))) (pw_and1 (@pt_not _ _ _ _ (pt_truthK (K := K) rfl (pv 3) (fun _ => rfl)))))))
      (@pss_one _ _ _ (@ps_set _ _ (1) _ _ _ _ sc__law_read.nd
      rfl
      (by first | exact Or.inl rfl | exact Or.inr rfl)
      (@pe_tup _ _ _ _ _ (@pa_cons _ _ _ _ _ pe_str
      (@pa_cons _ _ _ _ _ pe_non
      pa_nil
      (by rfl))
      (by rfl)))
      (by rfl)
      (by first | exact .inl rfl | exact .inr rfl | assumption)))
      pss_nil)))))
      (@pss_one _ _ _ (@ps_ret _ _ _ _ (pv 1))))), ?_⟩
    refine ⟨by rw [sizeLine_eq]; simp, fun p0 h0 => ?_⟩
    have s0 := same_upd (o := .tup [.str "other", .non]) h0
    generalize upd H p0 (.tup [.str "other", .non]) = H0 at s0 ⊢
    rcases h with ⟨x, ws, rfl, h1, h2, h3, h4, k, kx⟩ | ⟨hk, hty, kx⟩
    · refine ⟨_, rfl, .str x, rfl, .inl ⟨x, ws, rfl, h1, h2, h3, h4, fun t ht et H1 u m s1 at1 => ?_, fun hno H2 e s2 => ?_⟩⟩
      · intro p hp
        exact ⟨_, rfl, k t ht et _ p u m (s0.trans (s1.trans (same_upd hp))) (at1.mono (Same.tup (same_upd hp))) upd_same⟩
      clear h3 h4
      refine ⟨e, a.C_NoText, rfl, rfl, exm_of T.sb_TimeError T.ne_NoText_TimeError T.i1_NoText, fun he => ?_⟩
      have s3 : Same H (upd H2 e (XcO e a.C_NoText)) := (s0.trans s2).trans (same_upd he)
      generalize hH3 : upd H2 e (XcO e a.C_NoText) = H3 at s3 ⊢
      have h3 : H3 e = some (XcO e a.C_NoText) := by rw [← hH3, upd_same]
      refine ⟨.ref e, rfl, by rw [sizeLine_eq]; simp, fun tp htp => ⟨e, a.C_NoText, tp, false, rfl, same_upd htp _ _ h3, T.k_NoText, upd_same, T.i4_NoText, ?_⟩⟩
      have h4 := same_upd (o := .tup [.ref a.C_BadSentence, .ref a.C_BadWorld, .ref a.C_NoLine, .ref a.C_NoWorld]) htp _ _ h3
      have s4 := s3.trans (same_upd (o := .tup [.ref a.C_BadSentence, .ref a.C_BadWorld, .ref a.C_NoLine, .ref a.C_NoWorld]) htp)
      refine ⟨.ref e, rfl, e, a.C_NoText, _, true, rfl, h4, T.k_NoText, rfl, T.i2_NoText, true, rfl, iteT ⟨.ref e, rfl, e, a.C_NoText, _, true, rfl, h4, T.k_NoText, rfl, T.i3_NoText, true, rfl, iteT ⟨.bl false, rfl, false, rfl, ?_⟩⟩⟩
      refine iteT ⟨by rw [sizeLine_eq]; simp, fun p3 hp3 => ⟨_, rfl, kx hno _ p3 (s4.trans (same_upd hp3)) upd_same⟩⟩
    · refine ⟨_, rfl, v, rfl, .inr ⟨hk.mono s0, (isTy_same s0 hk).trans hty, fun e => ?_⟩⟩
      refine ⟨e, a.C_NoText, rfl, rfl, exm_of T.sb_TimeError T.ne_NoText_TimeError T.i1_NoText, fun he => ?_⟩
      have s3 : Same H (upd H0 e (XcO e a.C_NoText)) := s0.trans (same_upd he)
      generalize hH3 : upd H0 e (XcO e a.C_NoText) = H3 at s3 ⊢
      have h3 : H3 e = some (XcO e a.C_NoText) := by rw [← hH3, upd_same]
      refine ⟨.ref e, rfl, by rw [sizeLine_eq]; simp, fun tp htp => ⟨e, a.C_NoText, tp, false, rfl, same_upd htp _ _ h3, T.k_NoText, upd_same, T.i4_NoText, ?_⟩⟩
      have h4 := same_upd (o := .tup [.ref a.C_BadSentence, .ref a.C_BadWorld, .ref a.C_NoLine, .ref a.C_NoWorld]) htp _ _ h3
      have s4 := s3.trans (same_upd (o := .tup [.ref a.C_BadSentence, .ref a.C_BadWorld, .ref a.C_NoLine, .ref a.C_NoWorld]) htp)
      refine ⟨.ref e, rfl, e, a.C_NoText, _, true, rfl, h4, T.k_NoText, rfl, T.i2_NoText, true, rfl, iteT ⟨.ref e, rfl, e, a.C_NoText, _, true, rfl, h4, T.k_NoText, rfl, T.i3_NoText, true, rfl, iteT ⟨.bl false, rfl, false, rfl, ?_⟩⟩⟩
      refine iteT ⟨by rw [sizeLine_eq]; simp, fun p3 hp3 => ⟨_, rfl, kx _ p3 (s4.trans (same_upd hp3)) upd_same⟩⟩
end KK

set_option Elab.async false
set_option linter.all false
set_option maxRecDepth 100000
set_option maxHeartbeats 8000000
namespace KK
open PySem PySem.Spec L2 L3
theorem join_lenB (c B : Nat) : ∀ {ws : List Str}, (∀ w ∈ ws, w.length ≤ B) → (Str.join ⟨#[c]⟩ ws).length ≤ (B + 1) * ws.length
  | [], _ => by show (Str.empty).length ≤ _; simp [Str.empty, Str.length]
  | [x], h => by have := h x (by simp); show x.length ≤ _; simp; omega
  | x :: y :: r, h => by
    have ih := join_lenB c B (ws := y :: r) fun w hw => h w (List.mem_cons_of_mem _ hw)
    have h1 := h x (by simp)
    have e : (Str.join ⟨#[c]⟩ (x :: y :: r)).length = x.length + 1 + (Str.join ⟨#[c]⟩ (y :: r)).length := by
      have := congrArg List.length (join_two c x y r)
      rw [List.length_append, List.length_cons] at this
      simp only [Array.length_toList] at this
      unfold Str.length
      omega
    rw [e, List.length_cons, Nat.mul_add]
    omega
theorem gw_empty : GW "" := gw_dec (by decide +kernel)
theorem split_words {ws : List Str} (h : ∀ w ∈ ws, GW w) : ∃ ws2, Txt.split (Str.join " " ws) " " = ws2 ∧ (∀ w ∈ ws2, GW w) ∧ ws2.length ≤ ws.length + 1 ∧ (ws ≠ [] → ws2 = ws) ∧ wt ws2 ≤ wt ws ∧ Str.join " " ws2 = Str.join " " ws := by
  cases ws with
  | nil =>
    refine ⟨[""], ?_, fun w hw => by cases List.mem_singleton.mp hw; exact gw_empty, by simp, fun z => absurd rfl z, by decide +kernel, rfl⟩
    rw [sp32]
    exact split_join (ws := [""]) (by simp) fun w hw => by cases List.mem_singleton.mp hw; exact gw_empty.1
  | cons x r =>
    refine ⟨x :: r, ?_, h, by simp, fun _ => rfl, Nat.le_refl _, rfl⟩
    rw [sp32]
    exact split_join (by simp) fun w hw => (h w hw).1
theorem qY {p : Prop} [Decidable p] {Q : VK} {H : Hp} (h : p) (q : Q (.bl true) H) : Q (.bl (decide p)) H := by rw [decide_eq_true h]; exact q
def sp__law_right (K : PySem.W.Frag) (a : Adr) : Sp := fun vs H Q _ => ∃ (L : Addr) (ws : List Str), vs = [.ref L] ∧ H L = some (.lst (ws.map V.str)) ∧ (∀ w ∈ ws, GW w) ∧ ws.length ≤ 388 ∧ wt ws < 90 ∧ ∀ H', Same H H' → Q (.bl true) H'
theorem ok__law_right {P : Program} {w : World} {K : PySem.W.Frag} {mg : Str → Option Value} {base : Heap} {a : Adr} (T : Txt K mg a) (hw : w.params = a.Pm) : FnOk P w K mg base CX0 191 a._law_right a._law_right_fd ["_law_words"] (sp__law_right K a) := by
  have G_show := ok_show (P := P) (w := w) (base := base) T hw
  have G__law_end := ok__law_end (P := P) (w := w) (base := base) T hw 90
  have G__law_read := ok__law_read (P := P) (w := w) (base := base) T hw
  refine T.f__law_right.ok sc__law_right (fun vs H Q E h => ?_) (fun cdv A outer s H vs Q E hr h => ?_)
  · obtain ⟨L, ws, rfl, _⟩ := h
    rfl
  · obtain ⟨L, ws, rfl, hL, hgw, hwl, hwt, k⟩ := h
    refine ⟨_, (@pss_cons _ _ _ _ _ (@ps_set _ _ (1) _ _ _ _ sc__law_right.nd
      rfl
      (by first | exact Or.inl rfl | exact Or.inr rfl)
      (pe_bm PySem.F.plainAttrs_str PySem.F.slot_str_join PySem.F.type_str_join (mt_joinK (K := K) rfl) pe_str (@pa_cons _ _ _ _ _ (pv 0)
      pa_nil
      (by rfl)))
      (by rfl)
      (by first | exact .inl rfl | exact .inr rfl | assumption))
      (@pss_cons _ _ _ _ _ (@ps_set _ _ (0) _ _ _ _ sc__law_right.nd
      rfl
      (by first | exact Or.inl rfl | exact Or.inr rfl)
      (pe_bm PySem.F.plainAttrs_str PySem.F.slot_str_split PySem.F.type_str_split mt_split (pv 1) (@pa_cons _ _ _ _ _ pe_str
      pa_nil
      (by rfl)))
      (by rfl)
      (by first | exact .inl rfl | exact .inr rfl | assumption))
      (@pss_cons _ _ _ _ _ (@ps_set _ _ (2) _ _ _ _ sc__law_right.nd
      rfl
      (by first | exact Or.inl rfl | exact Or.inr rfl)
      (pe_call G__law_read (hr.mono (by decide)) rfl T.g__law_read T.f__law_read.kp T.n__law_read .nil pass0 (@pa_cons _ _ _ _ _ (pv 1)
      pa_nil
      (by rfl)))
      (by rfl)
      (by first | exact .inl rfl | exact .inr rfl | assumption))
      (@pss_cons _ _ _ _ _ (@ps_if _ _ _ _ _ _ _ _ (@pt_cmpR _ _ _ _ _ _ _ _ op_ne
      (pe_call G__law_end (hr.mono (by decide)) rfl T.g__law_end T.f__law_end.kp T.n__law_end .nil pass0 (@pa_cons _ _ _ _ _ (pv 0)
      (@pa_cons _ _ _ _ _ pe_int
      pa_nil
      (by rfl))
      (by rfl)))
      (pe_callB (call_lenK (K := K) rfl) rfl T.b_len PyProof.Rows.Boot.«len» (@pa_cons _ _ _ _ _ (pv 0)
      pa_nil
      (by rfl)))
      (nomark _))
      (@pss_one _ _ _ (@ps_ret _ _ _ _ (@pe_cmpR _ _ _ _ _ _ _ _ op_eq
      (@pe_ix _ _ _ _ _ _ _ (ix_tupK (K := K) rfl)
      (pv 2)
      pe_int
      (fun _ _ => rfl))
      pe_str
      (nomark _))))
      pss_nil)
      (@pss_one _ _ _ (@ps_ret _ _ _ _ (pe_and (@pe_cmpR _ _ _ _ _ _ _ _ op_eq
      (@pe_ix _ _ _ _ _ _ _ (ix_tupK (K := K) rfl)
      (pv 2)
      pe_int
      (fun _ _ => rfl))
      pe_str
      (nomark _)) (pe_one (@pe_cmpR _ _ _ _ _ _ _ _ op_eq
      (pe_call G_show (hr.mono (by decide)) rfl T.g_show T.f_show.kp T.n_show .nil pass0 (@pa_cons _ _ _ _ _ (@pe_ix _ _ _ _ _ _ _ (ix_tupK (K := K) rfl)
      (pv 2)
      pe_int
      (fun _ _ => rfl))
      pa_nil
      (by rfl)))
      (pv 1)
      (nomark _)))))))))), ?_⟩
    have hjl : (Str.join " " ws).length ≤ 10 * ws.length := by rw [sp32]; exact join_lenB 32 9 fun w hw => (hgw w hw).2.1
    obtain ⟨ws2, hsp, hgw2, hl2, _, hwt2, hjn⟩ := split_words hgw
    generalize hx : Str.join " " ws = x at hjl hsp hjn
    refine ⟨rfl, _, rfl, " ", L, ws, 9, rfl, rfl, SqL.of hL, fun w hw => (hgw w hw).2.1, by have hs : (Str.ofString " ").length = 1 := rfl; rw [hs]; omega, ?_⟩
    rw [hx]
    refine ⟨_, rfl, rfl, x, " ", rfl, rfl, by decide, by omega, fun L2 hL2 => ?_⟩
    rw [hsp]
    have s1 := same_upd (o := .lst (ws2.map V.str)) hL2
    have e1 : (upd H L2 (.lst (ws2.map V.str))) L2 = some (.lst (ws2.map V.str)) := upd_same
    generalize upd H L2 (.lst (ws2.map V.str)) = H1 at s1 e1 ⊢
    refine ⟨_, rfl, .str x, rfl, .inl ⟨x, ws2, rfl, hsp, by omega, by omega, fun w hw => Nat.le_trans (hgw2 w hw).2.1 (by decide), fun t ht et H2 p u m s2 at2 ep => ?_, fun hno H2 p s2 ep => ?_⟩⟩
    · refine ⟨_, rfl, L2, ws2, 0, 0, rfl, rfl, s2 _ _ e1, hgw2, by omega, Nat.zero_le _, by show wt ws2 < 90; omega, fun H3 r s3 he => ⟨_, rfl, .inl ⟨L2, _, rfl, .inl (SqL.of ((s2.trans s3) _ _ e1)), rfl, _, rfl, ?_⟩⟩⟩
      have hr : r = ((ws2.map V.str).length : Int) := by
        rw [List.length_map]
        rcases he with ⟨t', rest, ht', e', rfl⟩ | ⟨hn, _⟩
        · have e' : ws2 = wds t' ++ rest := e'
          rw [← et, ← List.append_nil (wds t)] at e'
          obtain ⟨rfl, e2⟩ := uniq ht ht' e'
          rw [et]
          simp
        · exact absurd (show ws2.drop 0 = wds t ++ [] by rw [et, List.append_nil]; rfl) (hn t [] ht)
      refine iteNS (congrArg V.int hr) ?_
      have ep3 := s3 _ _ ep
      refine ⟨_, rfl, p, _, _, .str "read", rfl, rfl, SqT.of ep3, atI_nat (j := 0) rfl, rfl, true, rfl, iteT ?_⟩
      obtain ⟨n, hn⟩ := id ht
      have hsz := (ht.sizes).2
      rw [et] at hsz
      refine ⟨_, rfl, p, _, _, u, rfl, rfl, SqT.of ep3, atI_nat (j := 1) rfl, u, t, m + n, rfl, (at2.mono (Same.tup s3)).le (by omega), hn.le (by omega), by omega, fun H4 s4 => ⟨_, rfl, rfl, ?_⟩⟩
      have etx : txt t = x := by rw [txt_wds hn, et, hjn]
      exact qY (congrArg V.str etx) (k _ ((s1.trans s2).trans (s3.trans s4)))
    · refine ⟨_, rfl, L2, ws2, 0, 0, rfl, rfl, s2 _ _ e1, hgw2, by omega, Nat.zero_le _, by show wt ws2 < 90; omega, fun H3 r s3 he => ⟨_, rfl, .inl ⟨L2, _, rfl, .inl (SqL.of ((s2.trans s3) _ _ e1)), rfl, _, rfl, ?_⟩⟩⟩
      have hr : r ≠ ((ws2.map V.str).length : Int) := by
        rw [List.length_map]
        rcases he with ⟨t', rest, ht', e', rfl⟩ | ⟨hn, rfl⟩
        · have e' : ws2 = wds t' ++ rest := e'
          intro z
          have hl := congrArg List.length e'
          rw [List.length_append] at hl
          have : rest = [] := List.length_eq_zero_iff.mp (by push_cast at z; omega)
          rw [this, List.append_nil] at e'
          exact hno t' ht' e'.symm
        · omega
      refine iteNY (fun z => hr (V.int.inj z)) ?_
      have ep3 := s3 _ _ ep
      exact ⟨_, rfl, p, _, _, .str "text", rfl, rfl, SqT.of ep3, atI_nat (j := 0) rfl, rfl, k _ (s1.trans (s2.trans s3))⟩
end KK

set_option Elab.async false
set_option linter.all false
set_option maxRecDepth 100000
set_option maxHeartbeats 8000000
namespace KK
open PySem PySem.Spec L2 L3
theorem neS {K : PySem.W.Frag} {H : Hp} {p q : Addr} {a b : List Str} {Q : VK} (ha : ∀ s ∈ a, PyData.strOk s = true) (hb : ∀ s ∈ b, PyData.strOk s = true) (h1 : H p = some (.lst (a.map V.str))) (h2 : H q = some (.lst (b.map V.str))) (k : Q (.bl (!decide (a = b))) H) : rEqD K true (.ref p) (.ref q) H Q := by
  have fa : Fine 1 (dS a) := fineL fun x hx => ⟨by simp [PyData.canLay0, ha x hx], by simp [PyData.depth]⟩
  have fb : Fine 1 (dS b) := fineL fun x hx => ⟨by simp [PyData.canLay0, hb x hx], by simp [PyData.depth]⟩
  refine ⟨dS a, dS b, LS.dp ⟨p, rfl, h1⟩, LS.dp ⟨q, rfl, h2⟩, fa.1, fb.1, Nat.le_trans fa.2 (by decide), ?_⟩
  have e : PyData.eqv (dS a) (dS b) = decide (a = b) := by
    rw [dS, dS, PyData.eqv]
    exact eqvAll_strs a b
  rw [e]
  exact k
theorem name_gw {z : Str} (h : isNameS z = true) : GW z := ⟨low_free (name_low h) (by decide), Nat.le_trans (name_short h) (by decide), strOk_name h⟩
theorem voc_gw : ∀ w ∈ VOC, GW w := fun w hw => gw_dec ((by decide +kernel : ∀ w ∈ VOC, (w.cps.toList.all (fun c => decide (c ≠ 32)) && decide (w.length ≤ 9) && PyData.strOk w) = true) w hw)
theorem wds_gw {n : Nat} {t : Tr} (h : PlN n t) : ∀ w ∈ wds t, GW w := fun w hw => (voc_of h w hw).elim (voc_gw w) name_gw
theorem voc_10 : ∀ w ∈ VOC, w.cps.toList.all (fun c => decide (c ≠ 10)) = true ∧ w ≠ "" := by decide +kernel
theorem wds_10 {t : Tr} (h : Pl t) : ∀ w ∈ wds t, free 10 w ∧ w ≠ "" := fun w hw => by
  obtain ⟨n, h⟩ := h
  rcases voc_of h w hw with q | q
  · obtain ⟨h1, h2⟩ := voc_10 w q
    refine ⟨fun hm => ?_, h2⟩
    have := List.all_eq_true.mp h1 10 hm
    simp at this
  · exact ⟨low_free (name_low q) (by decide), fun e => by rw [e] at q; exact absurd q (by decide +kernel)⟩
theorem join_nl {a : List Str} {w : Str} : Str.join " " (a ++ [w ++ "\n"]) = Str.join " " (a ++ [w]) ++ "\n" := by
  rw [sp32]
  cases a with
  | nil => rfl
  | cons x r =>
    apply str_ext
    rw [Str.cps_append, Array.toList_append, join_app 32 (by simp) (by simp), join_app 32 (by simp) (by simp)]
    show _ ++ 32 :: (w ++ "\n").cps.toList = (_ ++ 32 :: w.cps.toList) ++ _
    rw [Str.cps_append]
    simp
theorem join_sp {a : List Str} (h : a ≠ []) : Str.join " " (a ++ [("" : Str)]) = Str.join " " a ++ " " := by
  rw [sp32]
  apply str_ext
  rw [Str.cps_append, Array.toList_append, join_app 32 h (by simp)]
  rfl
theorem sp_join {a : List Str} (h : a ≠ []) : Str.join " " (("" : Str) :: a) = " " ++ Str.join " " a := by
  rw [sp32]
  apply str_ext
  rw [Str.cps_append, Array.toList_append, show ("" : Str) :: a = [("" : Str)] ++ a from rfl, join_app 32 (by simp) h]
  rfl
theorem nl_split {ws : List Str} (h : ws ≠ []) (hg : ∀ w ∈ ws, GW w) : ∃ ws2 : List Str, Txt.split (Str.join " " ws ++ "\n") " " = ws2 ∧ ws2.length = ws.length ∧ (∀ w ∈ ws2, w.length ≤ 10) ∧ ∃ w ∈ ws2, 10 ∈ w.cps.toList := by
  obtain ⟨a, w, rfl⟩ : ∃ a w, ws = a ++ [w] := ⟨ws.dropLast, ws.getLast h, (List.dropLast_concat_getLast h).symm⟩
  have hw := hg w (by simp)
  have hcp : (w ++ "\n").cps.toList = w.cps.toList ++ [10] := by rw [Str.cps_append, Array.toList_append]; rfl
  have hln : (w ++ "\n").length = w.length + 1 := by rw [Str.length_append]; rfl
  refine ⟨a ++ [w ++ "\n"], ?_, by simp, fun z hz => ?_, w ++ "\n", by simp, by rw [hcp]; simp⟩
  · rw [← join_nl, sp32]
    refine split_join (by simp) fun z hz => ?_
    rcases List.mem_append.mp hz with hz | hz
    · exact (hg z (by simp [hz])).1
    · cases List.mem_singleton.mp hz
      intro hm
      rw [hcp] at hm
      rcases List.mem_append.mp hm with hm | hm
      · exact hw.1 hm
      · simp at hm
  · rcases List.mem_append.mp hz with hz | hz
    · exact Nat.le_succ_of_le (hg z (by simp [hz])).2.1
    · cases List.mem_singleton.mp hz
      rw [hln]
      exact Nat.succ_le_succ hw.2.1
theorem abab : ∀ x ∈ (["a", "b", "ab"] : List Str), isNameS x = true ∧ x ≠ "yes" ∧ x ∉ HD9 ∧ x ∉ BES := by decide +kernel
def sp_law (K : PySem.W.Frag) (a : Adr) : Sp := fun vs H Q _ => ∃ (p : Addr) (ns : List Int), vs = [.ref p] ∧ SqL K H p (ns.map V.int) ∧ ns.length ≤ 63 ∧ ∀ H', Q (.bl true) H'
theorem ok_law {P : Program} {w : World} {K : PySem.W.Frag} {mg : Str → Option Value} {base : Heap} {a : Adr} (T : Txt K mg a) (hw : w.params = a.Pm) : FnOk P w K mg base CX0 192 a.law a.law_fd ["_law_script"] (sp_law K a) := by
  have G_show := ok_show (P := P) (w := w) (base := base) T hw
  have G__law_cell_at := ok__law_cell_at (P := P) (w := w) (base := base) T hw
  have G__law_stream := ok__law_stream (P := P) (w := w) (base := base) T hw
  have G__law_draw := ok__law_draw (P := P) (w := w) (base := base) T hw
  have G__law_sentence := ok__law_sentence (P := P) (w := w) (base := base) T hw 8
  have G__law_changed := ok__law_changed (P := P) (w := w) (base := base) T hw
  have G__law_read := ok__law_read (P := P) (w := w) (base := base) T hw
  have G__law_right := ok__law_right (P := P) (w := w) (base := base) T hw
  refine T.f_law.ok sc_law (fun vs H Q E h => ?_) (fun cdv A outer s H vs Q E hr h => ?_)
  · obtain ⟨p, ns, rfl, _⟩ := h
    rfl
  · obtain ⟨p, ns, rfl, hq, hz, k⟩ := h
    refine ⟨_, (@pss_cons _ _ _ _ _ (@ps_set _ _ (1) _ _ _ _ sc_law.nd
      rfl
      (by first | exact Or.inl rfl | exact Or.inr rfl)
      (pe_call G__law_stream (hr.mono (by decide)) rfl T.g__law_stream T.f__law_stream.kp T.n__law_stream .nil pass0 (@pa_cons _ _ _ _ _ (pe_call G__law_cell_at (hr.mono (by decide)) rfl T.g__law_cell_at T.f__law_cell_at.kp T.n__law_cell_at .nil pass0 (@pa_cons _ _ _ _ _ (pv 0)
      (@pa_cons _ _ _ _ _ pe_int
      pa_nil
      (by rfl))
      (by rfl)))
      (@pa_cons _ _ _ _ _ pe_int
      pa_nil
      (by rfl))
      (by rfl)))
      (by rfl)
      (by first | exact .inl rfl | exact .inr rfl | assumption))
      (@pss_cons _ _ _ _ _ (@ps_set _ _ (2) _ _ _ _ sc_law.nd
      rfl
      (by first | exact Or.inl rfl | exact Or.inr rfl)
      (pe_bm PySem.F.plainAttrs_str PySem.F.slot_str_split PySem.F.type_str_split mt_split (pe_call G_show (hr.mono (by decide)) rfl T.g_show T.f_show.kp T.n_show .nil pass0 (@pa_cons _ _ _ _ _ (pe_call G__law_sentence (hr.mono (by decide)) rfl T.g__law_sentence T.f__law_sentence.kp T.n__law_sentence .nil pass0 (@pa_c _ _ _ _ _ (pv 1)
      (@pa_c _ _ _ _ _ (@pe_op _ _ _ _ _ _ _ _ op_mod
      (pe_call G__law_draw (hr.mono (by decide)) rfl T.g__law_draw T.f__law_draw.kp T.n__law_draw .nil pass0 (@pa_cons _ _ _ _ _ (pv 1)
      pa_nil
      (by rfl)))
      pe_int)
      (@pa_c _ _ _ _ _ (@pe_lst _ _ _ _ (@pa_c _ _ _ _ _ pe_str
      (@pa_c _ _ _ _ _ pe_str
      (@pa_c _ _ _ _ _ pe_str
      pa_nil
      (by rfl))
      (by rfl))
      (by rfl)))
      pa_nil
      (by rfl))
      (by rfl))
      (by rfl)))
      pa_nil
      (by rfl))) (@pa_cons _ _ _ _ _ pe_str
      pa_nil
      (by rfl)))
      (by rfl)
      (by first | exact .inl rfl | exact .inr rfl | assumption))
      (pss_join (@ps_if _ _ _ _ _ _ _ _ (@pt_not _ _ _ _ (pt_val (pe_call G__law_right (hr.mono (by decide)) rfl T.g__law_right T.f__law_right.kp T.n__law_right .nil pass0 (@pa_cons _ _ _ _ _ (pv 2)
      pa_nil
      (by rfl)))))
      (@pss_one _ _ _ (@ps_ret _ _ _ _ pe_bl))
      pss_nil)
          (@pss_cons _ _ _ _ _ (@ps_set _ _ (3) _ _ _ _ sc_law.nd
      rfl
      (by first | exact Or.inl rfl | exact Or.inr rfl)
      (pe_call G__law_stream (hr.mono (by decide)) rfl T.g__law_stream T.f__law_stream.kp T.n__law_stream .nil pass0 (@pa_cons _ _ _ _ _ (pe_call G__law_cell_at (hr.mono (by decide)) rfl T.g__law_cell_at T.f__law_cell_at.kp T.n__law_cell_at .nil pass0 (@pa_cons _ _ _ _ _ (pv 0)
      (@pa_cons _ _ _ _ _ pe_int
      pa_nil
      (by rfl))
      (by rfl)))
      (@pa_cons _ _ _ _ _ pe_int
      pa_nil
      (by rfl))
      (by rfl)))
      (by rfl)
      (by first | exact .inl rfl | exact .inr rfl | assumption))
      (@pss_cons _ _ _ _ _ (ps_for PassesOwn.never rfl (pi_range1 rfl T.b_range (@pa_cons _ _ _ _ _ pe_int
      pa_nil
      (by rfl))) (pg_name (i := 4) sc_law.nd rfl (by first | exact Or.inl rfl | exact Or.inr rfl)) (@pss_cons _ _ _ _ _ (@ps_set _ _ (5) _ _ _ _ sc_law.nd
      rfl
      (by first | exact Or.inl rfl | exact Or.inr rfl)
      (pe_call G__law_changed (hr.mono (by decide)) rfl T.g__law_changed T.f__law_changed.kp T.n__law_changed .nil pass0 (@pa_cons _ _ _ _ _ (pv 3)
      (@pa_cons _ _ _ _ _ (pv 2)
      pa_nil
      (by rfl))
      (by rfl)))
      (by rfl)
      (by first | exact .inl rfl | exact .inr rfl | assumption))
      (pss_join (@ps_if _ _ _ _ _ _ _ _ (PW.pt (pw_and (@pt_cmpR _ _ _ _ _ _ _ _ op_eq
      (@pe_op _ _ _ _ _ _ _ _ op_mod
      (pv 4)
      pe_int)
      pe_int
      (nomark _)) (pw_and1 (@pt_cmpR _ _ _ _ _ _ _ _ (op_neDK (K := K) rfl (Room.units hr))
      (pv 5)
      (@pe_lst _ _ _ _ pa_nil)
      (nomark _)))))
      (@pss_one _ _ _ (@ps_set _ _ (5) _ _ _ _ sc_law.nd
      rfl
      (by first | exact Or.inl rfl | exact Or.inr rfl)
      (pe_call G__law_changed (hr.mono (by decide)) rfl T.g__law_changed T.f__law_changed.kp T.n__law_changed .nil pass0 (@pa_cons _ _ _ _ _ (pv 3)
      (@pa_cons _ _ _ _ _ (pv 5)
      pa_nil
      (by rfl))
      (by rfl)))
      (by rfl)
      (by first | exact .inl rfl | exact .inr rfl | assumption)))
      pss_nil)
          (@pss_one _ _ _ (@ps_if _ _ _ _ _ _ _ _ (@pt_not _ _ _ _ (pt_val (pe_call G__law_right (hr.mono (by decide)) rfl T.g__law_right T.f__law_right.kp T.n__law_right .nil pass0 (@pa_cons _ _ _ _ _ (pv 5)
      pa_nil
      (by rfl)))))
      (@pss_one _ _ _ (@ps_ret _ _ _ _ pe_bl))
      pss_nil)))))
      (@pss_cons _ _ _ _ _ (@ps_set _ _ (6) _ _ _ _ sc_law.nd
      rfl
      (by first | exact Or.inl rfl | exact Or.inr rfl)
      (@pe_lst _ _ _ _ (@pa_cons _ _ _ _ _ pe_str
      pa_nil
      (by rfl)))
      (by rfl)
      (by first | exact .inl rfl | exact .inr rfl | assumption))
      (@pss_cons _ _ _ _ _ (ps_for PassesOwn.never rfl (pi_range1 rfl T.b_range (@pa_cons _ _ _ _ _ pe_int
      pa_nil
      (by rfl))) (pg_name (i := 4) sc_law.nd rfl (by first | exact Or.inl rfl | exact Or.inr rfl)) (@pss_one _ _ _ (@ps_set _ _ (6) _ _ _ _ sc_law.nd
      rfl
      (by first | exact Or.inl rfl | exact Or.inr rfl)
      (pe_slice (sl_listK (K := K) rfl) (pe_call G__law_changed (hr.mono (by decide)) rfl T.g__law_changed T.f__law_changed.kp T.n__law_changed .nil pass0 (@pa_cons _ _ _ _ _ (pv 3)
      (@pa_cons _ _ _ _ _ (@pe_op _ _ _ _ _ _ _ _ op_cat
      (pv 6)
      (@pe_lst _ _ _ _ (@pa_cons _ _ _ _ _ pe_str
      pa_nil
      (by rfl))))
      pa_nil
      (by rfl))
      (by rfl))) po_none (po_some pe_int))
      (by rfl)
      (by first | exact .inl rfl | exact .inr rfl | assumption))))
      (@pss_cons _ _ _ _ _ (@ps_set _ _ (7) _ _ _ _ sc_law.nd
      rfl
      (by first | exact Or.inl rfl | exact Or.inr rfl)
      (pe_bm PySem.F.plainAttrs_str PySem.F.slot_str_join PySem.F.type_str_join (mt_joinK (K := K) rfl) pe_str (@pa_cons _ _ _ _ _ (pv 2)
      pa_nil
      (by rfl)))
      (by rfl)
      (by first | exact .inl rfl | exact .inr rfl | assumption))
      (@pss_cons _ _ _ _ _ (ps_for PassesOwn.never rfl (pi_listK (K := K) rfl (@pe_lst _ _ _ _ (@pa_c _ _ _ _ _ pe_non
      (@pa_c _ _ _ _ _ pe_int
      (@pa_c _ _ _ _ _ (pv 2)
      (@pa_c _ _ _ _ _ (@pe_tup _ _ _ _ _ (@pa_cons _ _ _ _ _ (pv 7)
      pa_nil
      (by rfl)))
      (@pa_c _ _ _ _ _ (@pe_op _ _ _ _ _ _ _ _ op_add_str
      (pv 7)
      pe_str)
      (@pa_c _ _ _ _ _ (@pe_op _ _ _ _ _ _ _ _ op_add_str
      (pv 7)
      pe_str)
      (@pa_c _ _ _ _ _ (@pe_op _ _ _ _ _ _ _ _ op_add_str
      pe_str
      (pv 7))
      pa_nil
      (by rfl))
      (by rfl))
      (by rfl))
      (by rfl))
      (by rfl))
      (by rfl))
      (by rfl)))) (pg_name (i := 8) sc_law.nd rfl (by first | exact Or.inl rfl | exact Or.inr rfl)) (@pss_one _ _ _ (@ps_if _ _ _ _ _ _ _ _ (@pt_cmpR _ _ _ _ _ _ _ _ op_ne
      (@pe_ix _ _ _ _ _ _ _ (ix_tupK (K := K) rfl)
      (pe_call G__law_read (hr.mono (by decide)) rfl T.g__law_read T.f__law_read.kp T.n__law_read .nil pass0 (@pa_cons _ _ _ _ _ (pv 8)
      pa_nil
      (by rfl)))
      pe_int
      (fun _ _ => rfl))
      pe_str
      (nomark _))
      (@pss_one _ _ _ (@ps_ret _ _ _ _ pe_bl))
      pss_nil)))
      (@pss_one _ _ _ (@ps_ret _ _ _ _ (pe_call G__law_right (hr.mono (by decide)) rfl T.g__law_right T.f__law_right.kp T.n__law_right .nil pass0 (@pa_cons _ _ _ _ _ (pv 6)
      pa_nil
      (by rfl)))))))))))))), ?_⟩
    refine ⟨_, rfl, p, ns, 0, rfl, hq, fun n0 => ⟨n0, 60, rfl, by decide, fun H1 y ns1 s1 y0 h1 => ?_⟩⟩
    refine ⟨_, rfl, _, rfl, y, ns1, rfl, h1, fun H2 d ns2 x2 h2 => ⟨_, _, rfl, rfl, by simp, by rw [sizeLine_eq]; simp, fun L hL => ?_⟩⟩
    have s3 := same_upd (o := .lst [.str "a", .str "b", .str "ab"]) hL
    have e3 : (upd H2 L (.lst [.str "a", .str "b", .str "ab"])) L = some (.lst [.str "a", .str "b", .str "ab"]) := upd_same
    have nL : L ≠ y := fun e => by rw [e, h2] at hL; cases hL
    generalize upd H2 L (.lst [.str "a", .str "b", .str "ab"]) = H3 at s3 e3 ⊢
    have w0 := Int.emod_nonneg d (show (4 : Int) ≠ 0 by decide)
    have w1 := Int.emod_lt_of_pos d (show (0 : Int) < 4 by decide)
    refine ⟨y, ns2, d % 4, L, ["a", "b", "ab"], rfl, by omega, by omega, s3 _ _ h2, e3, nL, by simp, fun x hx => (abab x hx).1, fun H4 v t ns4 x4 h4 at4 tp4 sz4 sg4 => ?_⟩
    have hs4 : Same H H4 := fun b o eb => x4 _ _ (fun e => by rw [e] at eb; rw [eb] at y0; cases y0) (s3 _ _ (x2 _ _ (fun e => by rw [e] at eb; rw [eb] at y0; cases y0) (s1 _ _ eb)))
    have pl : PlN _ t := pl_of at4 fun z hz => abab z (sg4 z hz)
    have sz : psz t ≤ 81 := Nat.le_trans sz4 (Nat.le_trans (Nat.pow_le_pow_right (by decide) (show (d % 4 + 1).toNat ≤ 4 by omega)) (by decide))
    refine ⟨v, t, _, rfl, at4, pl, by omega, fun H5 s5 => ?_⟩
    have htl := txt_len pl
    have hwl := wds_len pl
    have hwt := (sizes pl).1
    have hgw := wds_gw pl
    have hne := wds_ne t
    refine ⟨rfl, txt t, " ", rfl, rfl, by decide, by omega, fun W hW => ?_⟩
    rw [txt_split pl]
    have s6 := same_upd (o := .lst ((wds t).map V.str)) hW
    have e6 : (upd H5 W (.lst ((wds t).map V.str))) W = some (.lst ((wds t).map V.str)) := upd_same
    generalize upd H5 W (.lst ((wds t).map V.str)) = H6 at s6 e6 ⊢
    have hs6 := hs4.trans (s5.trans s6)
    clear x4 h4 at4 tp4 sz4 sg4 x2 h2 e3 s3 w0 w1
    have etx : Str.join " " (wds t) = txt t := (txt_wds pl).symm
    generalize txt t = tx at htl etx
    generalize hws : wds t = ws at *
    clear hws pl
    refine ⟨fun σ' H' => σ' = [some (.ref p), some (.ref y), some (.ref W), none, none, none, none, none, none] ∧ Same H6 H', ?_, ?_⟩
    · exact ⟨_, rfl, W, ws, rfl, e6, hgw, by omega, by omega, fun H7 s7 => ⟨_, rfl, iteF ⟨rfl, s7⟩⟩⟩
    rintro _ H7 ⟨rfl, s7⟩
    have e7 := s7 _ _ e6
    have hs7 := hs6.trans s7
    refine ⟨_, rfl, p, ns, 1, rfl, hs7.seq hq, fun n1 => ⟨n1, 120, rfl, by decide, fun H8 Y nsY s8 Y0 hY => ?_⟩⟩
    have e8 := s8 _ _ e7
    have nW : W ≠ Y := fun z => by rw [z, Y0] at e7; cases e7
    refine ⟨12, rfl, by decide, by decide, ?_⟩
    refine for_range (fun i σ H' => ∃ (z4 z5 : Option V) (nsz : List Int), σ = [some (.ref p), some (.ref y), some (.ref W), some (.ref Y), z4, z5, none, none, none] ∧ SameX Y H8 H' ∧ H' Y = some (.lst (nsz.map V.int))) ?_ ?_ ?_
    · exact ⟨_, _, nsY, rfl, SameX.refl _, hY⟩
    · rintro i σ H9 hi ⟨z4, z5, nsz, rfl, x9, h9⟩
      refine ⟨_, rfl, _, rfl, Y, nsz, W, ws, rfl, h9, x9 _ _ nW e8, nW, hne, by omega, hgw, fun HA l ws1 nsA xA hA l0 el gw1 ln1 wt1 => ?_⟩
      have nl : l ≠ Y := fun z => by rw [z, h9] at l0; cases l0
      refine ⟨fun σ' H' => ∃ (l : Addr) (ws1 : List Str) (nsB : List Int), σ' = [some (.ref p), some (.ref y), some (.ref W), some (.ref Y), some (.int (0 + i)), some (.ref l), none, none, none] ∧ SameX Y H8 H' ∧ H' Y = some (.lst (nsB.map V.int)) ∧ H' l = some (.lst (ws1.map V.str)) ∧ (∀ w ∈ ws1, GW w) ∧ ws1.length ≤ ws.length + 2 ∧ wt ws1 ≤ wt ws + 2, ?_, ?_⟩
      · refine ⟨_, rfl, _, _, rfl, rfl, by simp, rfl, _, rfl, ite2 (fun c => ?_) (fun c => iteF ⟨l, ws1, nsA, rfl, x9.trans xA, hA, el, gw1, by omega, by omega⟩)⟩
        refine ⟨_, rfl, by decide, fun E1 hE1 => ?_⟩
        have sB := same_upd (o := .lst []) hE1
        refine neS (b := []) (fun w hw => (gw1 w hw).2.2) (fun w hw => by cases hw) (sB _ _ el) upd_same ⟨_, rfl, ?_⟩
        generalize upd HA E1 (.lst []) = HB at sB ⊢
        by_cases c2 : ws1 = []
        · exact iteNS c2 ⟨l, ws1, nsA, rfl, (x9.trans xA).trans (Same.x sB), sB _ _ hA, sB _ _ el, gw1, by omega, by omega⟩
        · refine iteNY c2 ⟨_, rfl, _, rfl, Y, nsA, l, ws1, rfl, sB _ _ hA, sB _ _ el, nl, c2, by omega, gw1, fun HC l2 ws2 nsC xC hC l20 el2 gw2 ln2 wt2 => ?_⟩
          exact ⟨l2, ws2, nsC, rfl, ((x9.trans xA).trans (Same.x sB)).trans xC, hC, el2, gw2, by omega, by omega⟩
      rintro _ HB ⟨l, ws1, nsB, rfl, xB, hB, elB, gwB, lnB, wtB⟩
      exact ⟨_, rfl, l, ws1, rfl, elB, gwB, by omega, by omega, fun HC sC => ⟨_, rfl, iteF ⟨_, _, nsB, rfl, xB.trans (Same.x sC), sC _ _ hB⟩⟩⟩
    rintro σ H9 ⟨z4, z5, nsz, rfl, x9, h9⟩
    have e9 := x9 _ _ nW e8
    refine ⟨by rw [sizeLine_eq]; simp, fun D hD => ?_⟩
    have sA := same_upd (o := .lst [.str "q"]) hD
    have eA : (upd H9 D (.lst [.str "q"])) D = some (.lst (([("q" : Str)] : List Str).map V.str)) := upd_same
    generalize upd H9 D (.lst [.str "q"]) = HA at sA eA ⊢
    have hA := sA _ _ h9
    have e10 := sA _ _ e9
    have nD : D ≠ Y := fun z => by rw [z, h9] at hD; cases hD
    have gq : GW "q" := gw_dec (by decide +kernel)
    refine ⟨9, rfl, by decide, by decide, ?_⟩
    refine for_range (fun i σ H' => ∃ (z4 : Option V) (D : Addr) (wsD : List Str) (nsz : List Int), σ = [some (.ref p), some (.ref y), some (.ref W), some (.ref Y), z4, z5, some (.ref D), none, none] ∧ SameX Y HA H' ∧ H' Y = some (.lst (nsz.map V.int)) ∧ H' D = some (.lst (wsD.map V.str)) ∧ (∀ w ∈ wsD, GW w) ∧ wsD.length ≤ 11) ?_ ?_ ?_
    · exact ⟨_, D, ["q"], nsz, rfl, SameX.refl _, hA, eA, fun w hw => by cases List.mem_singleton.mp hw; exact gq, by simp⟩
    · rintro i σ HB hi ⟨z4, D, wsD, nsD, rfl, xB, hB, eD, gwD, lnD⟩
      refine ⟨_, rfl, _, rfl, by rw [sizeLine_eq]; simp, fun Q1 hQ1 => ?_⟩
      have sC := same_upd (o := .lst [.str "q"]) hQ1
      refine ⟨D, Q1, _, _, rfl, rfl, sC _ _ eD, upd_same, by rw [List.length_map, sizeLine_eq]; simp; omega, fun Q2 hQ2 => ?_⟩
      generalize upd HB Q1 (.lst [.str "q"]) = HC at sC hQ2 ⊢
      have sD := same_upd (o := .lst (wsD.map V.str ++ [.str "q"])) hQ2
      have eQ : (upd HC Q2 (.lst (wsD.map V.str ++ [.str "q"]))) Q2 = some (.lst ((wsD ++ [("q" : Str)]).map V.str)) := by rw [upd_same, List.map_append]; rfl
      generalize upd HC Q2 (.lst (wsD.map V.str ++ [.str "q"])) = HD at sD eQ ⊢
      have sBD := sC.trans sD
      have nQ : Q2 ≠ Y := fun z => by rw [z, sC _ _ hB] at hQ2; cases hQ2
      refine ⟨Y, nsD, Q2, wsD ++ ([("q" : Str)] : List Str), rfl, sBD _ _ hB, eQ, nQ, by simp, by simp; omega, fun w hw => ?_, fun HE l ws1 nsE xE hE l0 el gw1 ln1 wt1 => ?_⟩
      · rcases List.mem_append.mp hw with hw | hw
        · exact gwD w hw
        · cases List.mem_singleton.mp hw; exact gq
      refine ⟨11, rfl, l, _, rfl, SqL.of el, fun l2 hl2 => ?_⟩
      have ecut : cutV (ws1.map V.str) none (some 11) = (ws1.take 11).map V.str := by rw [List.map_take]; exact cutV_toN _ 11
      rw [ecut]
      have sF := same_upd (o := .lst ((ws1.take 11).map V.str)) hl2
      exact ⟨_, l2, ws1.take 11, nsE, rfl, (xB.trans (Same.x sBD)).trans (xE.trans (Same.x sF)), sF _ _ hE, upd_same, fun w hw => gw1 w (List.mem_of_mem_take hw), by rw [List.length_take]; omega⟩
    rintro σ HB ⟨z4, D, wsD, nsD, rfl, xB, hB, eD, gwD, lnD⟩
    have eWB := xB _ _ nW e10
    have htxl : tx.length ≤ 3000 := by omega
    refine ⟨rfl, _, rfl, " ", W, ws, 9, rfl, rfl, SqL.of eWB, fun w hw => (hgw w hw).2.1, by have hs : (Str.ofString " ").length = 1 := rfl; rw [hs]; omega, ?_⟩
    rw [etx]
    have lnl : ("\n" : Str).length = 1 := rfl
    have lsp : (" " : Str).length = 1 := rfl
    refine ⟨_, rfl, _, rfl, by rw [sizeLine_eq]; simp, fun tp htp => ?_⟩
    have sC := same_upd (o := .tup [.str tx]) htp
    have eC : (upd HB tp (.tup [.str tx])) tp = some (.tup [.str tx]) := upd_same
    generalize upd HB tp (.tup [.str tx]) = HC at sC eC ⊢
    refine ⟨_, rfl, tx, "\n", rfl, rfl, by rw [sizeLine_eq, lnl]; omega, ?_⟩
    refine ⟨_, rfl, tx, " ", rfl, rfl, by rw [sizeLine_eq, lsp]; omega, ?_⟩
    refine ⟨_, rfl, " ", tx, rfl, rfl, by rw [sizeLine_eq, lsp]; omega, ?_⟩
    refine ⟨by rw [sizeLine_eq]; simp, fun Z hZ => ?_⟩
    have sD := same_upd (o := .lst [.non, .int 7, .ref W, .ref tp, .str (tx ++ "\n"), .str (tx ++ " "), .str (" " ++ tx)]) hZ
    have eD2 : (upd HC Z (.lst [.non, .int 7, .ref W, .ref tp, .str (tx ++ "\n"), .str (tx ++ " "), .str (" " ++ tx)])) Z = some (.lst [.non, .int 7, .ref W, .ref tp, .str (tx ++ "\n"), .str (tx ++ " "), .str (" " ++ tx)]) := upd_same
    generalize upd HC Z (.lst [.non, .int 7, .ref W, .ref tp, .str (tx ++ "\n"), .str (tx ++ " "), .str (" " ++ tx)]) = HD at sD eD2 ⊢
    have eWD := (sC.trans sD) _ _ eWB
    have eDD := (sC.trans sD) _ _ eD
    have eTD := sD _ _ eC
    refine ⟨Z, rfl, ⟨_, SqL.of eD2⟩, ?_⟩
    refine for_list (K := K) (a := Z) (xs := [.non, .int 7, .ref W, .ref tp, .str (tx ++ "\n"), .str (tx ++ " "), .str (" " ++ tx)]) (fun i σ H' => ∃ (z8 : Option V), σ = [some (.ref p), some (.ref y), some (.ref W), some (.ref Y), z4, z5, some (.ref D), some (.str tx), z8] ∧ Same HD H') ?_ ?_ ?_ ?_
    · exact ⟨_, rfl, .refl _⟩
    · rintro i σ H' hi ⟨z8, rfl, s'⟩
      exact SqL.of (s' _ _ eD2)
    · rintro i x σ HE hx ⟨z8, rfl, sE⟩
      refine ⟨_, rfl, x, rfl, ?_⟩
      have eWE := sE _ _ eWD
      have eTE := sE _ _ eTD
      have hm := List.mem_of_getElem? hx
      simp only [List.mem_cons, List.not_mem_nil, or_false] at hm
      rcases hm with rfl | rfl | rfl | rfl | rfl | rfl | rfl
      · refine .inr ⟨.non, rfl, fun H' pr s' er => ?_⟩
        exact ⟨pr, _, _, .str "text", rfl, rfl, SqT.of er, atI_nat (j := 0) rfl, rfl, _, rfl, iteNS rfl ⟨_, rfl, sE.trans s'⟩⟩
      · refine .inr ⟨.int 7, rfl, fun H' pr s' er => ?_⟩
        exact ⟨pr, _, _, .str "text", rfl, rfl, SqT.of er, atI_nat (j := 0) rfl, rfl, _, rfl, iteNS rfl ⟨_, rfl, sE.trans s'⟩⟩
      · refine .inr ⟨.lst eWE, by simp [isTy, eWE], fun H' pr s' er => ?_⟩
        exact ⟨pr, _, _, .str "text", rfl, rfl, SqT.of er, atI_nat (j := 0) rfl, rfl, _, rfl, iteNS rfl ⟨_, rfl, sE.trans s'⟩⟩
      · refine .inr ⟨.tup eTE, by simp [isTy, eTE], fun H' pr s' er => ?_⟩
        exact ⟨pr, _, _, .str "text", rfl, rfl, SqT.of er, atI_nat (j := 0) rfl, rfl, _, rfl, iteNS rfl ⟨_, rfl, sE.trans s'⟩⟩
      · obtain ⟨ws2, q1, q2, q3, w10, q4, q5⟩ := nl_split hne hgw
        rw [etx] at q1
        refine .inl ⟨tx ++ "\n", ws2, rfl, q1, by rw [Str.length_append, lnl]; omega, by omega, fun w hw => Nat.le_trans (q3 w hw) (by decide), fun t ht et => absurd q5 ?_, fun _ H' pr s' er => ?_⟩
        · exact (wds_10 ht w10 (by rw [et]; exact q4)).1
        · exact ⟨pr, _, _, .str "text", rfl, rfl, SqT.of er, atI_nat (j := 0) rfl, rfl, _, rfl, iteNS rfl ⟨_, rfl, sE.trans s'⟩⟩
      · have q1 : Txt.split (tx ++ " ") " " = ws ++ [("" : Str)] := by
          rw [← etx, ← join_sp hne, sp32]
          refine split_join (by simp) fun w hw => ?_
          rcases List.mem_append.mp hw with hw | hw
          · exact (hgw w hw).1
          · cases List.mem_singleton.mp hw; exact gw_empty.1
        refine .inl ⟨tx ++ " ", _, rfl, q1, by rw [Str.length_append, lsp]; omega, by simp; omega, fun w hw => ?_, fun t ht et => ?_, fun _ H' pr s' er => ?_⟩
        · rcases List.mem_append.mp hw with hw | hw
          · exact Nat.le_trans (hgw w hw).2.1 (by decide)
          · cases List.mem_singleton.mp hw; decide
        · exact absurd rfl (wds_10 ht ("" : Str) (by rw [et]; simp)).2
        · exact ⟨pr, _, _, .str "text", rfl, rfl, SqT.of er, atI_nat (j := 0) rfl, rfl, _, rfl, iteNS rfl ⟨_, rfl, sE.trans s'⟩⟩
      · have q1 : Txt.split (" " ++ tx) " " = ("" : Str) :: ws := by
          rw [← etx, ← sp_join hne, sp32]
          refine split_join (by simp) fun w hw => ?_
          rcases List.mem_cons.mp hw with rfl | hw
          · exact gw_empty.1
          · exact (hgw w hw).1
        refine .inl ⟨" " ++ tx, _, rfl, q1, by rw [Str.length_append, lsp]; omega, by simp; omega, fun w hw => ?_, fun t ht et => ?_, fun _ H' pr s' er => ?_⟩
        · rcases List.mem_cons.mp hw with rfl | hw
          · decide
          · exact Nat.le_trans (hgw w hw).2.1 (by decide)
        · exact absurd rfl (wds_10 ht ("" : Str) (by rw [et]; simp)).2
        · exact ⟨pr, _, _, .str "text", rfl, rfl, SqT.of er, atI_nat (j := 0) rfl, rfl, _, rfl, iteNS rfl ⟨_, rfl, sE.trans s'⟩⟩
    rintro σ HE ⟨z8, rfl, sE⟩
    exact ⟨_, rfl, D, wsD, rfl, sE _ _ eDD, gwD, by omega, by have : wt wsD ≤ wsD.length := List.countP_le_length; omega, fun HF sF => k _⟩
end KK

set_option Elab.async false
set_option linter.all false
set_option maxRecDepth 100000
set_option maxHeartbeats 4000000
namespace KK
open PySem PySem.Spec L2 L3
def spL (K : PySem.W.Frag) : Sp := fun vs H Q _ => ∃ (p : Addr) (ns : List Int), vs = [.ref p] ∧ SqL K H p (ns.map V.int) ∧ ns.length ≤ 63 ∧ ∀ H', Q (.bl true) H'
theorem all_mk {l : PySem.W.OpenLaw} {w : World} {K : PySem.W.Frag} {h : Heap} {mg : Str → Option Value} {fa : Addr} (X : K.In h) (G : h.Ns mainGlobals mg) (hfa : mg "law" = some (.ref fa))
    {f0 f1 f2 f3 f4 f5 f6 f7 f8 f9 f10 f11 f12 f13 f14 f15 f16 f17 f18 f19 f20 f21 f22 f23 f24 f25 : Addr}
    {C_Reader C_TimeError C_BadWorld C_BadSentence C_NoText C_NoLine C_NoWorld : Addr}
    {od0 an0 od1 an1 od2 an2 od3 an3 od4 an4 od5 an5 od6 an6 od7 an7 od8 an8 od9 an9 od10 an10 od11 an11 od12 an12 od13 an13 od14 an14 od15 an15 od16 an16 od17 an17 od18 an18 od19 an19 od20 an20 od21 an21 od22 an22 od23 an23 od24 an24 od25 an25 : Option Addr}
    {sl0 sl1 sl2 sl3 sl4 sl5 sl6 sl7 sl8 sl9 sl10 sl11 sl12 sl13 sl14 sl15 sl16 sl17 sl18 sl19 sl20 sl21 sl22 sl23 sl24 sl25 : Array (Option Value)}
    {oc0 kV0 dc0 pm0 cd0 ct0 oc1 kV1 dc1 pm1 cd1 ct1 oc2 kV2 dc2 pm2 cd2 ct2 oc3 kV3 dc3 pm3 cd3 ct3 oc4 kV4 dc4 pm4 cd4 ct4 oc5 kV5 dc5 pm5 cd5 ct5 oc6 kV6 dc6 pm6 cd6 ct6 oc7 kV7 dc7 pm7 cd7 ct7 oc8 kV8 dc8 pm8 cd8 ct8 oc9 kV9 dc9 pm9 cd9 ct9 oc10 kV10 dc10 pm10 cd10 ct10 oc11 kV11 dc11 pm11 cd11 ct11 oc12 kV12 dc12 pm12 cd12 ct12 oc13 kV13 dc13 pm13 cd13 ct13 oc14 kV14 dc14 pm14 cd14 ct14 oc15 kV15 dc15 pm15 cd15 ct15 oc16 kV16 dc16 pm16 cd16 ct16 oc17 kV17 dc17 pm17 cd17 ct17 oc18 kV18 dc18 pm18 cd18 ct18 oc19 kV19 dc19 pm19 cd19 ct19 oc20 kV20 dc20 pm20 cd20 ct20 oc21 kV21 dc21 pm21 cd21 ct21 oc22 kV22 dc22 pm22 cd22 ct22 oc23 kV23 dc23 pm23 cd23 ct23 oc24 kV24 dc24 pm24 cd24 ct24 oc25 kV25 dc25 pm25 cd25 ct25 : Value}
    {D_LENGTHS : Addr} {es_LENGTHS : Array DictEntry} {nn_LENGTHS : Nat} {dt_LENGTHS_0 dt_LENGTHS_1 dt_LENGTHS_2 dt_LENGTHS_3 dt_LENGTHS_4 dt_LENGTHS_5 dt_LENGTHS_6 dt_LENGTHS_7 dt_LENGTHS_8 dt_LENGTHS_9 dt_LENGTHS_10 : Tok}
    {tk_LETTERS tk_MOST_LETTERS tk_MOST_WITHIN : Tok}
    {Y_HEADS : Addr} {yd_HEADS : Option Addr} {yl_HEADS : Array (Option Value)} {yn_HEADS : Nat} {yt_HEADS_0 yt_HEADS_1 yt_HEADS_2 yt_HEADS_3 yt_HEADS_4 yt_HEADS_5 yt_HEADS_6 yt_HEADS_7 yt_HEADS_8 : Tok}
    {Y_BETWEEN : Addr} {yd_BETWEEN : Option Addr} {yl_BETWEEN : Array (Option Value)} {yn_BETWEEN : Nat} {yt_BETWEEN_0 yt_BETWEEN_1 : Tok}
    {Y_JOINS : Addr} {yd_JOINS : Option Addr} {yl_JOINS : Array (Option Value)} {yn_JOINS : Nat} {yt_JOINS_0 yt_JOINS_1 : Tok}
    {Y_TURNS : Addr} {yd_TURNS : Option Addr} {yl_TURNS : Array (Option Value)} {yn_TURNS : Nat} {yt_TURNS_0 yt_TURNS_1 yt_TURNS_2 yt_TURNS_3 yt_TURNS_4 yt_TURNS_5 : Tok}
    {Y_BESIDE : Addr} {yd_BESIDE : Option Addr} {yl_BESIDE : Array (Option Value)} {yn_BESIDE : Nat} {yt_BESIDE_0 yt_BESIDE_1 yt_BESIDE_2 yt_BESIDE_3 yt_BESIDE_4 yt_BESIDE_5 yt_BESIDE_6 yt_BESIDE_7 yt_BESIDE_8 yt_BESIDE_9 yt_BESIDE_10 : Tok}
    (aC_Reader : PySem.W.nsIn K mainGlobals "Reader" = some (some (.ref C_Reader)))
    (aC_TimeError : PySem.W.nsIn K mainGlobals "TimeError" = some (some (.ref C_TimeError)))
    (aC_BadWorld : PySem.W.nsIn K mainGlobals "BadWorld" = some (some (.ref C_BadWorld)))
    (aC_BadSentence : PySem.W.nsIn K mainGlobals "BadSentence" = some (some (.ref C_BadSentence)))
    (aC_NoText : PySem.W.nsIn K mainGlobals "NoText" = some (some (.ref C_NoText)))
    (aC_NoLine : PySem.W.nsIn K mainGlobals "NoLine" = some (some (.ref C_NoLine)))
    (aC_NoWorld : PySem.W.nsIn K mainGlobals "NoWorld" = some (some (.ref C_NoWorld)))
    (a0 : PySem.W.nsIn K mainGlobals "is_whole" = some (some (.ref f0)))
    (l0 : K.lookup f0 = some ⟨oc0, od0, .func (PySem.W.fnOf "is_whole" "is_whole" (defArgs s_is_whole) (defBody s_is_whole) (defScope s_is_whole) .none kV0 dc0 pm0 an0 cd0 ct0), sl0⟩)
    (c0 : PySem.W.codeIn K cd0 "is_whole" = true)
    (k0 : PySem.W.keepIn K (.ref f0) = true)
    (a1 : PySem.W.nsIn K mainGlobals "is_name" = some (some (.ref f1)))
    (l1 : K.lookup f1 = some ⟨oc1, od1, .func (PySem.W.fnOf "is_name" "is_name" (defArgs s_is_name) (defBody s_is_name) (defScope s_is_name) .none kV1 dc1 pm1 an1 cd1 ct1), sl1⟩)
    (c1 : PySem.W.codeIn K cd1 "is_name" = true)
    (k1 : PySem.W.keepIn K (.ref f1) = true)
    (a2 : PySem.W.nsIn K mainGlobals "last_ones" = some (some (.ref f2)))
    (l2 : K.lookup f2 = some ⟨oc2, od2, .func (PySem.W.fnOf "last_ones" "last_ones" (defArgs s_last_ones) (defBody s_last_ones) (defScope s_last_ones) .none kV2 dc2 pm2 an2 cd2 ct2), sl2⟩)
    (c2 : PySem.W.codeIn K cd2 "last_ones" = true)
    (k2 : PySem.W.keepIn K (.ref f2) = true)
    (a3 : PySem.W.nsIn K mainGlobals "is_formed" = some (some (.ref f3)))
    (l3 : K.lookup f3 = some ⟨oc3, od3, .func (PySem.W.fnOf "is_formed" "is_formed" (defArgs s_is_formed) (defBody s_is_formed) (defScope s_is_formed) .none kV3 dc3 pm3 an3 cd3 ct3), sl3⟩)
    (c3 : PySem.W.codeIn K cd3 "is_formed" = true)
    (k3 : PySem.W.keepIn K (.ref f3) = true)
    (a4 : PySem.W.nsIn K mainGlobals "inner_of" = some (some (.ref f4)))
    (l4 : K.lookup f4 = some ⟨oc4, od4, .func (PySem.W.fnOf "inner_of" "inner_of" (defArgs s_inner_of) (defBody s_inner_of) (defScope s_inner_of) .none kV4 dc4 pm4 an4 cd4 ct4), sl4⟩)
    (c4 : PySem.W.codeIn K cd4 "inner_of" = true)
    (k4 : PySem.W.keepIn K (.ref f4) = true)
    (a5 : PySem.W.nsIn K mainGlobals "inner_ahead" = some (some (.ref f5)))
    (l5 : K.lookup f5 = some ⟨oc5, od5, .func (PySem.W.fnOf "inner_ahead" "inner_ahead" (defArgs s_inner_ahead) (defBody s_inner_ahead) (defScope s_inner_ahead) .none kV5 dc5 pm5 an5 cd5 ct5), sl5⟩)
    (c5 : PySem.W.codeIn K cd5 "inner_ahead" = true)
    (k5 : PySem.W.keepIn K (.ref f5) = true)
    (a6 : PySem.W.nsIn K mainGlobals "show" = some (some (.ref f6)))
    (l6 : K.lookup f6 = some ⟨oc6, od6, .func (PySem.W.fnOf "show" "show" (defArgs s_show) (defBody s_show) (defScope s_show) .none kV6 dc6 pm6 an6 cd6 ct6), sl6⟩)
    (c6 : PySem.W.codeIn K cd6 "show" = true)
    (k6 : PySem.W.keepIn K (.ref f6) = true)
    (a7 : PySem.W.nsIn K mainGlobals "words_with" = some (some (.ref f7)))
    (l7 : K.lookup f7 = some ⟨oc7, od7, .func (PySem.W.fnOf "words_with" "words_with" (defArgs s_words_with) (defBody s_words_with) (defScope s_words_with) .none kV7 dc7 pm7 an7 cd7 ct7), sl7⟩)
    (c7 : PySem.W.codeIn K cd7 "words_with" = true)
    (k7 : PySem.W.keepIn K (.ref f7) = true)
    (a8 : PySem.W.nsIn K mainGlobals "read_sentence" = some (some (.ref f8)))
    (l8 : K.lookup f8 = some ⟨oc8, od8, .func (PySem.W.fnOf "read_sentence" "read_sentence" (defArgs s_read_sentence) (defBody s_read_sentence) (defScope s_read_sentence) .none kV8 dc8 pm8 an8 cd8 ct8), sl8⟩)
    (c8 : PySem.W.codeIn K cd8 "read_sentence" = true)
    (k8 : PySem.W.keepIn K (.ref f8) = true)
    (a9 : PySem.W.findIn K (.ref C_Reader) "__init__" = some (some (.ref f9)))
    (i9 : PySem.W.isFn K (.ref f9) = true)
    (l9 : K.lookup f9 = some ⟨oc9, od9, .func (PySem.W.fnOf "__init__" "Reader.__init__" (defArgs s_Reader_init) (defBody s_Reader_init) (defScope s_Reader_init) .none kV9 dc9 pm9 an9 cd9 ct9), sl9⟩)
    (c9 : PySem.W.codeIn K cd9 "Reader.__init__" = true)
    (k9 : PySem.W.keepIn K (.ref f9) = true)
    (a10 : PySem.W.findIn K (.ref C_Reader) "take_word" = some (some (.ref f10)))
    (i10 : PySem.W.isFn K (.ref f10) = true)
    (l10 : K.lookup f10 = some ⟨oc10, od10, .func (PySem.W.fnOf "take_word" "Reader.take_word" (defArgs s_Reader_take_word) (defBody s_Reader_take_word) (defScope s_Reader_take_word) .none kV10 dc10 pm10 an10 cd10 ct10), sl10⟩)
    (c10 : PySem.W.codeIn K cd10 "Reader.take_word" = true)
    (k10 : PySem.W.keepIn K (.ref f10) = true)
    (a11 : PySem.W.findIn K (.ref C_Reader) "open_bracket" = some (some (.ref f11)))
    (i11 : PySem.W.isFn K (.ref f11) = true)
    (l11 : K.lookup f11 = some ⟨oc11, od11, .func (PySem.W.fnOf "open_bracket" "Reader.open_bracket" (defArgs s_Reader_open_bracket) (defBody s_Reader_open_bracket) (defScope s_Reader_open_bracket) .none kV11 dc11 pm11 an11 cd11 ct11), sl11⟩)
    (c11 : PySem.W.codeIn K cd11 "Reader.open_bracket" = true)
    (k11 : PySem.W.keepIn K (.ref f11) = true)
    (a12 : PySem.W.findIn K (.ref C_Reader) "take_sentence" = some (some (.ref f12)))
    (i12 : PySem.W.isFn K (.ref f12) = true)
    (l12 : K.lookup f12 = some ⟨oc12, od12, .func (PySem.W.fnOf "take_sentence" "Reader.take_sentence" (defArgs s_Reader_take_sentence) (defBody s_Reader_take_sentence) (defScope s_Reader_take_sentence) .none kV12 dc12 pm12 an12 cd12 ct12), sl12⟩)
    (c12 : PySem.W.codeIn K cd12 "Reader.take_sentence" = true)
    (k12 : PySem.W.keepIn K (.ref f12) = true)
    (a13 : PySem.W.findIn K (.ref C_Reader) "told" = some (some (.ref f13)))
    (i13 : PySem.W.isFn K (.ref f13) = true)
    (l13 : K.lookup f13 = some ⟨oc13, od13, .func (PySem.W.fnOf "told" "Reader.told" (defArgs s_Reader_told) (defBody s_Reader_told) (defScope s_Reader_told) .none kV13 dc13 pm13 an13 cd13 ct13), sl13⟩)
    (c13 : PySem.W.codeIn K cd13 "Reader.told" = true)
    (k13 : PySem.W.keepIn K (.ref f13) = true)
    (a14 : PySem.W.nsIn K mainGlobals "bracketed" = some (some (.ref f14)))
    (l14 : K.lookup f14 = some ⟨oc14, od14, .func (PySem.W.fnOf "bracketed" "bracketed" (defArgs s_bracketed) (defBody s_bracketed) (defScope s_bracketed) .none kV14 dc14 pm14 an14 cd14 ct14), sl14⟩)
    (c14 : PySem.W.codeIn K cd14 "bracketed" = true)
    (k14 : PySem.W.keepIn K (.ref f14) = true)
    (a15 : PySem.W.nsIn K mainGlobals "_law_cell_at" = some (some (.ref f15)))
    (l15 : K.lookup f15 = some ⟨oc15, od15, .func (PySem.W.fnOf "_law_cell_at" "_law_cell_at" (defArgs s__law_cell_at) (defBody s__law_cell_at) (defScope s__law_cell_at) .none kV15 dc15 pm15 an15 cd15 ct15), sl15⟩)
    (c15 : PySem.W.codeIn K cd15 "_law_cell_at" = true)
    (k15 : PySem.W.keepIn K (.ref f15) = true)
    (a16 : PySem.W.nsIn K mainGlobals "_law_stream" = some (some (.ref f16)))
    (l16 : K.lookup f16 = some ⟨oc16, od16, .func (PySem.W.fnOf "_law_stream" "_law_stream" (defArgs s__law_stream) (defBody s__law_stream) (defScope s__law_stream) .none kV16 dc16 pm16 an16 cd16 ct16), sl16⟩)
    (c16 : PySem.W.codeIn K cd16 "_law_stream" = true)
    (k16 : PySem.W.keepIn K (.ref f16) = true)
    (a17 : PySem.W.nsIn K mainGlobals "_law_draw" = some (some (.ref f17)))
    (l17 : K.lookup f17 = some ⟨oc17, od17, .func (PySem.W.fnOf "_law_draw" "_law_draw" (defArgs s__law_draw) (defBody s__law_draw) (defScope s__law_draw) .none kV17 dc17 pm17 an17 cd17 ct17), sl17⟩)
    (c17 : PySem.W.codeIn K cd17 "_law_draw" = true)
    (k17 : PySem.W.keepIn K (.ref f17) = true)
    (a18 : PySem.W.nsIn K mainGlobals "_law_sentence" = some (some (.ref f18)))
    (l18 : K.lookup f18 = some ⟨oc18, od18, .func (PySem.W.fnOf "_law_sentence" "_law_sentence" (defArgs s__law_sentence) (defBody s__law_sentence) (defScope s__law_sentence) .none kV18 dc18 pm18 an18 cd18 ct18), sl18⟩)
    (c18 : PySem.W.codeIn K cd18 "_law_sentence" = true)
    (k18 : PySem.W.keepIn K (.ref f18) = true)
    (a19 : PySem.W.nsIn K mainGlobals "_law_is_name" = some (some (.ref f19)))
    (l19 : K.lookup f19 = some ⟨oc19, od19, .func (PySem.W.fnOf "_law_is_name" "_law_is_name" (defArgs s__law_is_name) (defBody s__law_is_name) (defScope s__law_is_name) .none kV19 dc19 pm19 an19 cd19 ct19), sl19⟩)
    (c19 : PySem.W.codeIn K cd19 "_law_is_name" = true)
    (k19 : PySem.W.keepIn K (.ref f19) = true)
    (a20 : PySem.W.nsIn K mainGlobals "_law_end" = some (some (.ref f20)))
    (l20 : K.lookup f20 = some ⟨oc20, od20, .func (PySem.W.fnOf "_law_end" "_law_end" (defArgs s__law_end) (defBody s__law_end) (defScope s__law_end) .none kV20 dc20 pm20 an20 cd20 ct20), sl20⟩)
    (c20 : PySem.W.codeIn K cd20 "_law_end" = true)
    (k20 : PySem.W.keepIn K (.ref f20) = true)
    (a21 : PySem.W.nsIn K mainGlobals "_law_end_of_brackets" = some (some (.ref f21)))
    (l21 : K.lookup f21 = some ⟨oc21, od21, .func (PySem.W.fnOf "_law_end_of_brackets" "_law_end_of_brackets" (defArgs s__law_end_of_brackets) (defBody s__law_end_of_brackets) (defScope s__law_end_of_brackets) .none kV21 dc21 pm21 an21 cd21 ct21), sl21⟩)
    (c21 : PySem.W.codeIn K cd21 "_law_end_of_brackets" = true)
    (k21 : PySem.W.keepIn K (.ref f21) = true)
    (a22 : PySem.W.nsIn K mainGlobals "_law_changed" = some (some (.ref f22)))
    (l22 : K.lookup f22 = some ⟨oc22, od22, .func (PySem.W.fnOf "_law_changed" "_law_changed" (defArgs s__law_changed) (defBody s__law_changed) (defScope s__law_changed) .none kV22 dc22 pm22 an22 cd22 ct22), sl22⟩)
    (c22 : PySem.W.codeIn K cd22 "_law_changed" = true)
    (k22 : PySem.W.keepIn K (.ref f22) = true)
    (a23 : PySem.W.nsIn K mainGlobals "_law_read" = some (some (.ref f23)))
    (l23 : K.lookup f23 = some ⟨oc23, od23, .func (PySem.W.fnOf "_law_read" "_law_read" (defArgs s__law_read) (defBody s__law_read) (defScope s__law_read) .none kV23 dc23 pm23 an23 cd23 ct23), sl23⟩)
    (c23 : PySem.W.codeIn K cd23 "_law_read" = true)
    (k23 : PySem.W.keepIn K (.ref f23) = true)
    (a24 : PySem.W.nsIn K mainGlobals "_law_right" = some (some (.ref f24)))
    (l24 : K.lookup f24 = some ⟨oc24, od24, .func (PySem.W.fnOf "_law_right" "_law_right" (defArgs s__law_right) (defBody s__law_right) (defScope s__law_right) .none kV24 dc24 pm24 an24 cd24 ct24), sl24⟩)
    (c24 : PySem.W.codeIn K cd24 "_law_right" = true)
    (k24 : PySem.W.keepIn K (.ref f24) = true)
    (a25 : PySem.W.nsIn K mainGlobals "law" = some (some (.ref f25)))
    (l25 : K.lookup f25 = some ⟨oc25, od25, .func (PySem.W.fnOf "law" "law" (defArgs s_law) (defBody s_law) (defScope s_law) .none kV25 dc25 pm25 an25 cd25 ct25), sl25⟩)
    (c25 : PySem.W.codeIn K cd25 "law" = true)
    (k25 : PySem.W.keepIn K (.ref f25) = true)
    (pg_Reader : PySem.W.plainGet K C_Reader Str.empty = true)
    (hd_Reader : PySem.W.hasDictIn K C_Reader = true)
    (po_Reader : PySem.W.plainOver K C_Reader = true)
    (sa_Reader : PySem.W.findIn K (.ref C_Reader) "__setattr__" = some (some (.builtin "object.__setattr__")))
    (mk_Reader : PySem.W.makesIn K C_Reader = true)
    (kc_Reader : PySem.W.keepIn K (.ref C_Reader) = true)
    (t1_Reader : PySem.W.findIn K (.ref C_Reader) "__class__" = some (some (.builtin "object.__class__")))
    (t2_Reader : PySem.W.specialIn K (.builtin "object.__class__") "__get__" = some (some (.builtin "getset_descriptor.__get__")))
    (t3_Reader : PySem.W.takesIn K (.builtin "object.__class__") = some true)
    (t4_Reader : PySem.W.mroIn K C_Reader (.type "object") = some true)
    (n_Reader_waiting : PySem.W.findIn K (.ref C_Reader) "waiting" = some none)
    (n_Reader_found : PySem.W.findIn K (.ref C_Reader) "found" = some none)
    (z_ValueError : PySem.W.nsIn K mainGlobals "ValueError" = some none)
    (z_all : PySem.W.nsIn K mainGlobals "all" = some none)
    (z_tuple : PySem.W.nsIn K mainGlobals "tuple" = some none)
    (z_range : PySem.W.nsIn K mainGlobals "range" = some none)
    (z_isinstance : PySem.W.nsIn K mainGlobals "isinstance" = some none)
    (z_int : PySem.W.nsIn K mainGlobals "int" = some none)
    (z_len : PySem.W.nsIn K mainGlobals "len" = some none)
    (z_str : PySem.W.nsIn K mainGlobals "str" = some none)
    (z_bool : PySem.W.nsIn K mainGlobals "bool" = some none)
    (z_list : PySem.W.nsIn K mainGlobals "list" = some none)
    (x_LETTERS : PySem.W.nsIn K mainGlobals "LETTERS" = some (some (.str "abcdefghijklmnopqrstuvwxyz" tk_LETTERS)))
    (x_MOST_LETTERS : PySem.W.nsIn K mainGlobals "MOST_LETTERS" = some (some (.int 8 tk_MOST_LETTERS)))
    (x_MOST_WITHIN : PySem.W.nsIn K mainGlobals "MOST_WITHIN" = some (some (.int 5 tk_MOST_WITHIN)))
    (aD_LENGTHS : PySem.W.nsIn K mainGlobals "LENGTHS" = some (some (.ref D_LENGTHS)))
    (lD_LENGTHS : K.lookup D_LENGTHS = some ⟨.type "dict", none, .dict es_LENGTHS nn_LENGTHS, #[]⟩)
    (kD_LENGTHS : PySem.W.KeysLit w.params es_LENGTHS.toList)
    (e_LENGTHS_0 : PySem.W.nsIn K D_LENGTHS "all" = some (some (.int 2 dt_LENGTHS_0)))
    (e_LENGTHS_1 : PySem.W.nsIn K D_LENGTHS "some" = some (some (.int 2 dt_LENGTHS_1)))
    (e_LENGTHS_2 : PySem.W.nsIn K D_LENGTHS "not" = some (some (.int 2 dt_LENGTHS_2)))
    (e_LENGTHS_3 : PySem.W.nsIn K D_LENGTHS "next" = some (some (.int 2 dt_LENGTHS_3)))
    (e_LENGTHS_4 : PySem.W.nsIn K D_LENGTHS "always" = some (some (.int 2 dt_LENGTHS_4)))
    (e_LENGTHS_5 : PySem.W.nsIn K D_LENGTHS "ever" = some (some (.int 2 dt_LENGTHS_5)))
    (e_LENGTHS_6 : PySem.W.nsIn K D_LENGTHS "before" = some (some (.int 2 dt_LENGTHS_6)))
    (e_LENGTHS_7 : PySem.W.nsIn K D_LENGTHS "once" = some (some (.int 2 dt_LENGTHS_7)))
    (e_LENGTHS_8 : PySem.W.nsIn K D_LENGTHS "sofar" = some (some (.int 2 dt_LENGTHS_8)))
    (e_LENGTHS_9 : PySem.W.nsIn K D_LENGTHS "until" = some (some (.int 3 dt_LENGTHS_9)))
    (e_LENGTHS_10 : PySem.W.nsIn K D_LENGTHS "since" = some (some (.int 3 dt_LENGTHS_10)))
    (oD_LENGTHS : (D_LENGTHS == sysModules) = false)
    (aY_HEADS : PySem.W.nsIn K mainGlobals "HEADS" = some (some (.ref Y_HEADS)))
    (lY_HEADS : K.lookup Y_HEADS = some ⟨.type "tuple", yd_HEADS, .seq #[.str "not" yt_HEADS_0, .str "next" yt_HEADS_1, .str "always" yt_HEADS_2, .str "ever" yt_HEADS_3, .str "before" yt_HEADS_4, .str "once" yt_HEADS_5, .str "sofar" yt_HEADS_6, .str "all" yt_HEADS_7, .str "some" yt_HEADS_8] yn_HEADS, yl_HEADS⟩)
    (aY_BETWEEN : PySem.W.nsIn K mainGlobals "BETWEEN" = some (some (.ref Y_BETWEEN)))
    (lY_BETWEEN : K.lookup Y_BETWEEN = some ⟨.type "tuple", yd_BETWEEN, .seq #[.str "until" yt_BETWEEN_0, .str "since" yt_BETWEEN_1] yn_BETWEEN, yl_BETWEEN⟩)
    (aY_JOINS : PySem.W.nsIn K mainGlobals "JOINS" = some (some (.ref Y_JOINS)))
    (lY_JOINS : K.lookup Y_JOINS = some ⟨.type "tuple", yd_JOINS, .seq #[.str "and" yt_JOINS_0, .str "or" yt_JOINS_1] yn_JOINS, yl_JOINS⟩)
    (aY_TURNS : PySem.W.nsIn K mainGlobals "TURNS" = some (some (.ref Y_TURNS)))
    (lY_TURNS : K.lookup Y_TURNS = some ⟨.type "tuple", yd_TURNS, .seq #[.str "0" yt_TURNS_0, .str "1" yt_TURNS_1, .str "2" yt_TURNS_2, .str "3" yt_TURNS_3, .str "4" yt_TURNS_4, .str "5" yt_TURNS_5] yn_TURNS, yl_TURNS⟩)
    (aY_BESIDE : PySem.W.nsIn K mainGlobals "BESIDE" = some (some (.ref Y_BESIDE)))
    (lY_BESIDE : K.lookup Y_BESIDE = some ⟨.type "tuple", yd_BESIDE, .seq #[.str "until" yt_BESIDE_0, .str "since" yt_BESIDE_1, .str "and" yt_BESIDE_2, .str "or" yt_BESIDE_3, .str "within" yt_BESIDE_4, .str "0" yt_BESIDE_5, .str "1" yt_BESIDE_6, .str "2" yt_BESIDE_7, .str "3" yt_BESIDE_8, .str "4" yt_BESIDE_9, .str "5" yt_BESIDE_10] yn_BESIDE, yl_BESIDE⟩)
    (xc_TimeError : PySem.W.excIn K C_TimeError [.type "ValueError", .type "Exception", .type "BaseException", .type "object"] "ValueError.__new__" = true)
    (xc_BadWorld : PySem.W.excIn K C_BadWorld [.type "ValueError", .type "Exception", .type "BaseException", .type "object"] "ValueError.__new__" = true)
    (xc_BadSentence : PySem.W.excIn K C_BadSentence [.type "ValueError", .type "Exception", .type "BaseException", .type "object"] "ValueError.__new__" = true)
    (xc_NoText : PySem.W.excIn K C_NoText [.type "ValueError", .type "Exception", .type "BaseException", .type "object"] "ValueError.__new__" = true)
    (xc_NoLine : PySem.W.excIn K C_NoLine [.type "ValueError", .type "Exception", .type "BaseException", .type "object"] "ValueError.__new__" = true)
    (xc_NoWorld : PySem.W.excIn K C_NoWorld [.type "ValueError", .type "Exception", .type "BaseException", .type "object"] "ValueError.__new__" = true)
    (xgt : PySem.W.specialIn K (.builtin "object.__class__") "__get__" = some (some (.builtin "getset_descriptor.__get__")))
    (xtk : PySem.W.takesIn K (.builtin "object.__class__") = some true)
    (xga_NoText : PySem.W.findIn K (.ref C_NoText) "__getattribute__" = some (some (.builtin "BaseException.__getattribute__")))
    (xgh_NoText : PySem.W.findIn K (.ref C_NoText) "__getattr__" = some none)
    (xob_NoText : PySem.W.mroIn K C_NoText (.type "object") = some true)
    (xbe_NoText : PySem.W.mroIn K C_NoText (.type "BaseException") = some true)
    (xcl_NoText : PySem.W.findIn K (.ref C_NoText) "__class__" = some (some (.builtin "object.__class__")))
    (xhd_NoText : PySem.W.hasDictIn K C_NoText = true)
    (sb_TimeError : PySem.W.subIn K (.ref C_TimeError) (.type "BaseException") = some true)
    (nk_signs : PySem.W.nsIn K D_LENGTHS "signs" = some none)
    (nk_Next : PySem.W.nsIn K D_LENGTHS "Next" = some none)
    (ne_NoText_TimeError : (Value.ref C_NoText == Value.ref C_TimeError) = false)
    (i1_NoText : PySem.W.kitOne K (.ref C_NoText) (.ref C_TimeError) = some true)
    (i3_NoText : PySem.W.kitOne K (.ref C_NoText) (.type "ValueError") = some true)
    (i2_NoText : PySem.W.kitOne K (.ref C_NoText) (.ref C_NoText) = some true)
    (i4_NoText : PySem.W.kitAny K (.ref C_NoText) [.ref C_BadSentence, .ref C_BadWorld, .ref C_NoLine, .ref C_NoWorld] = some false) :
    ∃ fd : FuncData, (∀ (s : Shared) (v : Value), BindsTo s fd ⟨[v], []⟩ [("_law_script", v)]) ∧ ∀ base : Heap, K.In base → base.Ns mainGlobals mg → FnOk l.prog w K mg base CX0 192 fa fd ["_law_script"] (spL K) := by
  have e := hfa.symm.trans (PySem.W.mg_of X G a25)
  cases e
  have T : Txt K mg { is_whole := f0, is_whole_fd := PySem.W.fnOf "is_whole" "is_whole" (defArgs s_is_whole) (defBody s_is_whole) (defScope s_is_whole) .none kV0 dc0 pm0 an0 cd0 ct0, is_name := f1, is_name_fd := PySem.W.fnOf "is_name" "is_name" (defArgs s_is_name) (defBody s_is_name) (defScope s_is_name) .none kV1 dc1 pm1 an1 cd1 ct1, last_ones := f2, last_ones_fd := PySem.W.fnOf "last_ones" "last_ones" (defArgs s_last_ones) (defBody s_last_ones) (defScope s_last_ones) .none kV2 dc2 pm2 an2 cd2 ct2, is_formed := f3, is_formed_fd := PySem.W.fnOf "is_formed" "is_formed" (defArgs s_is_formed) (defBody s_is_formed) (defScope s_is_formed) .none kV3 dc3 pm3 an3 cd3 ct3, inner_of := f4, inner_of_fd := PySem.W.fnOf "inner_of" "inner_of" (defArgs s_inner_of) (defBody s_inner_of) (defScope s_inner_of) .none kV4 dc4 pm4 an4 cd4 ct4, inner_ahead := f5, inner_ahead_fd := PySem.W.fnOf "inner_ahead" "inner_ahead" (defArgs s_inner_ahead) (defBody s_inner_ahead) (defScope s_inner_ahead) .none kV5 dc5 pm5 an5 cd5 ct5, «show» := f6, show_fd := PySem.W.fnOf "show" "show" (defArgs s_show) (defBody s_show) (defScope s_show) .none kV6 dc6 pm6 an6 cd6 ct6, words_with := f7, words_with_fd := PySem.W.fnOf "words_with" "words_with" (defArgs s_words_with) (defBody s_words_with) (defScope s_words_with) .none kV7 dc7 pm7 an7 cd7 ct7, read_sentence := f8, read_sentence_fd := PySem.W.fnOf "read_sentence" "read_sentence" (defArgs s_read_sentence) (defBody s_read_sentence) (defScope s_read_sentence) .none kV8 dc8 pm8 an8 cd8 ct8, Reader_init := f9, Reader_init_fd := PySem.W.fnOf "__init__" "Reader.__init__" (defArgs s_Reader_init) (defBody s_Reader_init) (defScope s_Reader_init) .none kV9 dc9 pm9 an9 cd9 ct9, Reader_take_word := f10, Reader_take_word_fd := PySem.W.fnOf "take_word" "Reader.take_word" (defArgs s_Reader_take_word) (defBody s_Reader_take_word) (defScope s_Reader_take_word) .none kV10 dc10 pm10 an10 cd10 ct10, Reader_open_bracket := f11, Reader_open_bracket_fd := PySem.W.fnOf "open_bracket" "Reader.open_bracket" (defArgs s_Reader_open_bracket) (defBody s_Reader_open_bracket) (defScope s_Reader_open_bracket) .none kV11 dc11 pm11 an11 cd11 ct11, Reader_take_sentence := f12, Reader_take_sentence_fd := PySem.W.fnOf "take_sentence" "Reader.take_sentence" (defArgs s_Reader_take_sentence) (defBody s_Reader_take_sentence) (defScope s_Reader_take_sentence) .none kV12 dc12 pm12 an12 cd12 ct12, Reader_told := f13, Reader_told_fd := PySem.W.fnOf "told" "Reader.told" (defArgs s_Reader_told) (defBody s_Reader_told) (defScope s_Reader_told) .none kV13 dc13 pm13 an13 cd13 ct13, bracketed := f14, bracketed_fd := PySem.W.fnOf "bracketed" "bracketed" (defArgs s_bracketed) (defBody s_bracketed) (defScope s_bracketed) .none kV14 dc14 pm14 an14 cd14 ct14, _law_cell_at := f15, _law_cell_at_fd := PySem.W.fnOf "_law_cell_at" "_law_cell_at" (defArgs s__law_cell_at) (defBody s__law_cell_at) (defScope s__law_cell_at) .none kV15 dc15 pm15 an15 cd15 ct15, _law_stream := f16, _law_stream_fd := PySem.W.fnOf "_law_stream" "_law_stream" (defArgs s__law_stream) (defBody s__law_stream) (defScope s__law_stream) .none kV16 dc16 pm16 an16 cd16 ct16, _law_draw := f17, _law_draw_fd := PySem.W.fnOf "_law_draw" "_law_draw" (defArgs s__law_draw) (defBody s__law_draw) (defScope s__law_draw) .none kV17 dc17 pm17 an17 cd17 ct17, _law_sentence := f18, _law_sentence_fd := PySem.W.fnOf "_law_sentence" "_law_sentence" (defArgs s__law_sentence) (defBody s__law_sentence) (defScope s__law_sentence) .none kV18 dc18 pm18 an18 cd18 ct18, _law_is_name := f19, _law_is_name_fd := PySem.W.fnOf "_law_is_name" "_law_is_name" (defArgs s__law_is_name) (defBody s__law_is_name) (defScope s__law_is_name) .none kV19 dc19 pm19 an19 cd19 ct19, _law_end := f20, _law_end_fd := PySem.W.fnOf "_law_end" "_law_end" (defArgs s__law_end) (defBody s__law_end) (defScope s__law_end) .none kV20 dc20 pm20 an20 cd20 ct20, _law_end_of_brackets := f21, _law_end_of_brackets_fd := PySem.W.fnOf "_law_end_of_brackets" "_law_end_of_brackets" (defArgs s__law_end_of_brackets) (defBody s__law_end_of_brackets) (defScope s__law_end_of_brackets) .none kV21 dc21 pm21 an21 cd21 ct21, _law_changed := f22, _law_changed_fd := PySem.W.fnOf "_law_changed" "_law_changed" (defArgs s__law_changed) (defBody s__law_changed) (defScope s__law_changed) .none kV22 dc22 pm22 an22 cd22 ct22, _law_read := f23, _law_read_fd := PySem.W.fnOf "_law_read" "_law_read" (defArgs s__law_read) (defBody s__law_read) (defScope s__law_read) .none kV23 dc23 pm23 an23 cd23 ct23, _law_right := f24, _law_right_fd := PySem.W.fnOf "_law_right" "_law_right" (defArgs s__law_right) (defBody s__law_right) (defScope s__law_right) .none kV24 dc24 pm24 an24 cd24 ct24, law := fa, law_fd := PySem.W.fnOf "law" "law" (defArgs s_law) (defBody s_law) (defScope s_law) .none kV25 dc25 pm25 an25 cd25 ct25, C_TimeError := C_TimeError, C_BadWorld := C_BadWorld, C_BadSentence := C_BadSentence, C_NoText := C_NoText, C_NoLine := C_NoLine, C_NoWorld := C_NoWorld, C_Reader := C_Reader, D_LENGTHS := D_LENGTHS, Pm := w.params, Y_HEADS := Y_HEADS, Y_BETWEEN := Y_BETWEEN, Y_JOINS := Y_JOINS, Y_TURNS := Y_TURNS, Y_BESIDE := Y_BESIDE } := {
    g_HEADS := PySem.W.mg_of X G aY_HEADS,
    y_HEADS := fun H => .inr ⟨_, _, _, lY_HEADS, rfl, rfl, (by rw [sizeLine_eq]; simp), .cons ⟨_, rfl⟩ (.cons ⟨_, rfl⟩ (.cons ⟨_, rfl⟩ (.cons ⟨_, rfl⟩ (.cons ⟨_, rfl⟩ (.cons ⟨_, rfl⟩ (.cons ⟨_, rfl⟩ (.cons ⟨_, rfl⟩ (.cons ⟨_, rfl⟩ (.nil)))))))))⟩,
    g_BETWEEN := PySem.W.mg_of X G aY_BETWEEN,
    y_BETWEEN := fun H => .inr ⟨_, _, _, lY_BETWEEN, rfl, rfl, (by rw [sizeLine_eq]; simp), .cons ⟨_, rfl⟩ (.cons ⟨_, rfl⟩ (.nil))⟩,
    g_JOINS := PySem.W.mg_of X G aY_JOINS,
    y_JOINS := fun H => .inr ⟨_, _, _, lY_JOINS, rfl, rfl, (by rw [sizeLine_eq]; simp), .cons ⟨_, rfl⟩ (.cons ⟨_, rfl⟩ (.nil))⟩,
    g_TURNS := PySem.W.mg_of X G aY_TURNS,
    y_TURNS := fun H => .inr ⟨_, _, _, lY_TURNS, rfl, rfl, (by rw [sizeLine_eq]; simp), .cons ⟨_, rfl⟩ (.cons ⟨_, rfl⟩ (.cons ⟨_, rfl⟩ (.cons ⟨_, rfl⟩ (.cons ⟨_, rfl⟩ (.cons ⟨_, rfl⟩ (.nil))))))⟩,
    g_BESIDE := PySem.W.mg_of X G aY_BESIDE,
    y_BESIDE := fun H => .inr ⟨_, _, _, lY_BESIDE, rfl, rfl, (by rw [sizeLine_eq]; simp), .cons ⟨_, rfl⟩ (.cons ⟨_, rfl⟩ (.cons ⟨_, rfl⟩ (.cons ⟨_, rfl⟩ (.cons ⟨_, rfl⟩ (.cons ⟨_, rfl⟩ (.cons ⟨_, rfl⟩ (.cons ⟨_, rfl⟩ (.cons ⟨_, rfl⟩ (.cons ⟨_, rfl⟩ (.cons ⟨_, rfl⟩ (.nil)))))))))))⟩,
    g_LENGTHS := PySem.W.mg_of X G aD_LENGTHS,
    d_LENGTHS := ⟨⟨_, _, lD_LENGTHS, kD_LENGTHS⟩, fun p hp => by
      simp only [List.mem_cons, List.not_mem_nil, or_false] at hp
      rcases hp with rfl | rfl | rfl | rfl | rfl | rfl | rfl | rfl | rfl | rfl | rfl
      · exact ⟨_, e_LENGTHS_0⟩
      · exact ⟨_, e_LENGTHS_1⟩
      · exact ⟨_, e_LENGTHS_2⟩
      · exact ⟨_, e_LENGTHS_3⟩
      · exact ⟨_, e_LENGTHS_4⟩
      · exact ⟨_, e_LENGTHS_5⟩
      · exact ⟨_, e_LENGTHS_6⟩
      · exact ⟨_, e_LENGTHS_7⟩
      · exact ⟨_, e_LENGTHS_8⟩
      · exact ⟨_, e_LENGTHS_9⟩
      · exact ⟨_, e_LENGTHS_10⟩, oD_LENGTHS⟩,
    f_is_whole := fun_mk (st := s_is_whole) l0 c0 k0,
    n_is_whole := (fun_mk (st := s_is_whole) l0 c0 k0).binds (ps := ["thing"]) (fun _ _ _ _ _ _ us hl => match us, hl with | [_], _ => rfl),
    g_is_whole := PySem.W.mg_of X G a0,
    f_is_name := fun_mk (st := s_is_name) l1 c1 k1,
    n_is_name := (fun_mk (st := s_is_name) l1 c1 k1).binds (ps := ["thing"]) (fun _ _ _ _ _ _ us hl => match us, hl with | [_], _ => rfl),
    g_is_name := PySem.W.mg_of X G a1,
    f_last_ones := fun_mk (st := s_last_ones) l2 c2 k2,
    n_last_ones := (fun_mk (st := s_last_ones) l2 c2 k2).binds (ps := ["things", "many"]) (fun _ _ _ _ _ _ us hl => match us, hl with | [_, _], _ => rfl),
    g_last_ones := PySem.W.mg_of X G a2,
    f_is_formed := fun_mk (st := s_is_formed) l3 c3 k3,
    n_is_formed := (fun_mk (st := s_is_formed) l3 c3 k3).binds (ps := ["thing"]) (fun _ _ _ _ _ _ us hl => match us, hl with | [_], _ => rfl),
    g_is_formed := PySem.W.mg_of X G a3,
    f_inner_of := fun_mk (st := s_inner_of) l4 c4 k4,
    n_inner_of := (fun_mk (st := s_inner_of) l4 c4 k4).binds (ps := ["sentence"]) (fun _ _ _ _ _ _ us hl => match us, hl with | [_], _ => rfl),
    g_inner_of := PySem.W.mg_of X G a4,
    f_inner_ahead := fun_mk (st := s_inner_ahead) l5 c5 k5,
    n_inner_ahead := (fun_mk (st := s_inner_ahead) l5 c5 k5).binds (ps := ["sentence"]) (fun _ _ _ _ _ _ us hl => match us, hl with | [_], _ => rfl),
    g_inner_ahead := PySem.W.mg_of X G a5,
    f_show := fun_mk (st := s_show) l6 c6 k6,
    n_show := (fun_mk (st := s_show) l6 c6 k6).binds (ps := ["sentence"]) (fun _ _ _ _ _ _ us hl => match us, hl with | [_], _ => rfl),
    g_show := PySem.W.mg_of X G a6,
    f_words_with := fun_mk (st := s_words_with) l7 c7 k7,
    n_words_with := (fun_mk (st := s_words_with) l7 c7 k7).binds (ps := ["sentence", "inner"]) (fun _ _ _ _ _ _ us hl => match us, hl with | [_, _], _ => rfl),
    g_words_with := PySem.W.mg_of X G a7,
    f_read_sentence := fun_mk (st := s_read_sentence) l8 c8 k8,
    n_read_sentence := (fun_mk (st := s_read_sentence) l8 c8 k8).binds (ps := ["text"]) (fun _ _ _ _ _ _ us hl => match us, hl with | [_], _ => rfl),
    g_read_sentence := PySem.W.mg_of X G a8,
    f_Reader_init := fun_mk (st := s_Reader_init) l9 c9 k9,
    n_Reader_init := (fun_mk (st := s_Reader_init) l9 c9 k9).binds (ps := ["self"]) (fun _ _ _ _ _ _ us hl => match us, hl with | [_], _ => rfl),
    m_Reader_init := ⟨a9, i9, k9⟩,
    f_Reader_take_word := fun_mk (st := s_Reader_take_word) l10 c10 k10,
    n_Reader_take_word := (fun_mk (st := s_Reader_take_word) l10 c10 k10).binds (ps := ["self", "word"]) (fun _ _ _ _ _ _ us hl => match us, hl with | [_, _], _ => rfl),
    m_Reader_take_word := ⟨a10, i10, k10⟩,
    f_Reader_open_bracket := fun_mk (st := s_Reader_open_bracket) l11 c11 k11,
    n_Reader_open_bracket := (fun_mk (st := s_Reader_open_bracket) l11 c11 k11).binds (ps := ["self"]) (fun _ _ _ _ _ _ us hl => match us, hl with | [_], _ => rfl),
    m_Reader_open_bracket := ⟨a11, i11, k11⟩,
    f_Reader_take_sentence := fun_mk (st := s_Reader_take_sentence) l12 c12 k12,
    n_Reader_take_sentence := (fun_mk (st := s_Reader_take_sentence) l12 c12 k12).binds (ps := ["self", "sentence"]) (fun _ _ _ _ _ _ us hl => match us, hl with | [_, _], _ => rfl),
    m_Reader_take_sentence := ⟨a12, i12, k12⟩,
    f_Reader_told := fun_mk (st := s_Reader_told) l13 c13 k13,
    n_Reader_told := (fun_mk (st := s_Reader_told) l13 c13 k13).binds (ps := ["self"]) (fun _ _ _ _ _ _ us hl => match us, hl with | [_], _ => rfl),
    m_Reader_told := ⟨a13, i13, k13⟩,
    f_bracketed := fun_mk (st := s_bracketed) l14 c14 k14,
    n_bracketed := (fun_mk (st := s_bracketed) l14 c14 k14).binds (ps := ["inner"]) (fun _ _ _ _ _ _ us hl => match us, hl with | [_], _ => rfl),
    g_bracketed := PySem.W.mg_of X G a14,
    f__law_cell_at := fun_mk (st := s__law_cell_at) l15 c15 k15,
    n__law_cell_at := (fun_mk (st := s__law_cell_at) l15 c15 k15).binds (ps := ["_law_script", "_law_k"]) (fun _ _ _ _ _ _ us hl => match us, hl with | [_, _], _ => rfl),
    g__law_cell_at := PySem.W.mg_of X G a15,
    f__law_stream := fun_mk (st := s__law_stream) l16 c16 k16,
    n__law_stream := (fun_mk (st := s__law_stream) l16 c16 k16).binds (ps := ["_law_cell", "_law_many"]) (fun _ _ _ _ _ _ us hl => match us, hl with | [_, _], _ => rfl),
    g__law_stream := PySem.W.mg_of X G a16,
    f__law_draw := fun_mk (st := s__law_draw) l17 c17 k17,
    n__law_draw := (fun_mk (st := s__law_draw) l17 c17 k17).binds (ps := ["_law_xs"]) (fun _ _ _ _ _ _ us hl => match us, hl with | [_], _ => rfl),
    g__law_draw := PySem.W.mg_of X G a17,
    f__law_sentence := fun_mk (st := s__law_sentence) l18 c18 k18,
    n__law_sentence := (fun_mk (st := s__law_sentence) l18 c18 k18).binds (ps := ["_law_xs", "_law_deep", "_law_names"]) (fun _ _ _ _ _ _ us hl => match us, hl with | [_, _, _], _ => rfl),
    g__law_sentence := PySem.W.mg_of X G a18,
    f__law_is_name := fun_mk (st := s__law_is_name) l19 c19 k19,
    n__law_is_name := (fun_mk (st := s__law_is_name) l19 c19 k19).binds (ps := ["_law_word"]) (fun _ _ _ _ _ _ us hl => match us, hl with | [_], _ => rfl),
    g__law_is_name := PySem.W.mg_of X G a19,
    f__law_end := fun_mk (st := s__law_end) l20 c20 k20,
    n__law_end := (fun_mk (st := s__law_end) l20 c20 k20).binds (ps := ["_law_words", "_law_at"]) (fun _ _ _ _ _ _ us hl => match us, hl with | [_, _], _ => rfl),
    g__law_end := PySem.W.mg_of X G a20,
    f__law_end_of_brackets := fun_mk (st := s__law_end_of_brackets) l21 c21 k21,
    n__law_end_of_brackets := (fun_mk (st := s__law_end_of_brackets) l21 c21 k21).binds (ps := ["_law_words", "_law_at"]) (fun _ _ _ _ _ _ us hl => match us, hl with | [_, _], _ => rfl),
    g__law_end_of_brackets := PySem.W.mg_of X G a21,
    f__law_changed := fun_mk (st := s__law_changed) l22 c22 k22,
    n__law_changed := (fun_mk (st := s__law_changed) l22 c22 k22).binds (ps := ["_law_xs", "_law_words"]) (fun _ _ _ _ _ _ us hl => match us, hl with | [_, _], _ => rfl),
    g__law_changed := PySem.W.mg_of X G a22,
    f__law_read := fun_mk (st := s__law_read) l23 c23 k23,
    n__law_read := (fun_mk (st := s__law_read) l23 c23 k23).binds (ps := ["_law_text"]) (fun _ _ _ _ _ _ us hl => match us, hl with | [_], _ => rfl),
    g__law_read := PySem.W.mg_of X G a23,
    f__law_right := fun_mk (st := s__law_right) l24 c24 k24,
    n__law_right := (fun_mk (st := s__law_right) l24 c24 k24).binds (ps := ["_law_words"]) (fun _ _ _ _ _ _ us hl => match us, hl with | [_], _ => rfl),
    g__law_right := PySem.W.mg_of X G a24,
    f_law := fun_mk (st := s_law) l25 c25 k25,
    n_law := (fun_mk (st := s_law) l25 c25 k25).binds (ps := ["_law_script"]) (fun _ _ _ _ _ _ us hl => match us, hl with | [_], _ => rfl),
    g_law := PySem.W.mg_of X G a25,
    b_ValueError := PySem.W.mg_none_of X G z_ValueError,
    b_all := PySem.W.mg_none_of X G z_all,
    b_tuple := PySem.W.mg_none_of X G z_tuple,
    b_range := PySem.W.mg_none_of X G z_range,
    b_isinstance := PySem.W.mg_none_of X G z_isinstance,
    b_int := PySem.W.mg_none_of X G z_int,
    b_len := PySem.W.mg_none_of X G z_len,
    b_str := PySem.W.mg_none_of X G z_str,
    b_bool := PySem.W.mg_none_of X G z_bool,
    b_list := PySem.W.mg_none_of X G z_list,
    c_LETTERS := ⟨_, PySem.W.mg_of X G x_LETTERS, ⟨_, rfl⟩⟩,
    c_MOST_LETTERS := ⟨_, PySem.W.mg_of X G x_MOST_LETTERS, ⟨_, rfl⟩⟩,
    c_MOST_WITHIN := ⟨_, PySem.W.mg_of X G x_MOST_WITHIN, ⟨_, rfl⟩⟩,
    cl_Reader := ⟨pg_Reader, hd_Reader, po_Reader, sa_Reader⟩,
    g_Reader := PySem.W.mg_of X G aC_Reader,
    mk_Reader := ⟨mk_Reader, a9, i9, kc_Reader⟩,
    t1_Reader := t1_Reader,
    t2_Reader := t2_Reader,
    t3_Reader := t3_Reader,
    t4_Reader := t4_Reader,
    ic_Reader := (by unfold PySem.W.kitOne; rw [if_pos (beq_self_eq_true _)]),
    na_Reader_waiting := n_Reader_waiting,
    na_Reader_found := n_Reader_found,
    g_TimeError := PySem.W.mg_of X G aC_TimeError,
    x_TimeError := xc_TimeError,
    g_BadWorld := PySem.W.mg_of X G aC_BadWorld,
    x_BadWorld := xc_BadWorld,
    g_BadSentence := PySem.W.mg_of X G aC_BadSentence,
    x_BadSentence := xc_BadSentence,
    g_NoText := PySem.W.mg_of X G aC_NoText,
    x_NoText := xc_NoText,
    g_NoLine := PySem.W.mg_of X G aC_NoLine,
    x_NoLine := xc_NoLine,
    g_NoWorld := PySem.W.mg_of X G aC_NoWorld,
    x_NoWorld := xc_NoWorld,
    k_NoText := ⟨xga_NoText, xgh_NoText, xob_NoText, xbe_NoText, xcl_NoText, xgt, xtk, xhd_NoText⟩,
    sb_TimeError := sb_TimeError,
    nk_signs := nk_signs,
    nk_Next := nk_Next,
    ne_NoText_TimeError := ne_NoText_TimeError,
    i1_NoText := i1_NoText,
    i3_NoText := i3_NoText,
    i2_NoText := i2_NoText,
    i4_NoText := i4_NoText }
  exact ⟨PySem.W.fnOf "law" "law" (defArgs s_law) (defBody s_law) (defScope s_law) .none kV25 dc25 pm25 an25 cd25 ct25, fun s v => .of_eq rfl, fun base _ _ => ok_law T rfl⟩
theorem walk {l : PySem.W.OpenLaw} {q : Program} {loose : List Str} {XP : (Str → Option Value) → Heap → Prop} {YP : World → Heap → Prop} {d : DefRec} {K : Params → PySem.W.Frag} (hn : l.most = some 63) (hdf : d.params.defaults = [])
    (hY : ∀ (w : World) (h : Heap), YP w h → (K w.params).In h)
    (F : ∀ (w : World) (mg : Str → Option Value) (fa : Addr) (h : Heap), (K w.params).In h → h.Ns mainGlobals mg → mg d.name = some (.ref fa) →
      ∃ fd : FuncData, (∀ (s : Shared) (u : Value), BindsTo s fd ⟨[u], []⟩ [("_law_script", u)]) ∧ ∀ base : Heap, (K w.params).In base → base.Ns mainGlobals mg → FnOk l.prog w (K w.params) mg base CX0 192 fa fd ["_law_script"] (spL (K w.params))) :
    PySem.W.WalkO q loose XP YP l.row.toRowW d [] (fun f vs => PySem.call f vs) :=
  L2.walk_of (n := 63) (k := 192) (x := "_law_script") (CX := fun _ => CX0) (sp := fun w => spL (K w.params)) hn (by decide) hdf ⟨rfl, by decide, by decide⟩ hY F (fun _ _ a ns hl _ hS => ⟨a, ns, rfl, hS, hl, fun _ => rfl⟩) fun _ _ _ _ _ z => z
end KK
open PySem PySem.W PyProof.Rows
theorem PySem.W.Fast.te1968132298801545695 : True := trivial
set_option maxRecDepth 100000 in
set_option maxHeartbeats 0 in
theorem PySem.Challenge.cw_timecourt_k87_texts_that_are_no_sentence_holds : PySem.Challenge.rw_timecourt_k87_texts_that_are_no_sentence.Holds := by
  w_on; o_law; k_head; (case hw => w_witness2)
  k_fill
  refine KK.walk (l := PySem.Challenge.rw_timecourt_k87_texts_that_are_no_sentence) rfl rfl (fun w h Y => PySem.W.kIn_of Y) ?F
  case F =>
    intro w mg fa h KX G hmg
    have hmg2 : mg "law" = some (.ref fa) := hmg
    clear hmg
    refine' KK.all_mk KX G hmg2 ?aC_Reader ?aC_TimeError ?aC_BadWorld ?aC_BadSentence ?aC_NoText ?aC_NoLine ?aC_NoWorld ?a0 ?l0 ?c0 ?k0 ?a1 ?l1 ?c1 ?k1 ?a2 ?l2 ?c2 ?k2 ?a3 ?l3 ?c3 ?k3 ?a4 ?l4 ?c4 ?k4 ?a5 ?l5 ?c5 ?k5 ?a6 ?l6 ?c6 ?k6 ?a7 ?l7 ?c7 ?k7 ?a8 ?l8 ?c8 ?k8 ?a9 ?i9 ?l9 ?c9 ?k9 ?a10 ?i10 ?l10 ?c10 ?k10 ?a11 ?i11 ?l11 ?c11 ?k11 ?a12 ?i12 ?l12 ?c12 ?k12 ?a13 ?i13 ?l13 ?c13 ?k13 ?a14 ?l14 ?c14 ?k14 ?a15 ?l15 ?c15 ?k15 ?a16 ?l16 ?c16 ?k16 ?a17 ?l17 ?c17 ?k17 ?a18 ?l18 ?c18 ?k18 ?a19 ?l19 ?c19 ?k19 ?a20 ?l20 ?c20 ?k20 ?a21 ?l21 ?c21 ?k21 ?a22 ?l22 ?c22 ?k22 ?a23 ?l23 ?c23 ?k23 ?a24 ?l24 ?c24 ?k24 ?a25 ?l25 ?c25 ?k25 ?pg_Reader ?hd_Reader ?po_Reader ?sa_Reader ?mk_Reader ?kc_Reader ?t1_Reader ?t2_Reader ?t3_Reader ?t4_Reader ?n_Reader_waiting ?n_Reader_found ?z_ValueError ?z_all ?z_tuple ?z_range ?z_isinstance ?z_int ?z_len ?z_str ?z_bool ?z_list ?x_LETTERS ?x_MOST_LETTERS ?x_MOST_WITHIN ?aD_LENGTHS ?lD_LENGTHS ?kD_LENGTHS ?e_LENGTHS_0 ?e_LENGTHS_1 ?e_LENGTHS_2 ?e_LENGTHS_3 ?e_LENGTHS_4 ?e_LENGTHS_5 ?e_LENGTHS_6 ?e_LENGTHS_7 ?e_LENGTHS_8 ?e_LENGTHS_9 ?e_LENGTHS_10 ?oD_LENGTHS ?aY_HEADS ?lY_HEADS ?aY_BETWEEN ?lY_BETWEEN ?aY_JOINS ?lY_JOINS ?aY_TURNS ?lY_TURNS ?aY_BESIDE ?lY_BESIDE ?xc_TimeError ?xc_BadWorld ?xc_BadSentence ?xc_NoText ?xc_NoLine ?xc_NoWorld ?xgt ?xtk ?xga_NoText ?xgh_NoText ?xob_NoText ?xbe_NoText ?xcl_NoText ?xhd_NoText ?sb_TimeError ?nk_signs ?nk_Next ?ne_NoText_TimeError ?i1_NoText ?i3_NoText ?i2_NoText ?i4_NoText
    (case aC_Reader => k_is)
    (case aC_TimeError => k_is)
    (case aC_BadWorld => k_is)
    (case aC_BadSentence => k_is)
    (case aC_NoText => k_is)
    (case aC_NoLine => k_is)
    (case aC_NoWorld => k_is)
    (case a0 => k_is)
    (case l0 => k_is)
    (case c0 => k_is)
    (case k0 => k_is)
    (case a1 => k_is)
    (case l1 => k_is)
    (case c1 => k_is)
    (case k1 => k_is)
    (case a2 => k_is)
    (case l2 => k_is)
    (case c2 => k_is)
    (case k2 => k_is)
    (case a3 => k_is)
    (case l3 => k_is)
    (case c3 => k_is)
    (case k3 => k_is)
    (case a4 => k_is)
    (case l4 => k_is)
    (case c4 => k_is)
    (case k4 => k_is)
    (case a5 => k_is)
    (case l5 => k_is)
    (case c5 => k_is)
    (case k5 => k_is)
    (case a6 => k_is)
    (case l6 => k_is)
    (case c6 => k_is)
    (case k6 => k_is)
    (case a7 => k_is)
    (case l7 => k_is)
    (case c7 => k_is)
    (case k7 => k_is)
    (case a8 => k_is)
    (case l8 => k_is)
    (case c8 => k_is)
    (case k8 => k_is)
    (case a9 => k_is)
    (case i9 => k_is)
    (case l9 => k_is)
    (case c9 => k_is)
    (case k9 => k_is)
    (case a10 => k_is)
    (case i10 => k_is)
    (case l10 => k_is)
    (case c10 => k_is)
    (case k10 => k_is)
    (case a11 => k_is)
    (case i11 => k_is)
    (case l11 => k_is)
    (case c11 => k_is)
    (case k11 => k_is)
    (case a12 => k_is)
    (case i12 => k_is)
    (case l12 => k_is)
    (case c12 => k_is)
    (case k12 => k_is)
    (case a13 => k_is)
    (case i13 => k_is)
    (case l13 => k_is)
    (case c13 => k_is)
    (case k13 => k_is)
    (case a14 => k_is)
    (case l14 => k_is)
    (case c14 => k_is)
    (case k14 => k_is)
    (case a15 => k_is)
    (case l15 => k_is)
    (case c15 => k_is)
    (case k15 => k_is)
    (case a16 => k_is)
    (case l16 => k_is)
    (case c16 => k_is)
    (case k16 => k_is)
    (case a17 => k_is)
    (case l17 => k_is)
    (case c17 => k_is)
    (case k17 => k_is)
    (case a18 => k_is)
    (case l18 => k_is)
    (case c18 => k_is)
    (case k18 => k_is)
    (case a19 => k_is)
    (case l19 => k_is)
    (case c19 => k_is)
    (case k19 => k_is)
    (case a20 => k_is)
    (case l20 => k_is)
    (case c20 => k_is)
    (case k20 => k_is)
    (case a21 => k_is)
    (case l21 => k_is)
    (case c21 => k_is)
    (case k21 => k_is)
    (case a22 => k_is)
    (case l22 => k_is)
    (case c22 => k_is)
    (case k22 => k_is)
    (case a23 => k_is)
    (case l23 => k_is)
    (case c23 => k_is)
    (case k23 => k_is)
    (case a24 => k_is)
    (case l24 => k_is)
    (case c24 => k_is)
    (case k24 => k_is)
    (case a25 => k_is)
    (case l25 => k_is)
    (case c25 => k_is)
    (case k25 => k_is)
    (case pg_Reader => k_is)
    (case hd_Reader => k_is)
    (case po_Reader => k_is)
    (case sa_Reader => k_is)
    (case mk_Reader => k_is)
    (case kc_Reader => k_is)
    (case t1_Reader => k_is)
    (case t2_Reader => k_is)
    (case t3_Reader => k_is)
    (case t4_Reader => k_is)
    (case n_Reader_waiting => k_is)
    (case n_Reader_found => k_is)
    (case z_ValueError => k_is)
    (case z_all => k_is)
    (case z_tuple => k_is)
    (case z_range => k_is)
    (case z_isinstance => k_is)
    (case z_int => k_is)
    (case z_len => k_is)
    (case z_str => k_is)
    (case z_bool => k_is)
    (case z_list => k_is)
    (case x_LETTERS => k_is)
    (case x_MOST_LETTERS => k_is)
    (case x_MOST_WITHIN => k_is)
    (case aD_LENGTHS => k_is)
    (case lD_LENGTHS => k_is)
    (case kD_LENGTHS => exact ⟨⟨_, _, rfl, rfl⟩, ⟨_, _, rfl, rfl⟩, ⟨_, _, rfl, rfl⟩, ⟨_, _, rfl, rfl⟩, ⟨_, _, rfl, rfl⟩, ⟨_, _, rfl, rfl⟩, ⟨_, _, rfl, rfl⟩, ⟨_, _, rfl, rfl⟩, ⟨_, _, rfl, rfl⟩, ⟨_, _, rfl, rfl⟩, ⟨_, _, rfl, rfl⟩, trivial⟩)
    (case e_LENGTHS_0 => k_is)
    (case e_LENGTHS_1 => k_is)
    (case e_LENGTHS_2 => k_is)
    (case e_LENGTHS_3 => k_is)
    (case e_LENGTHS_4 => k_is)
    (case e_LENGTHS_5 => k_is)
    (case e_LENGTHS_6 => k_is)
    (case e_LENGTHS_7 => k_is)
    (case e_LENGTHS_8 => k_is)
    (case e_LENGTHS_9 => k_is)
    (case e_LENGTHS_10 => k_is)
    (case oD_LENGTHS => rfl)
    (case aY_HEADS => k_is)
    (case lY_HEADS => k_is)
    (case aY_BETWEEN => k_is)
    (case lY_BETWEEN => k_is)
    (case aY_JOINS => k_is)
    (case lY_JOINS => k_is)
    (case aY_TURNS => k_is)
    (case lY_TURNS => k_is)
    (case aY_BESIDE => k_is)
    (case lY_BESIDE => k_is)
    (case xc_TimeError => k_exc)
    (case xc_BadWorld => k_exc)
    (case xc_BadSentence => k_exc)
    (case xc_NoText => k_exc)
    (case xc_NoLine => k_exc)
    (case xc_NoWorld => k_exc)
    (case xgt => k_is)
    (case xtk => k_is)
    (case xga_NoText => k_is)
    (case xgh_NoText => k_is)
    (case xob_NoText => k_is)
    (case xbe_NoText => k_is)
    (case xcl_NoText => k_is)
    (case xhd_NoText => k_is)
    (case sb_TimeError => k_is)
    (case nk_signs => k_is)
    (case nk_Next => k_is)
    (case ne_NoText_TimeError => rfl)
    (case i1_NoText => kit_is)
    (case i3_NoText => kit_is)
    (case i2_NoText => kit_is)
    (case i4_NoText => kit_is)
#print axioms PySem.Challenge.cw_timecourt_k87_texts_that_are_no_sentence_holds

