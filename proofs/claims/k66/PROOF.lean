import PyProof.Rows.All
import Wide.All
import OpenK.AllK
import Wide.FinOn
import Lean
import PyProof.EqAt
import PyProof.EqKinds
import PyProof.TupleCall
import PySem.Challenge.RW_timecourt_k66_ties_looked_at
set_option Elab.async false
set_option linter.all false
set_option maxRecDepth 100000
/-! THE HAND LAYER, for ints, bools, texts, own classes, LISTS and tuples (index, slices, in, append, pop ..), calls, loops. Paste it whole ahead of your own text; what your proof does not reach may be deleted. -/
namespace L2
open PySem PySem.Spec PyProof.Rows

/-- a key: an int or a str -/
abbrev Key := Sum Int Str
def keyIs : Key → Value → Bool
  | .inl k, v => Value.isInt k v
  | .inr x, v => Value.isStrOf x v
def keyH (w : World) : Key → Int
  | .inl k => hashInt k
  | .inr x => hashStr w x
theorem keyIs_shape : ∀ {k : Key} {v : Value}, keyIs k v = true → (∃ i t, k = Sum.inl i ∧ v = Value.int i t) ∨ (∃ x t, k = Sum.inr x ∧ v = Value.str x t)
  | .inl i, v, h => by
    obtain ⟨t, e⟩ := Value.isInt_shape (k := i) (v := v) h
    exact .inl ⟨i, t, rfl, e⟩
  | .inr x, v, h => by
    obtain ⟨t, e⟩ := Value.isStrOf_shape (x := x) (v := v) h
    exact .inr ⟨x, t, rfl, e⟩
theorem keyIs_int (i : Int) (t : Tok) : keyIs (.inl i) (.int i t) = true := by simp [keyIs, Value.isInt]
theorem keyIs_str (x : Str) (t : Tok) : keyIs (.inr x) (.str x t) = true := by simp [keyIs, Value.isStrOf]
theorem key_ll (a b : Int) : decide ((Sum.inl a : Key) = Sum.inl b) = (a == b) := by
  by_cases e : a = b
  · subst e; simp
  · have h : ¬ (Sum.inl a : Key) = Sum.inl b := fun q => e (Sum.inl.inj q)
    rw [decide_eq_false h]
    exact (beq_eq_false_iff_ne.mpr e).symm
theorem key_rr (a b : Str) : decide ((Sum.inr a : Key) = Sum.inr b) = decide (a = b) := by
  by_cases e : a = b
  · subst e; simp
  · have h : ¬ (Sum.inr a : Key) = Sum.inr b := fun q => e (Sum.inr.inj q)
    rw [decide_eq_false h, decide_eq_false e]
theorem key_lr (a : Int) (b : Str) : decide ((Sum.inl a : Key) = Sum.inr b) = false := decide_eq_false (fun q => nomatch q)
theorem key_rl (a : Str) (b : Int) : decide ((Sum.inr a : Key) = Sum.inl b) = false := decide_eq_false (fun q => nomatch q)

def mixKind (prog : Program) (w : World) : PySem.KeyKind prog w Key where
  is := keyIs
  hash := keyH w
  inj := fun v a b ha hb => by
    rcases keyIs_shape ha with ⟨i, t, rfl, rfl⟩ | ⟨x, t, rfl, rfl⟩
    · rcases keyIs_shape hb with ⟨j, u, rfl, e⟩ | ⟨y, u, rfl, e⟩
      · injection e with e1 _; rw [e1]
      · exact nomatch e
    · rcases keyIs_shape hb with ⟨j, u, rfl, e⟩ | ⟨y, u, rfl, e⟩
      · exact nomatch e
      · injection e with e1 _; rw [e1]
  byValue := fun k v h => by
    rcases keyIs_shape h with ⟨i, t, rfl, rfl⟩ | ⟨x, t, rfl, rfl⟩ <;> rfl
  pyHash := fun hv h => by
    rcases keyIs_shape hv with ⟨i, t, rfl, rfl⟩ | ⟨x, t, rfl, rfl⟩
    · exact wpAny_pyHash_int h
    · exact wpAny_pyHash_str h
  eqBool := fun hu hv h => by
    rcases keyIs_shape hu with ⟨i, t, rfl, rfl⟩ | ⟨x, t, rfl, rfl⟩
    · rcases keyIs_shape hv with ⟨j, u, rfl, rfl⟩ | ⟨y, u, rfl, rfl⟩
      · rw [key_ll] at h; exact wpAny_eqBool_int h
      · rw [key_lr] at h; exact SeqAt.EqAt.int_str i t y u _ _ _ _ h
    · rcases keyIs_shape hv with ⟨j, u, rfl, rfl⟩ | ⟨y, u, rfl, rfl⟩
      · rw [key_rl] at h; exact SeqAt.EqAt.str_int x t j u _ _ _ _ h
      · rw [key_rr] at h; exact wpAny_eqBool_str h
  «strs» := fun k x t v h => by
    rcases keyIs_shape h with ⟨i, u, rfl, e⟩ | ⟨y, u, rfl, e⟩
    · exact nomatch e
    · injection e with e1 _
      subst e1
      cases v <;> rfl

theorem mixKind_int (prog : Program) (w : World) (i : Int) (t : Tok) : (mixKind prog w).is (.inl i) (.int i t) = true := keyIs_int i t
theorem mixKind_str (prog : Program) (w : World) (x : Str) (t : Tok) : (mixKind prog w).is (.inr x) (.str x t) = true := keyIs_str x t
end L2

namespace L2
open PySem PySem.Spec PyProof.Rows

/-- a value, without the heap -/
inductive V where
  | non | bl (b : Bool) | int (i : Int) | str (x : Str) | byt (b : Array UInt8) | flt (b : UInt64) | ref (a : Addr) | ty (n : String)
  deriving DecidableEq

def RelV : V → Value → Prop
  | .non, u => u = Value.none
  | .bl b, u => u = Value.bool b
  | .int i, u => ∃ t, u = Value.int i t
  | .str x, u => ∃ t, u = Value.str x t
  | .byt b, u => ∃ t, u = Value.bytes b t
  | .flt b, u => ∃ t, u = Value.float b t
  | .ref a, u => u = Value.ref a
  | .ty n, u => u = Value.type n

abbrev Vals : List V → List Value → Prop := Paired RelV
theorem Vals.length {xs : List V} {us : List Value} (r : Vals xs us) : xs.length = us.length := Paired.length r
theorem Vals.get : ∀ {xs : List V} {us : List Value} {i : Nat} {x : V}, Vals xs us → xs[i]? = some x → ∃ u, us[i]? = some u ∧ RelV x u
  | _, _, _, _, .nil, e => by simp at e
  | _, _, 0, _, .cons r _, e => by simp at e; subst e; exact ⟨_, rfl, r⟩
  | _, _, i + 1, x, .cons _ t, e => by
    obtain ⟨u, h1, h2⟩ := Vals.get (i := i) (x := x) t (by simpa using e)
    exact ⟨u, by simpa using h1, h2⟩
theorem Vals.set {x : V} {u : Value} (r : RelV x u) : ∀ {xs : List V} {us : List Value} (i : Nat), Vals xs us → Vals (xs.set i x) (us.set i u)
  | _, _, _, .nil => .nil
  | _, _, 0, .cons _ t => .cons r t
  | _, _, i + 1, .cons q t => .cons q (Vals.set r i t)
theorem Vals.append : ∀ {xs ys : List V} {us ws : List Value}, Vals xs us → Vals ys ws → Vals (xs ++ ys) (us ++ ws)
  | _, _, _, _, .nil, s => s
  | _, _, _, _, .cons r t, s => .cons r (Vals.append t s)
theorem Vals.take : ∀ {xs : List V} {us : List Value} (n : Nat), Vals xs us → Vals (xs.take n) (us.take n)
  | _, _, 0, _ => .nil
  | _, _, _ + 1, .nil => .nil
  | _, _, n + 1, .cons r t => .cons r (Vals.take n t)
theorem Vals.drop : ∀ {xs : List V} {us : List Value} (n : Nat), Vals xs us → Vals (xs.drop n) (us.drop n)
  | _, _, 0, r => r
  | _, _, _ + 1, .nil => .nil
  | _, _, n + 1, .cons _ t => Vals.drop n t
def RelO : Option V → Option Value → Prop
  | some v, some u => RelV v u
  | none, none => True
  | _, _ => False
def KV {κ : Type} : List (κ × V) → List (κ × Value) → Prop := Paired fun (p : κ × V) (q : κ × Value) => p.1 = q.1 ∧ RelV p.2 q.2

/-- a key of a dict (00_mix): an int or a text -/
def kV : Key → V
  | .inl i => .int i
  | .inr x => .str x

/-- what stands at a tracked address -/
inductive HO where
  /-- a list -/
  | lst (xs : List V)
  /-- a tuple (never changes) -/
  | tup (xs : List V)
  /-- a dict whose keys are ints and texts; one whose keys are tuples of ints and texts (the empty one is both) -/
  | dK (kvs : List (Key × V)) | dT (kvs : List (List Key × V))
  /-- a set of ints: its members, its size -/
  | set (S : Int → Bool) (n : Nat)
  /-- an instance of the class at C, its dict at dx, its attributes -/
  | ins (C dx : Addr) (fs : List (Str × V))
  /-- the dict of the instance at x -/
  | own (x : Addr)
  /-- the dict of an exception -/
  | xd (fs : List (Str × V))
  /-- a bound method, f of x -/
  | met (f x : Addr)
  /-- a range object lo, lo + 1, .. below hi -/
  | rng (lo hi : Int)
  /-- a thing that is known to the object (the script; a dict while a loop walks it): read, never written while it is so -/
  | frz (o : Obj) (u : HO)
  /-- a code object's table -/
  | tbl (ps : Array Value)
  /-- any other thing, by what is true of its one object (a def of one's own: SetO a S n := HO.ext fun h => ..) -/
  | ext (φ : Heap → Prop)

abbrev Hp := Addr → Option HO
def upd (H : Hp) (a : Addr) (o : HO) : Hp := fun b => if b = a then some o else H b
theorem upd_same {H : Hp} {a : Addr} {o : HO} : upd H a o a = some o := by unfold upd; rw [if_pos rfl]
theorem upd_ne {H : Hp} {a b : Addr} {o : HO} (h : b ≠ a) : upd H a o b = H b := by unfold upd; rw [if_neg h]
/-- two objects of different content stand apart -/
theorem ne_of {H : Hp} {a b : Addr} {o u : HO} (h : H a = some o) (h' : H b = some u) (d : o ≠ u) : a ≠ b := by
  intro e; subst e; rw [h] at h'; exact d (Option.some.inj h')
theorem ne_of_none {H : Hp} {a b : Addr} {o : HO} (h : H a = some o) (h' : H b = none) : a ≠ b := by
  intro e; subst e; rw [h] at h'; cases h'

section
variable (P : Program) (w : World)
def ObjOk (H : Hp) (h : Heap) (a : Addr) : HO → Prop
  | .lst xs => xs.length ≤ sizeLine ∧ ∃ (its : List Value) (n : Nat), Vals xs its ∧ h.get? a = some { cls := .type "list", data := .seq its.toArray n }
  | .tup xs => xs.length ≤ sizeLine ∧ ∃ its : List Value, Vals xs its ∧ IsTup h a its.toArray
  | .dK kvs => kvs.length ≤ sizeLine ∧ (a == sysModules) = false ∧ ∃ vs, KV kvs vs ∧ h.DictOf (mixKind P w) a vs
  | .dT kvs => kvs.length ≤ sizeLine ∧ (a == sysModules) = false ∧ ∃ xs : List (List Key × Addr × Value),
      Paired (fun (p : List Key × V) (q : List Key × Addr × Value) => p.1 = q.1 ∧ H q.2.1 = some (.tup (p.1.map kV)) ∧ RelV p.2 q.2.2) kvs xs ∧
      ∃ o es ep, h.get? a = some o ∧ o.ExactDict ∧ o.data = .dict es ep ∧ es.toList = xs.map (entryOfKey (tupleKind (mixKind P w))) ∧ (xs.map (·.1)).Nodup
  | .set S n => h.SetOf (intKind P w) a S n
  | .ins C dx fs => H dx = some (.own a) ∧ fs.length ≤ 1000 ∧ dx ≠ a ∧ h.get? a = some (PySem.W.instObj C dx) ∧
      ∃ mA, h.Ns1 dx mA ∧ (∀ f, RelO (fs.lookup f) (mA f)) ∧ PySem.Within mA (fs.map (·.1))
  | .own _ => ∃ o, h.get? a = some o
  | .xd fs => ∃ mA, h.Ns1 a mA ∧ ∀ f, RelO (fs.lookup f) (mA f)
  | .rng lo hi => ∃ t u v, h.get? a = some { cls := .type "range", data := .fields #[.int lo t, .int hi u, .int 1 v] }
  | .frz o u => h.get? a = some o ∧ ObjOk H h a u
  | .tbl ps => h.get? a = some { cls := .none, data := .fields ps }
  | .met f x => h.get? a = some (PySem.W.methodObj (.ref f) (.ref x))
  | .ext φ => φ h ∧ (∃ o, h.get? a = some o) ∧ ∀ h1 h2 : Heap, φ h1 → (∀ o, h1.get? a = some o → h2.get? a = some o) → φ h2
/-- the abstract heap is held -/
def HOk (H : Hp) (h : Heap) : Prop := ∀ a o, H a = some o → ObjOk P w H h a o
end

section
variable {P : Program} {w : World} {H H' : Hp} {h h' : Heap} {a : Addr} {o : HO}
theorem ObjOk.lt (x : ObjOk P w H h a o) : a < h.objs.size := by
  cases o with
  | lst xs => obtain ⟨_, _, _, _, e⟩ := x; exact Heap.lt_size e
  | tup xs => obtain ⟨_, _, _, p⟩ := x; exact p.lt
  | dK kvs => obtain ⟨_, _, _, _, o, _, _, e, _⟩ := x; exact Heap.lt_size e
  | dT kvs => obtain ⟨_, _, _, _, o, _, _, e, _⟩ := x; exact Heap.lt_size e
  | set S n => obtain ⟨o, _, _, _, e, _⟩ := x; exact Heap.lt_size e
  | ins C dx fs => obtain ⟨_, _, _, e, _⟩ := x; exact Heap.lt_size e
  | own y => obtain ⟨_, e⟩ := x; exact Heap.lt_size e
  | xd fs => obtain ⟨_, ⟨_, _, _, e, _⟩, _⟩ := x; exact Heap.lt_size e
  | rng lo hi => obtain ⟨_, _, _, e⟩ := x; exact Heap.lt_size e
  | frz ob u => obtain ⟨e, _⟩ := x; exact Heap.lt_size e
  | tbl ps => exact Heap.lt_size (show h.get? a = some _ from x)
  | met f y => exact Heap.lt_size (show h.get? a = some _ from x)
  | ext φ => obtain ⟨_, ⟨_, e⟩, _⟩ := x; exact Heap.lt_size e
theorem Paired.mapP {α β : Type} {F G : α → β → Prop} : ∀ {l₁ : List α} {l₂ : List β}, Paired F l₁ l₂ → (∀ a b, F a b → G a b) → Paired G l₁ l₂
  | _, _, .nil, _ => .nil
  | _, _, .cons r t, f => .cons (f _ _ r) (Paired.mapP t f)
/-- what an object's description leans on: its own object, its own dict, the tuples -/
theorem ObjOk.stay (x : ObjOk P w H h a o) (k : ∀ b u, (b = a ∨ H b = some (.own a)) → h.get? b = some u → h'.get? b = some u)
    (ho : ∀ b, H b = some (.own a) → H' b = some (.own a)) (ht : ∀ b xs, H b = some (.tup xs) → H' b = some (.tup xs)) : ObjOk P w H' h' a o := by
  induction o with
  | lst xs => obtain ⟨z, its, n, r, e⟩ := x; exact ⟨z, its, n, r, k _ _ (.inl rfl) e⟩
  | tup xs => obtain ⟨z, its, r, ob, e, c⟩ := x; exact ⟨z, its, r, ob, k _ _ (.inl rfl) e, c⟩
  | dK kvs => obtain ⟨z, y, vs, r, ob, es, ep, e, c⟩ := x; exact ⟨z, y, vs, r, ob, es, ep, k _ _ (.inl rfl) e, c⟩
  | dT kvs =>
    obtain ⟨z, y, xs, r, ob, es, ep, e, c⟩ := x
    exact ⟨z, y, xs, Paired.mapP r fun p q z => ⟨z.1, ht _ _ z.2.1, z.2.2⟩, ob, es, ep, k _ _ (.inl rfl) e, c⟩
  | set S n => obtain ⟨ob, es, ep, t, e, c⟩ := x; exact ⟨ob, es, ep, t, k _ _ (.inl rfl) e, c⟩
  | ins C dx fs =>
    obtain ⟨d, z, ne, e, mA, ⟨od, es, ep, e2, c⟩, r⟩ := x
    exact ⟨ho _ d, z, ne, k _ _ (.inl rfl) e, mA, ⟨od, es, ep, k _ _ (.inr d) e2, c⟩, r⟩
  | own y => obtain ⟨ob, e⟩ := x; exact ⟨ob, k _ _ (.inl rfl) e⟩
  | xd fs => obtain ⟨mA, ⟨od, es, ep, e, c⟩, r⟩ := x; exact ⟨mA, ⟨od, es, ep, k _ _ (.inl rfl) e, c⟩, r⟩
  | rng lo hi => obtain ⟨t, u, v, e⟩ := x; exact ⟨t, u, v, k _ _ (.inl rfl) e⟩
  | frz ob u ih => obtain ⟨e, q⟩ := x; exact ⟨k _ _ (.inl rfl) e, ih q⟩
  | tbl ps =>
    have e : h.get? a = some { cls := .none, data := .fields ps } := x
    show h'.get? a = some { cls := .none, data := .fields ps }
    exact k a _ (.inl rfl) e
  | met f y =>
    have e : h.get? a = some (PySem.W.methodObj (.ref f) (.ref y)) := x
    show h'.get? a = some (PySem.W.methodObj (.ref f) (.ref y))
    exact k a _ (.inl rfl) e
  | ext φ => obtain ⟨p, ⟨o, e⟩, st⟩ := x; exact ⟨st _ _ p fun o q => k _ _ (.inl rfl) q, ⟨o, k _ _ (.inl rfl) e⟩, st⟩
theorem HOk.lt (x : HOk P w H h) (e : H a = some o) : a < h.objs.size := (x a o e).lt
theorem HOk.fresh (x : HOk P w H h) (e : h.objs.size ≤ a) : H a = none := by
  cases q : H a with
  | none => rfl
  | some u => exact absurd (Nat.lt_of_lt_of_le (x.lt q) e) (Nat.lt_irrefl _)
/-- every object of the heap is kept -/
theorem HOk.kept (x : HOk P w H h) (k : ∀ b u, h.get? b = some u → h'.get? b = some u) : HOk P w H h' := fun a o e =>
  (x a o e).stay (fun b u _ q => k b u q) (fun _ q => q) fun _ _ q => q
/-- a new object is laid and tracked -/
theorem HOk.laid (x : HOk P w H h) (k : ∀ b u, h.get? b = some u → h'.get? b = some u) (hp : h.objs.size ≤ a) (new : ObjOk P w (upd H a o) h' a o) : HOk P w (upd H a o) h' := fun b u e => by
  have hn := x.fresh hp
  by_cases hb : b = a
  · subst hb; rw [upd_same] at e; cases e; exact new
  · rw [upd_ne hb] at e
    exact (x b u e).stay (fun c v _ q => k c v q) (fun c q => by rw [upd_ne (ne_of_none q hn)]; exact q) fun c xs q => by rw [upd_ne (ne_of_none q hn)]; exact q
end

/-- what may be read as u: it is u, or a known u -/
def Rd (H : Hp) (a : Addr) (u : HO) : Prop := H a = some u ∨ ∃ o, H a = some (.frz o u)
theorem Rd.ok {P : Program} {w : World} {H : Hp} {h : Heap} {a : Addr} {u : HO} (r : Rd H a u) (x : HOk P w H h) : ObjOk P w H h a u := by
  rcases r with r | ⟨o, r⟩
  · exact x a u r
  · obtain ⟨_, q⟩ := x a _ r
    exact q
/-- what may be written -/
def Mut : Option HO → Prop
  | some (.lst _) => True
  | some (.dK _) => True
  | some (.dT _) => True
  | some (.set _ _) => True
  | some (.ins _ _ _) => True
  | some (.ext _) => True
  | _ => False
section
variable {P : Program} {w : World} {H : Hp} {h h' : Heap} {x e : Addr} {o' : HO}
/-- the object at e is changed: x itself, or the dict of the instance x -/
theorem HOk.write (ok : HOk P w H h) (mu : Mut (H x)) (he : e = x ∨ H e = some (.own x)) (k : ∀ b u, b ≠ e → h.get? b = some u → h'.get? b = some u) (heo : ∃ u, h'.get? e = some u)
    (new : ObjOk P w (upd H x o') h' x o') : HOk P w (upd H x o') h' := fun b u q => by
  have nown : ∀ c y, H c = some (.own y) → c ≠ x := fun c y r z => by subst z; rw [r] at mu; exact mu
  have ntup : ∀ c xs, H c = some (.tup xs) → c ≠ x := fun c xs r z => by subst z; rw [r] at mu; exact mu
  by_cases hb : b = x
  · subst hb; rw [upd_same] at q; cases q; exact new
  · rw [upd_ne hb] at q
    by_cases hbe : b = e
    · have q' : H b = some (.own x) := by
        rcases he with z | z
        · exact absurd (hbe.trans z) hb
        · rw [hbe]; exact z
      rw [q] at q'; cases q'
      obtain ⟨v, hv⟩ := heo
      exact ⟨v, by rw [hbe]; exact hv⟩
    · refine (ok b u q).stay (fun c v hc r => k c v ?_ r) (fun c r => by rw [upd_ne (nown c b r)]; exact r) fun c xs r => by rw [upd_ne (ntup c xs r)]; exact r
      rcases hc with rfl | hc
      · exact hbe
      · rintro rfl
        rcases he with z | z
        · exact nown c b hc z
        · rw [hc] at z; cases z; exact hb rfl
end

/-! ### kept unless tracked; of the frames at fs (the callers') the slots may change (an exception that passes writes there); of the records at ex (iterators) nothing is said -/
structure Un (fs ex : List Addr) (H H' : Hp) (h h' : Heap) : Prop where
  keep : ∀ b o, h.get? b = some o → H b = none → b ∉ fs → b ∉ ex → h'.get? b = some o
  slot : ∀ b o, h.get? b = some o → H b = none → b ∈ fs → b ∉ ex → ∃ sl, h'.get? b = some { o with slots := sl }
  free : ∀ b o, h.get? b = some o → H b = none → b ∉ ex → H' b = none
  there : ∀ b o, h.get? b = some o → b ∉ ex → ∃ o', h'.get? b = some o'
  tups : ∀ b xs, H b = some (.tup xs) → H' b = some (.tup xs)
  frzs : ∀ b o u, H b = some (.frz o u) → H' b = some (.frz o u)
  tbls : ∀ b ps, H b = some (.tbl ps) → ∃ more, H' b = some (.tbl (ps ++ more))
section
variable {fs fs' ex ex' : List Addr} {H H1 H2 : Hp} {h h1 h2 h' : Heap} {a x e : Addr} {o : HO}
theorem Un.any (u : Un fs ex H H1 h h1) {b : Addr} {ob : Obj} (q : h.get? b = some ob) (n : H b = none) (hx : b ∉ ex) : ∃ sl, h1.get? b = some { ob with slots := sl } := by
  by_cases hb : b ∈ fs
  · exact u.slot b ob q n hb hx
  · exact ⟨ob.slots, u.keep b ob q n hb hx⟩
theorem Un.kept (k : ∀ b u, h.get? b = some u → h'.get? b = some u) : Un fs ex H H h h' :=
  ⟨fun b ob q _ _ _ => k b ob q, fun b ob q _ _ _ => ⟨ob.slots, k b ob q⟩, fun _ _ _ n _ => n, fun b ob q _ => ⟨ob, k b ob q⟩, fun _ _ q => q, fun _ _ _ q => q, fun _ ps q => ⟨#[], by rw [q]; simp⟩⟩
theorem Un.refl : Un fs ex H H h h := Un.kept fun _ _ q => q
theorem Un.laid (k : ∀ b u, h.get? b = some u → h'.get? b = some u) (hp : h.objs.size ≤ a) (hn : H a = none) : Un fs ex H (upd H a o) h h' where
  keep := fun b u q _ _ _ => k b u q
  slot := fun b u q _ _ _ => ⟨u.slots, k b u q⟩
  free := fun b u q n _ => by rw [upd_ne (Nat.ne_of_lt (Nat.lt_of_lt_of_le (Heap.lt_size q) hp))]; exact n
  there := fun b u q _ => ⟨u, k b u q⟩
  tups := fun b xs q => by rw [upd_ne (ne_of_none q hn)]; exact q
  frzs := fun b u xs q => by rw [upd_ne (ne_of_none q hn)]; exact q
  tbls := fun b ps q => ⟨#[], by rw [upd_ne (ne_of_none q hn), q]; simp⟩
theorem Un.write (mu : Mut (H x)) (he : e = x ∨ H e = some (.own x)) (k : ∀ b u, b ≠ e → h.get? b = some u → h'.get? b = some u) (heo : ∃ u, h'.get? e = some u) : Un fs ex H (upd H x o) h h' := by
  have hx : ∀ b, H b = none → b ≠ x := fun b n z => by subst z; rw [n] at mu; exact mu
  have hb : ∀ b, H b = none → b ≠ e := fun b n z => by
    subst z
    rcases he with r | r
    · exact hx b n r
    · rw [n] at r; cases r
  have hm : ∀ b u, H b = some u → ¬ Mut (some u) → b ≠ x := fun b u q nm z => by subst z; rw [q] at mu; exact nm mu
  refine ⟨fun b u q n _ _ => k b u (hb b n) q, fun b u q n _ _ => ⟨u.slots, k b u (hb b n) q⟩, fun b u q n _ => by rw [upd_ne (hx b n)]; exact n, fun b u q _ => ?_,
    fun b xs q => by rw [upd_ne (hm b _ q fun z => z)]; exact q, fun b u xs q => by rw [upd_ne (hm b _ q fun z => z)]; exact q, fun b ps q => ⟨#[], by rw [upd_ne (hm b _ q fun z => z), q]; simp⟩⟩
  by_cases hbe : b = e
  · subst hbe; exact heo
  · exact ⟨u, k b u hbe q⟩
end

/-! ### the heap without what is tracked -/
def trk (h : Heap) (H : Hp) : List Addr := (List.range h.objs.size).filter fun a => (H a).isSome
def hidT (h : Heap) (H : Hp) : Heap := PySem.W.hideAll h (trk h H)
theorem hidT_size (h : Heap) (H : Hp) : (hidT h H).objs.size = h.objs.size := PySem.W.hideAll_size _ _
theorem hidT_get {h : Heap} {H : Hp} {b : Addr} {o : Obj} (e : h.get? b = some o) (n : H b = none) : (hidT h H).get? b = some o :=
  PySem.W.hideAll_get _ e fun hm => by
    have q : (H b).isSome = true := (List.mem_filter.mp hm).2
    rw [n] at q; simp at q
theorem of_hidT {h : Heap} {H : Hp} {b : Addr} {o : Obj} (e : (hidT h H).get? b = some o) : h.get? b = some o ∧ H b = none := by
  have e' : h.get? b = some o := PySem.W.of_hideAll (trk h H) e
  refine ⟨e', ?_⟩
  cases q : H b with
  | none => rfl
  | some x =>
    have hm : b ∈ trk h H := List.mem_filter.mpr ⟨List.mem_range.mpr (Heap.lt_size e'), by simp [q]⟩
    have z : (hidT h H).get? b = none := PySem.W.hideAll_none (trk h H) hm
    rw [z] at e; cases e

/-! ### OpenK's ledger, filled with every new object but one -/
def allNews (g h : Heap) (L : Addr) : List (Addr × Obj) := (List.range h.objs.size).filterMap fun a => if a = L ∨ (g.get? a).isSome = true then none else (h.get? a).map fun o => (a, o)
def rest (g h : Heap) (L d : Addr) : List (Addr × Obj) := (allNews g h L).filter fun p => decide (p.1 ≠ d)
end L2

namespace L2
open PySem PySem.Spec PyProof.Rows

/-- the module's facts, over the base: the heap at the law's entry without what is tracked there -/
structure Mod (K : PySem.W.Frag) (mg : Str → Option Value) (base : Heap) : Prop where
  kin : K.In base
  glob : base.Ns mainGlobals mg
  blt : ∃ mb, base.Ns builtinsNs mb ∧ ∀ x : Str, x ≠ "__name__" → mb x = bootBuiltins x
  nolimit : base.NoLimit

/-- the context: a def's body (or a comprehension's block) running. base: fixed through the whole law; s₀, H₀: the entry; outer: the frames whose slots others may change (a def's callers); stack: all frames that run;
   ex: iterators that were made ahead of the entry and are walked here (a comprehension's); fn: the names whose cells were made at the entry (a def: all; a comprehension's block: its own); calm: not within an except suite; pn: pins that every state bears; xe: what is wanted of an exception that leaves the code -/
structure Cx where
  prog : Program
  w : World
  K : PySem.W.Frag
  mg : Str → Option Value
  base : Heap
  A : Around
  N : List Str
  s₀ : Shared
  H₀ : Hp
  env : Env
  outer : List Env
  stack : List Env
  ex : List Addr
  fn : Str → Bool
  calm : Bool
  pn : List (Addr × Obj)
  xe : Value → Shared → Prop
/-- the callers' frames -/
def frs (l : List Env) : List Addr := l.filterMap (·.frame)
abbrev Cx.fs (X : Cx) : List Addr := frs X.outer

def Vis (sc : Scope) (x : Str) : Prop := sc.names.lookup x = some .local ∨ sc.names.lookup x = some .cell ∨ sc.names.lookup x = some .free
def Loc (sc : Scope) (x : Str) : Prop := sc.names.lookup x = some .local ∨ sc.names.lookup x = some .cell
def Look (env : Env) (h : Heap) (m : Str → Option Value) (x : Str) (u : Value) : Prop :=
  (env.kindOf x = some .local ∧ m x = some u) ∨ ((env.kindOf x = some .cell ∨ env.kindOf x = some .free) ∧ ∃ c, env.cells.lookup x = some c ∧ h.IsCell c (some u))

structure Cx.Ok (X : Cx) : Prop where
  mod : Mod X.K X.mg X.base
  kind : X.env.scope.kind = .function
  glob : X.env.globals = mainGlobals
  blt : X.env.builtins = builtinsNs
  above : X.s₀.heap.objs.size ≤ X.env.locals
  inj : ∀ x y c, X.env.cells.lookup x = some c → X.env.cells.lookup y = some c → x = y
  has : ∀ x, (X.env.kindOf x = some .cell ∨ X.env.kindOf x = some .free) → ∃ c, X.env.cells.lookup x = some c
  cab : ∀ x c, X.fn x = true → X.env.cells.lookup x = some c → X.s₀.heap.objs.size ≤ c
  hd : X.calm = true → X.A.handled = none
  frames : X.A.frames = some X.stack
  stk : X.stack = X.outer ∨ (X.stack = X.env :: X.outer ∧ X.env.frame = some X.env.locals)
  exf : ∀ b ∈ X.ex, b ≠ X.env.locals ∧ ∀ x c, X.env.cells.lookup x = some c → c ≠ b
  bs : ∀ b o, X.base.get? b = some o → X.s₀.heap.get? b = some o ∧ X.H₀ b = none
  bsz : X.base.objs.size ≤ X.s₀.heap.objs.size
  noex : ∀ b o, X.base.get? b = some o → b ∉ X.ex
  exfs : ∀ b ∈ X.ex, b ∉ X.fs
  funs : X.s₀.heap.FunFrames X.base X.outer
  frf : ∀ b ∈ X.fs, X.H₀ b = none

structure Inv (X : Cx) (pins : List (Addr × Obj)) (σ : List (Option V)) (H : Hp) (s : Shared) : Prop where
  ok : X.Ok
  os : s.os = X.s₀.os
  bare : AllBare s.gens
  base : Un X.fs X.ex X.H₀ H X.s₀.heap s.heap
  loc : ∃ m, s.heap.Ns X.env.locals m ∧ ∀ (i : Nat) (x : Str) (v : V), X.N[i]? = some x → σ[i]? = some (some v) → Vis X.env.scope x → ∃ u, RelV v u ∧ Look X.env s.heap m x u
  cell : ∀ x c, X.env.cells.lookup x = some c → ∃ v, s.heap.IsCell c v
  free : H X.env.locals = none
  freeC : ∀ x c, X.env.cells.lookup x = some c → H c = none
  pin : ∀ p ∈ X.pn ++ pins, s.heap.get? p.1 = some p.2 ∧ H p.1 = none ∧ p.1 ≠ X.env.locals ∧ p.1 ∉ X.fs ∧ ∀ v, p.2.data ≠ .cell v
  hok : HOk X.prog X.w H s.heap
  len : σ.length = X.N.length

section
variable {X : Cx} {pins : List (Addr × Obj)} {σ : List (Option V)} {H H' : Hp} {s : Shared} {h' : Heap}

theorem Cx.Ok.nofr (ok : X.Ok) {b : Addr} {o : Obj} (e : X.base.get? b = some o) : b ∉ X.fs := fun hb => by
  have := (ok.funs.mem hb).1
  rw [e] at this; cases this
theorem Inv.bs (I : Inv X pins σ H s) : ∀ b o, X.base.get? b = some o → s.heap.get? b = some o ∧ H b = none := fun b o e =>
  ⟨I.base.keep b o (I.ok.bs b o e).1 (I.ok.bs b o e).2 (I.ok.nofr e) (I.ok.noex b o e), I.base.free b o (I.ok.bs b o e).1 (I.ok.bs b o e).2 (I.ok.noex b o e)⟩
theorem Inv.bk (I : Inv X pins σ H s) : ∀ b o, X.base.get? b = some o → s.heap.get? b = some o := fun b o e => (I.bs b o e).1
theorem Inv.mod (I : Inv X pins σ H s) : Mod X.K X.mg X.base := I.ok.mod
theorem Inv.kIn (I : Inv X pins σ H s) : X.K.In s.heap := I.ok.mod.kin.keeps I.bk
theorem Inv.lt (I : Inv X pins σ H s) : X.env.locals < s.heap.objs.size := let ⟨_, hn, _⟩ := I.loc; hn.lt
theorem Inv.sz (I : Inv X pins σ H s) : X.s₀.heap.objs.size ≤ s.heap.objs.size := Nat.le_trans I.ok.above (Nat.le_of_lt I.lt)
theorem Inv.nofs (I : Inv X pins σ H s) {a : Addr} (h : s.heap.objs.size ≤ a) : a ∉ X.fs := fun hb => by
  obtain ⟨_, o, ho, _⟩ := I.ok.funs.mem hb
  exact absurd (Nat.lt_of_lt_of_le (Heap.lt_size ho) (Nat.le_trans I.sz h)) (Nat.lt_irrefl _)
theorem Inv.cne (I : Inv X pins σ H s) : ∀ x c, X.env.cells.lookup x = some c → c ≠ X.env.locals := fun x c e z => by
  obtain ⟨v, o, ho, hd⟩ := I.cell x c e
  obtain ⟨m, ⟨o', es, ep, ho', hd', _⟩, _⟩ := I.loc
  rw [z, ho'] at ho; cases ho; rw [hd'] at hd; cases hd
theorem Inv.funs (I : Inv X pins σ H s) : s.heap.FunFrames X.base X.outer := by
  have all : ∀ (l : List Env), (∀ b ∈ frs l, b ∈ X.fs) → X.s₀.heap.FunFrames X.base l → s.heap.FunFrames X.base l := by
    intro l
    induction l with
    | nil => intro _ _; trivial
    | cons env r ih =>
      intro hs hl
      obtain ⟨hk, ⟨L, o, hf, hn, ho, hd⟩, hr⟩ := hl
      have hL : L ∈ X.fs := hs L (by unfold frs; rw [List.filterMap_cons, hf]; exact List.mem_cons_self)
      obtain ⟨sl, e⟩ := I.base.slot L o ho (I.ok.frf L hL) hL fun z => I.ok.exfs L z hL
      exact ⟨hk, ⟨L, _, hf, hn, e, hd⟩, ih (fun b hb => hs b (by unfold frs; rw [List.filterMap_cons, hf]; exact List.mem_cons_of_mem _ hb)) hr⟩
  exact all X.outer (fun _ hb => hb) I.ok.funs

/-- the frames that run, for a call -/
theorem Inv.stack (I : Inv X pins σ H s) : s.heap.FunFrames X.base X.stack := by
  rcases I.ok.stk with e | ⟨e, hf⟩
  · rw [e]; exact I.funs
  · rw [e]
    obtain ⟨m, hn, _⟩ := I.loc
    refine .cons (by rw [I.ok.kind]; decide) hf hn ?_ I.funs
    exact Heap.get?_none_of_le (Nat.le_trans I.ok.bsz I.ok.above)
theorem Inv.stkSub (I : Inv X pins σ H s) : ∀ b ∈ frs X.stack, b ∈ X.env.locals :: X.fs := fun b hb => by
  rcases I.ok.stk with e | ⟨e, hf⟩
  · rw [e] at hb; exact List.mem_cons_of_mem _ hb
  · rw [e] at hb
    unfold frs at hb
    rw [List.filterMap_cons, hf] at hb
    exact hb
theorem Inv.stkFree (I : Inv X pins σ H s) : ∀ b ∈ frs X.stack, H b = none := fun b hb => by
  rcases List.mem_cons.mp (I.stkSub b hb) with e | hb
  · rw [e]; exact I.free
  · obtain ⟨_, o, ho, _⟩ := I.ok.funs.mem hb
    exact I.base.free b o ho (I.ok.frf b hb) fun z => I.ok.exfs b z hb

/-- THE STEP: the untracked objects but the frame and the records at ch are kept (the callers' frames up to slots), the frame's map is kept, the new abstract heap is held -/
theorem Inv.step {g' : Array GenState} {t' : Nat} {d' : Drawn} {ch : List Addr} (I : Inv X pins σ H s)
    (hch : ∀ b ∈ ch, (b ∈ X.ex ∨ X.s₀.heap.objs.size ≤ b) ∧ b ≠ X.env.locals ∧ (∀ x c, X.env.cells.lookup x = some c → c ≠ b) ∧ ∀ p ∈ X.pn ++ pins, p.1 ≠ b)
    (keep : ∀ b o, b ≠ X.env.locals → b ∉ X.fs → b ∉ ch → s.heap.get? b = some o → H b = none → h'.get? b = some o)
    (slot : ∀ b o, b ≠ X.env.locals → b ∈ X.fs → b ∉ ch → s.heap.get? b = some o → H b = none → ∃ sl, h'.get? b = some { o with slots := sl }) (free : ∀ b o, b ∉ ch → s.heap.get? b = some o → H b = none → H' b = none)
    (there : ∀ b o, b ∉ ch → s.heap.get? b = some o → ∃ o', h'.get? b = some o')
    (tups : ∀ b xs, H b = some (.tup xs) → H' b = some (.tup xs)) (frzs : ∀ b o u, H b = some (.frz o u) → H' b = some (.frz o u)) (tbls : ∀ b ps, H b = some (.tbl ps) → ∃ more, H' b = some (.tbl (ps ++ more)))
    (ns : ∀ m, s.heap.Ns X.env.locals m → h'.Ns X.env.locals m) (hok : HOk X.prog X.w H' h') (hg : AllBare g') :
    Inv X pins σ H' { s with heap := h', gens := g', drawn := d', toks := t' } := by
  have neL : ∀ b o, X.s₀.heap.get? b = some o → b ≠ X.env.locals := fun b o e => Nat.ne_of_lt (Nat.lt_of_lt_of_le (Heap.lt_size e) I.ok.above)
  have neC : ∀ b o, X.s₀.heap.get? b = some o → b ∉ X.ex → b ∉ ch := fun b o e hx hb => by
    rcases (hch b hb).1 with z | z
    · exact hx z
    · exact absurd (Nat.lt_of_lt_of_le (Heap.lt_size e) z) (Nat.lt_irrefl _)
  have cellK : ∀ x c, X.env.cells.lookup x = some c → ∀ v, s.heap.IsCell c v → h'.IsCell c v := fun x c e v ⟨o, ho, hd⟩ => by
    have nch : c ∉ ch := fun z => (hch c z).2.2.1 x c e rfl
    by_cases hc : c ∈ X.fs
    · obtain ⟨sl, q⟩ := slot c o (I.cne x c e) hc nch ho (I.freeC x c e)
      exact ⟨_, q, hd⟩
    · exact ⟨o, keep c o (I.cne x c e) hc nch ho (I.freeC x c e), hd⟩
  refine ⟨I.ok, I.os, hg, ⟨fun b o e n hb hx => ?_, fun b o e n hb hx => ?_, fun b o e n hx => ?_, fun b o e hx => ?_, fun b xs e => tups b xs (I.base.tups b xs e), fun b o xs e => frzs b o xs (I.base.frzs b o xs e), fun b ps e => ?_⟩, ?_, fun x c e => ?_, ?_, fun x c e => ?_, fun p hp => ?_, hok, I.len⟩
  · exact keep b o (neL b o e) hb (neC b o e hx) (I.base.keep b o e n hb hx) (I.base.free b o e n hx)
  · obtain ⟨sl, e1⟩ := I.base.slot b o e n hb hx
    obtain ⟨sl', e2⟩ := slot b _ (neL b o e) hb (neC b o e hx) e1 (I.base.free b o e n hx)
    exact ⟨sl', e2⟩
  · obtain ⟨o', e1⟩ := I.base.there b o e hx
    exact free b o' (neC b o e hx) e1 (I.base.free b o e n hx)
  · obtain ⟨o', e1⟩ := I.base.there b o e hx
    exact there b o' (neC b o e hx) e1
  · obtain ⟨m1, e1⟩ := I.base.tbls b ps e
    obtain ⟨m2, e2⟩ := tbls b _ e1
    exact ⟨m1 ++ m2, by rw [e2, Array.append_assoc]⟩
  · obtain ⟨m, hn, hl⟩ := I.loc
    refine ⟨m, ns m hn, fun i x v e1 e2 e3 => ?_⟩
    obtain ⟨u, r, l⟩ := hl i x v e1 e2 e3
    refine ⟨u, r, ?_⟩
    rcases l with l | ⟨k, c, e, z⟩
    · exact .inl l
    · exact .inr ⟨k, c, e, cellK x c e _ z⟩
  · obtain ⟨v, z⟩ := I.cell x c e
    exact ⟨v, cellK x c e v z⟩
  · obtain ⟨m, ⟨o, _, _, ho, _⟩, _⟩ := I.loc
    exact free _ o (fun z => (hch _ z).2.1 rfl) ho I.free
  · obtain ⟨v, o, ho, hd⟩ := I.cell x c e
    exact free c o (fun z => (hch c z).2.2.1 x c e rfl) ho (I.freeC x c e)
  · obtain ⟨e, n, ne, nf, d⟩ := I.pin p hp
    have nch : p.1 ∉ ch := fun z => (hch p.1 z).2.2.2 p hp rfl
    exact ⟨keep p.1 p.2 ne nf nch e n, free p.1 p.2 nch e n, ne, nf, d⟩
/-- .. where the frame's own object is kept too -/
theorem Inv.un {t' : Nat} (I : Inv X pins σ H s) (u : Un X.fs [] H H' s.heap h') (hok : HOk X.prog X.w H' h') : Inv X pins σ H' { s with heap := h', toks := t' } := by
  obtain ⟨m, ⟨o, es, ep, ho, r⟩, _⟩ := id I.loc
  obtain ⟨sl, hL⟩ := u.any ho I.free (by simp)
  exact I.step (g' := s.gens) (d' := s.drawn) (ch := []) (fun _ z => nomatch z) (fun b o _ hb _ e n => u.keep b o e n hb (by simp)) (fun b o _ hb _ e n => u.slot b o e n hb (by simp)) (fun b o _ e n => u.free b o e n (by simp)) (fun b o _ e => u.there b o e (by simp)) u.tups u.frzs u.tbls (fun m' hm => by
    obtain ⟨o', es', ep', ho', r'⟩ := hm
    rw [ho] at ho'; cases ho'
    exact ⟨_, es', ep', hL, r'⟩) hok I.bare
/-- behind a call (or a comprehension's block): the slots of this frame may have changed too, the records at ch may have turned -/
theorem Inv.call {g' : Array GenState} {t' : Nat} {d' : Drawn} {ch : List Addr} (I : Inv X pins σ H s) (u : Un (frs X.stack) ch H H' s.heap h') (hok : HOk X.prog X.w H' h') (hg : AllBare g')
    (hch : ∀ b ∈ ch, (b ∈ X.ex ∨ X.s₀.heap.objs.size ≤ b) ∧ b ≠ X.env.locals ∧ (∀ x c, X.env.cells.lookup x = some c → c ≠ b) ∧ ∀ p ∈ X.pn ++ pins, p.1 ≠ b) :
    Inv X pins σ H' { s with heap := h', gens := g', drawn := d', toks := t' } := by
  obtain ⟨m, ⟨o, es, ep, ho, r⟩, _⟩ := id I.loc
  obtain ⟨sl, hL⟩ := u.any ho I.free fun z => (hch _ z).2.1 rfl
  exact I.step (ch := ch) hch (fun b o hL hb hc e n => u.keep b o e n (fun z => (List.mem_cons.mp (I.stkSub b z)).elim hL hb) hc) (fun b o _ _ hc e n => u.any e n hc) (fun b o hc e n => u.free b o e n hc) (fun b o hc e => u.there b o e hc) u.tups u.frzs u.tbls (fun m' hm => by
    obtain ⟨o', es', ep', ho', r'⟩ := hm
    rw [ho] at ho'; cases ho'
    exact ⟨_, es', ep', hL, r'⟩) hok hg
/-- an untracked record of ours (an iterator) has turned -/
theorem Inv.turned {t' : Nat} {it : Addr} (I : Inv X pins σ H s) (k : ∀ b o, b ≠ it → s.heap.get? b = some o → h'.get? b = some o) (hn : H it = none) (hL : it ≠ X.env.locals)
    (h1 : it ∈ X.ex ∨ X.s₀.heap.objs.size ≤ it) (h2 : ∀ x c, X.env.cells.lookup x = some c → c ≠ it) (h3 : ∀ p ∈ X.pn ++ pins, p.1 ≠ it) : Inv X pins σ H { s with heap := h', toks := t' } := by
  have nit : ∀ b u, H b = some u → b ≠ it := fun b u e z => by rw [z, hn] at e; cases e
  refine I.step (g' := s.gens) (d' := s.drawn) (ch := [it]) (fun b hb => ?_) (fun b o _ _ hc e _ => k b o (fun z => hc (by simp [z])) e) (fun b o _ _ hc e _ => ⟨o.slots, k b o (fun z => hc (by simp [z])) e⟩) (fun _ _ _ _ n => n)
    (fun b o hc e => ⟨o, k b o (fun z => hc (by simp [z])) e⟩) (fun _ _ e => e) (fun _ _ _ e => e) (fun b ps e => ⟨#[], by rw [e]; simp⟩) (fun m hm => ?_) (fun b u e => ?_) I.bare
  · have e : b = it := by simpa using hb
    subst e
    exact ⟨h1, hL, h2, h3⟩
  · obtain ⟨o, es, ep, ho, r⟩ := hm
    exact ⟨o, es, ep, k _ o (Ne.symm hL) ho, r⟩
  · refine (I.hok b u e).stay (fun c v hc q => k c v ?_ q) (fun _ q => q) fun _ _ q => q
    rcases hc with z | z
    · rw [z]; exact nit b u e
    · exact nit c _ z
theorem Inv.tok (I : Inv X pins σ H s) (t : Nat) : Inv X pins σ H { s with toks := t } := I.un (h' := s.heap) (t' := t) Un.refl I.hok
/-- all objects kept -/
theorem Inv.kept {t' : Nat} (I : Inv X pins σ H s) (k : ∀ b u, s.heap.get? b = some u → h'.get? b = some u) : Inv X pins σ H { s with heap := h', toks := t' } := I.un (Un.kept k) (I.hok.kept k)
/-- a new object laid and tracked -/
theorem Inv.laid {a : Addr} {o : HO} {t' : Nat} (I : Inv X pins σ H s) (k : ∀ b u, s.heap.get? b = some u → h'.get? b = some u) (hp : s.heap.objs.size ≤ a) (new : ObjOk X.prog X.w (upd H a o) h' a o) :
    Inv X pins σ (upd H a o) { s with heap := h', toks := t' } := I.un (Un.laid k hp (I.hok.fresh hp)) (I.hok.laid k hp new)
/-- an object written -/
theorem Inv.write {x e : Addr} {o : HO} {t' : Nat} (I : Inv X pins σ H s) (mu : Mut (H x)) (he : e = x ∨ H e = some (.own x)) (k : ∀ b u, b ≠ e → s.heap.get? b = some u → h'.get? b = some u) (heo : ∃ u, h'.get? e = some u)
    (new : ObjOk X.prog X.w (upd H x o) h' x o) : Inv X pins σ (upd H x o) { s with heap := h', toks := t' } := I.un (Un.write mu he k heo) (I.hok.write mu he k heo new)
theorem Inv.pins_of {pins' : List (Addr × Obj)} (I : Inv X pins σ H s) (h : ∀ p ∈ pins', s.heap.get? p.1 = some p.2 ∧ H p.1 = none ∧ p.1 ≠ X.env.locals ∧ p.1 ∉ X.fs ∧ ∀ v, p.2.data ≠ .cell v) : Inv X pins' σ H s :=
  ⟨I.ok, I.os, I.bare, I.base, I.loc, I.cell, I.free, I.freeC, fun p hp => (List.mem_append.mp hp).elim (fun z => I.pin p (List.mem_append_left _ z)) (h p), I.hok, I.len⟩

theorem nodup_ix {N : List Str} (hN : N.Nodup) {i j : Nat} {x : Str} (a : N[i]? = some x) (b : N[j]? = some x) : i = j := by
  obtain ⟨h1, e1⟩ := List.getElem?_eq_some_iff.mp a
  obtain ⟨h2, e2⟩ := List.getElem?_eq_some_iff.mp b
  exact (List.getElem_inj hN).mp (e1.trans e2.symm)

/-- a name is stored; what changed -/
theorem store_ok2 {M : Model} {A : Around} {E : Value → Shared → Prop} {i : Nat} {x : Str} {v : V} {u : Value} {Q : Unit → Shared → Prop} (I : Inv X pins σ H s) (hN : X.N.Nodup) (hi : X.N[i]? = some x) (hx : Loc X.env.scope x) (r : RelV v u)
    (h : ∀ s', Inv X pins (σ.set i (some v)) H s' → (∃ a, Heap.SameBut a s.heap s'.heap ∧ (a = X.env.locals ∨ X.env.cells.lookup x = some a)) → Q () s') (hf : X.fn x = true ∨ X.env.scope.names.lookup x = some .local := by first | exact .inl rfl | exact .inr rfl | assumption) : wpAny M A (storeName X.env x u) Q E s := by
  obtain ⟨m, hn, hl⟩ := id I.loc
  have hcls : (X.env.scope.kind == .class || (X.env.scope.kind == .module && X.env.locals != X.env.globals)) = false := by rw [I.ok.kind]; rfl
  have hiσ : i < σ.length := by rw [I.len]; exact (List.getElem?_eq_some_iff.mp hi).1
  have cne := I.cne
  have tracked : ∀ {a : Addr} {h' : Heap}, (∃ o, s.heap.get? a = some o ∧ H a = none) → Heap.SameBut a s.heap h' → HOk X.prog X.w H h' := fun {a h'} ha hs b ob e => by
    obtain ⟨_, _, hfree⟩ := ha
    refine (I.hok b ob e).stay (fun c w' hc q => (hs.2 c ?_).trans q) (fun _ q => q) fun _ _ q => q
    rintro rfl
    rcases hc with rfl | hc
    · rw [hfree] at e; cases e
    · rw [hfree] at hc; cases hc
  rcases hx with hk | hk
  · refine wpAny_storeName_local hk hn (fun h' hn' hs => ?_) hcls
    obtain ⟨oL, _, _, hoL, _⟩ := id hn
    refine h _ ⟨I.ok, I.os, I.bare, ⟨fun b o e n hb hx => ?_, fun b o e n hb hx => ?_, I.base.free, fun b o e hx => ?_, I.base.tups, I.base.frzs, I.base.tbls⟩, ⟨_, hn', fun j y v' e1 e2 e3 => ?_⟩, fun y c e => ?_, I.free, I.freeC, fun p hp => ?_, tracked ⟨oL, hoL, I.free⟩ hs, by simpa using I.len⟩ ⟨_, hs, .inl rfl⟩
    · exact (hs.2 b (Nat.ne_of_lt (Nat.lt_of_lt_of_le (Heap.lt_size e) I.ok.above))).trans (I.base.keep b o e n hb hx)
    · obtain ⟨sl, e1⟩ := I.base.slot b o e n hb hx
      exact ⟨sl, (hs.2 b (Nat.ne_of_lt (Nat.lt_of_lt_of_le (Heap.lt_size e) I.ok.above))).trans e1⟩
    · obtain ⟨o', e1⟩ := I.base.there b o e hx
      exact ⟨o', (hs.2 b (Nat.ne_of_lt (Nat.lt_of_lt_of_le (Heap.lt_size e) I.ok.above))).trans e1⟩
    · by_cases hj : j = i
      · subst hj
        rw [hi] at e1; cases e1
        rw [List.getElem?_set_self hiσ] at e2
        cases e2
        exact ⟨u, r, .inl ⟨hk, by simp⟩⟩
      · rw [List.getElem?_set_ne (Ne.symm hj)] at e2
        obtain ⟨u', r', q⟩ := hl j y v' e1 e2 e3
        refine ⟨u', r', ?_⟩
        rcases q with ⟨k, e⟩ | ⟨k, c, e, z⟩
        · refine .inl ⟨k, ?_⟩
          have : y ≠ x := fun e => hj (nodup_ix hN e1 (e ▸ hi))
          simp [this, e]
        · exact .inr ⟨k, c, e, z.sameBut hs (cne y c e)⟩
    · obtain ⟨w', z⟩ := I.cell y c e
      exact ⟨w', z.sameBut hs (cne y c e)⟩
    · obtain ⟨e, n, ne, nf, d⟩ := I.pin p hp
      exact ⟨(hs.2 p.1 ne).trans e, n, ne, nf, d⟩
  · have hfn : X.fn x = true := by
      rcases hf with z | z
      · exact z
      · rw [z] at hk; cases hk
    obtain ⟨c, hc⟩ := I.ok.has x (.inl hk)
    obtain ⟨w', z⟩ := I.cell x c hc
    refine wpAny_storeName_cell I.ok.kind hk hc z (fun h' hc' hs => ?_)
    obtain ⟨oc, hoc, hocd⟩ := id z
    refine h { s with heap := h' } ⟨I.ok, I.os, I.bare, ⟨fun b o e n hb hx => ?_, fun b o e n hb hx => ?_, I.base.free, fun b o e hx => ?_, I.base.tups, I.base.frzs, I.base.tbls⟩, ⟨m, hn.sameBut hs (Ne.symm (cne x c hc)), fun j y v' e1 e2 e3 => ?_⟩, fun y c' e => ?_, I.free, I.freeC, fun p hp => ?_, tracked ⟨oc, hoc, I.freeC x c hc⟩ hs, by simpa using I.len⟩ ⟨c, hs, .inr hc⟩
    · exact (hs.2 b (Nat.ne_of_lt (Nat.lt_of_lt_of_le (Heap.lt_size e) (I.ok.cab x c hfn hc)))).trans (I.base.keep b o e n hb hx)
    · obtain ⟨sl, e1⟩ := I.base.slot b o e n hb hx
      exact ⟨sl, (hs.2 b (Nat.ne_of_lt (Nat.lt_of_lt_of_le (Heap.lt_size e) (I.ok.cab x c hfn hc)))).trans e1⟩
    · obtain ⟨o', e1⟩ := I.base.there b o e hx
      exact ⟨o', (hs.2 b (Nat.ne_of_lt (Nat.lt_of_lt_of_le (Heap.lt_size e) (I.ok.cab x c hfn hc)))).trans e1⟩
    · by_cases hj : j = i
      · subst hj
        rw [hi] at e1; cases e1
        rw [List.getElem?_set_self hiσ] at e2
        cases e2
        exact ⟨u, r, .inr ⟨.inl hk, c, hc, hc'⟩⟩
      · rw [List.getElem?_set_ne (Ne.symm hj)] at e2
        obtain ⟨u', r', q⟩ := hl j y v' e1 e2 e3
        refine ⟨u', r', ?_⟩
        rcases q with q | ⟨k, c', e, z'⟩
        · exact .inl q
        · refine .inr ⟨k, c', e, z'.sameBut hs ?_⟩
          rintro rfl
          exact hj (nodup_ix hN e1 (I.ok.inj _ _ _ e hc ▸ hi))
    · by_cases hcc : c' = c
      · subst hcc; exact ⟨_, hc'⟩
      · obtain ⟨w2, z2⟩ := I.cell y c' e
        exact ⟨w2, z2.sameBut hs hcc⟩
    · obtain ⟨e, n, ne, nf, d⟩ := I.pin p hp
      refine ⟨(hs.2 p.1 ?_).trans e, n, ne, nf, d⟩
      intro q
      rw [q, hoc] at e
      have q' : oc = p.2 := Option.some.inj e
      exact d w' (by rw [← q']; exact hocd)
theorem store_ok {M : Model} {A : Around} {E : Value → Shared → Prop} {i : Nat} {x : Str} {v : V} {u : Value} {Q : Unit → Shared → Prop} (I : Inv X pins σ H s) (hN : X.N.Nodup) (hi : X.N[i]? = some x) (hx : Loc X.env.scope x) (r : RelV v u)
    (h : ∀ s', Inv X pins (σ.set i (some v)) H s' → Q () s') (hf : X.fn x = true ∨ X.env.scope.names.lookup x = some .local := by first | exact .inl rfl | exact .inr rfl | assumption) : wpAny M A (storeName X.env x u) Q E s :=
  store_ok2 I hN hi hx r (fun s' I' _ => h s' I') hf
/-- behind a call or a block, the state as it is -/
theorem Inv.call' {s' : Shared} {ch : List Addr} (I : Inv X pins σ H s) (ho : s'.os = s.os) (u : Un (frs X.stack) ch H H' s.heap s'.heap) (hok : HOk X.prog X.w H' s'.heap) (hg : AllBare s'.gens)
    (hch : ∀ b ∈ ch, (b ∈ X.ex ∨ X.s₀.heap.objs.size ≤ b) ∧ b ≠ X.env.locals ∧ (∀ x c, X.env.cells.lookup x = some c → c ≠ b) ∧ ∀ p ∈ X.pn ++ pins, p.1 ≠ b) : Inv X pins σ H' s' := by
  obtain ⟨h', g', d', t', o'⟩ := s'
  have e : o' = s.os := ho
  subst e
  exact I.call (g' := g') (t' := t') (d' := d') u hok hg hch
end

/-! ### the judgements -/
/-- an exception: its class, its own dict's address (where it has one), the abstract heap behind it -/
abbrev XK := Value → Option Addr → Hp → Prop
abbrev St := List (Option V)
abbrev VK := V → Hp → Prop
/-- an expression's reading; a test's; an argument list's -/
abbrev TE := St → Hp → VK → Prop
abbrev TT := St → Hp → (Bool → Hp → Prop) → Prop
abbrev TA := St → Hp → (List V → Hp → Prop) → Prop
/-- what is wanted behind a statement -/
structure Ends where
  nx : St → Hp → Prop
  rt : VK
  bk : St → Hp → Prop := fun _ _ => False
  ct : St → Hp → Prop := fun _ _ => False
abbrev TS := Ends → St → Hp → Prop

def EP (X : Cx) (pins : List (Addr × Obj)) (σ : St) (Q : VK) (u : Value) (s' : Shared) : Prop := ∃ v H', Inv X pins σ H' s' ∧ RelV v u ∧ Q v H'
def TP (X : Cx) (pins : List (Addr × Obj)) (σ : St) (Q : Bool → Hp → Prop) (b : Bool) (s' : Shared) : Prop := ∃ H', Inv X pins σ H' s' ∧ Q b H'
def AP (X : Cx) (pins : List (Addr × Obj)) (σ : St) (Q : List V → Hp → Prop) (us : List Value) (s' : Shared) : Prop := ∃ vs H', Inv X pins σ H' s' ∧ Vals vs us ∧ Q vs H'
def SP (X : Cx) (pins : List (Addr × Obj)) (D : Ends) (f : Flow) (s' : Shared) : Prop :=
  match f with
  | .next => ∃ σ' H', Inv X pins σ' H' s' ∧ D.nx σ' H'
  | .brk => ∃ σ' H', Inv X pins σ' H' s' ∧ D.bk σ' H'
  | .cont => ∃ σ' H', Inv X pins σ' H' s' ∧ D.ct σ' H'
  | .ret u => ∃ v σ' H', Inv X pins σ' H' s' ∧ RelV v u ∧ D.rt v H'

def PE (X : Cx) (e : Expr) (t : TE) : Prop :=
  ∀ (pins : List (Addr × Obj)) (s : Shared) (σ : St) (H : Hp) (Q : VK), Inv X pins σ H s → t σ H Q → wpAny (model X.prog X.w) X.A (eval e X.env) (EP X pins σ Q) X.xe s
def PT (X : Cx) (e : Expr) (t : TT) : Prop :=
  ∀ (pins : List (Addr × Obj)) (s : Shared) (σ : St) (H : Hp) (Q : Bool → Hp → Prop), Inv X pins σ H s → t σ H Q → wpAny (model X.prog X.w) X.A (isTrue e X.env (eval e X.env)) (TP X pins σ Q) X.xe s
/-- a test whatever its 'whole' is (and, or) -/
def PW (X : Cx) (e : Expr) (t : TT) : Prop :=
  ∀ (whole : Sem Value) (pins : List (Addr × Obj)) (s : Shared) (σ : St) (H : Hp) (Q : Bool → Hp → Prop), Inv X pins σ H s → t σ H Q → wpAny (model X.prog X.w) X.A (isTrue e X.env whole) (TP X pins σ Q) X.xe s
theorem PW.pt {X : Cx} {e : Expr} {t : TT} (h : PW X e t) : PT X e t := h _
/-- an argument list (no star), from the left -/
def PA (X : Cx) (es : List Expr) (t : TA) : Prop :=
  ∀ (pos : Pos) (pins : List (Addr × Obj)) (s : Shared) (σ : St) (H : Hp) (Q : List V → Hp → Prop), Inv X pins σ H s → t σ H Q → wpAny (model X.prog X.w) X.A (spliced (backTo pos (starEach es X.env))) (AP X pins σ Q) X.xe s
def PS (X : Cx) (st : Stmt) (t : TS) : Prop :=
  ∀ (pins : List (Addr × Obj)) (s : Shared) (σ : St) (H : Hp) (D : Ends), Inv X pins σ H s → t D σ H → wpAny (model X.prog X.w) X.A (exec st X.env) (SP X pins D) X.xe s
def PSs (X : Cx) (st : List Stmt) (t : TS) : Prop :=
  ∀ (pins : List (Addr × Obj)) (s : Shared) (σ : St) (H : Hp) (D : Ends), Inv X pins σ H s → t D σ H → wpAny (model X.prog X.w) X.A (execs st X.env) (SP X pins D) X.xe s
/-- weaken the end -/
theorem thn {α : Type} {t : Sem α} {Q Q' : α → Shared → Prop} {M : Model} {A : Around} {E : Value → Shared → Prop} {s : Shared} (h : wpAny M A t Q E s) (hQ : ∀ a s, Q a s → Q' a s) : wpAny M A t Q' E s := wpAny_mono h hQ fun _ _ x => x
end L2

namespace L2
open PySem PySem.Spec PyProof.Rows
section
variable {X : Cx}

/-- two expressions in a row -/
theorem bin {a b : Expr} {ta tb : TE} (ha : PE X a ta) (hb : PE X b tb) {pins : List (Addr × Obj)} {s : Shared} {σ : St} {H : Hp} {R : V → V → Hp → Prop} (I : Inv X pins σ H s) (h : ta σ H fun x H1 => tb σ H1 fun y H2 => R x y H2)
    {α : Type} {Q : α → Shared → Prop} {f : Value → Value → Sem α}
    (hf : ∀ v u s2 x y H2, Inv X pins σ H2 s2 → RelV x v → RelV y u → R x y H2 → wpAny (model X.prog X.w) X.A (f v u) Q X.xe s2) :
    wpAny (model X.prog X.w) X.A (eval a X.env) (fun v s₁ => wpAny (model X.prog X.w) X.A (eval b X.env) (fun u s₂ => wpAny (model X.prog X.w) X.A (f v u) Q X.xe s₂) X.xe s₁) X.xe s := by
  refine thn (ha pins s σ H _ I h) fun v s1 ⟨x, H1, I1, r1, q1⟩ => ?_
  refine thn (hb pins s1 σ H1 _ I1 q1) fun u s2 ⟨y, H2, I2, r2, q2⟩ => ?_
  exact hf v u s2 x y H2 I2 r1 r2 q2

/-! ### names and constants -/
inductive VarR (i : Nat) (σ : St) (H : Hp) (Q : VK) : Prop
  | mk (v : V) (h : σ[i]? = some (some v)) (k : Q v H) : VarR i σ H Q
def tVar (i : Nat) : TE := fun σ H Q => VarR i σ H Q
def tC (v : V) : TE := fun _ H Q => Q v H
theorem pe_var {i : Nat} {x : Str} {pos : Pos} (hN : X.N[i]? = some x) (hv : Vis X.env.scope x) (hd : (x == ("__debug__" : Str)) = false := by decide) (hcd : (x == ("__classdict__" : Str)) = false := by decide) : PE X (.Name x pos) (tVar i) := by
  intro pins s σ H Q I h
  obtain ⟨v, e, h⟩ := h
  obtain ⟨m, hn, hl⟩ := I.loc
  obtain ⟨u, r, l⟩ := hl i x v hN e hv
  have fin : EP X pins σ Q u s := ⟨v, H, I, r, h⟩
  rcases l with ⟨hk, hm⟩ | ⟨hk, c, hc, hcell⟩
  · exact wpAny_Name (wpAny_loadName_local I.ok.kind hk hn hm fin) hd
  · rcases hk with hk | hk
    · exact wpAny_Name (wpAny_loadName_cell I.ok.kind hk hc hcell fin) hd
    · exact wpAny_Name (wpAny_loadName_free I.ok.kind hk hc hcell fin hcd) hd
theorem pe_int {i j pos} : PE X (.Constant (.int i) j pos) (tC (.int i)) := fun _ _ _ H _ I h => wpAny_Constant_int ⟨.int i, H, I.tok _, ⟨_, rfl⟩, h⟩
theorem pe_bl {b j pos} : PE X (.Constant (.bool b) j pos) (tC (.bl b)) := fun _ _ _ H _ I h => Constant_bool ⟨.bl b, H, I, rfl, h⟩
theorem pe_str {x j pos} : PE X (.Constant (.str x) j pos) (tC (.str x)) := fun _ _ _ H _ I h => Calls.Constant_str ⟨.str x, H, I.tok _, ⟨_, rfl⟩, h⟩

/-- a global name of the def -/
def Gl (X : Cx) (x : Str) : Prop := X.env.kindOf x = some .globalImplicit
theorem ld_glob {E : Value → Shared → Prop} {pins : List (Addr × Obj)} {s : Shared} {σ : St} {H : Hp} {x : Str} {u : Value} {pos : Pos} {Q : Value → Shared → Prop} (I : Inv X pins σ H s) (hg : Gl X x) (hm : X.mg x = some u) (h : Q u s)
    (hd : (x == ("__debug__" : Str)) = false := by decide) : wpAny (model X.prog X.w) X.A (eval (.Name x pos) X.env) Q E s :=
  Calls.Name_function_global I.ok.kind hg (Calls.loadGlobal_global (by rw [I.ok.glob]; exact I.mod.glob.keeps I.bk) hm h) hd
theorem ld_blt {E : Value → Shared → Prop} {pins : List (Addr × Obj)} {s : Shared} {σ : St} {H : Hp} {x : Str} {u : Value} {pos : Pos} {Q : Value → Shared → Prop} (I : Inv X pins σ H s) (hg : Gl X x) (hm : X.mg x = none) (hv : bootBuiltins x = some u) (h : Q u s)
    (hn : x ≠ "__name__" := by decide) (hd : (x == ("__debug__" : Str)) = false := by decide) : wpAny (model X.prog X.w) X.A (eval (.Name x pos) X.env) Q E s := by
  obtain ⟨mb, h1, h2⟩ := I.mod.blt
  exact Calls.Name_function_global I.ok.kind hg (Calls.loadGlobal_builtin (by rw [I.ok.glob]; exact I.mod.glob.keeps I.bk) hm (by rw [I.ok.blt]; exact h1.keeps I.bk) ((h2 x hn).trans hv) h) hd
/-- a module's constant, a class, a function, as a value -/
theorem pe_glob {x : Str} {v : V} {u : Value} {pos : Pos} (hg : Gl X x) (hm : X.mg x = some u) (r : RelV v u) (hd : (x == ("__debug__" : Str)) = false := by decide) : PE X (.Name x pos) (tC v) :=
  fun _ _ _ H _ I h => ld_glob I hg hm ⟨v, H, I, r, h⟩ hd
theorem pe_bltn {x : Str} {v : V} {u : Value} {pos : Pos} (hg : Gl X x) (hm : X.mg x = none) (hv : bootBuiltins x = some u) (r : RelV v u) (hn : x ≠ "__name__" := by decide) (hd : (x == ("__debug__" : Str)) = false := by decide) : PE X (.Name x pos) (tC v) :=
  fun _ _ _ H _ I h => ld_blt I hg hm hv ⟨v, H, I, r, h⟩ hn hd

/-! ### arithmetic -/
variable {a b : Expr} {ta tb : TE} {pos : Pos}
/-! ### comparisons -/
def PC (X : Cx) (op : CmpOp) (a b : Expr) (t : TE) : Prop :=
  ∀ (pins : List (Addr × Obj)) (s : Shared) (σ : St) (H : Hp) (Q : VK), Inv X pins σ H s → t σ H Q →
    wpAny (model X.prog X.w) X.A (eval a X.env) (fun v s₁ => wpAny (model X.prog X.w) X.A (eval b X.env) (fun u s₂ => wpAny (model X.prog X.w) X.A (compareOp op v u) (EP X pins σ Q) X.xe s₂) X.xe s₁) X.xe s
theorem nobehind (b : Expr) {op : CmpOp} (h : op ≠ .In) (h2 : op ≠ .NotIn) : behindInMarks op b = false := by
  have e1 : (op == CmpOp.In) = false := by cases op <;> first | rfl | exact absurd rfl h
  have e2 : (op == CmpOp.NotIn) = false := by cases op <;> first | rfl | exact absurd rfl h2
  cases b <;> simp [behindInMarks, e1, e2]
/-- a comparison as a value, as a test -/
inductive BoolR (x : V) (H : Hp) (Q : Bool → Hp → Prop) : Prop
  | mk (c : Bool) (h : x = .bl c) (k : Q c H) : BoolR x H Q
def tB (t : TE) : TT := fun σ H Q => t σ H fun x H1 => BoolR x H1 Q
theorem pe_cmp {op : CmpOp} {t : TE} (h : PC X op a b t) (h1 : behindInMarks op b = false := by first | exact nobehind _ (by decide) (by decide) | rfl) : PE X (.Compare a [op] [b] pos) t := fun pins s σ H Q I hw => wpAny_Compare1 (h pins s σ H Q I hw) h1
theorem pt_cmp {op : CmpOp} {t : TE} (h : PC X op a b t) (h1 : behindInMarks op b = false := by first | exact nobehind _ (by decide) (by decide) | rfl) : PT X (.Compare a [op] [b] pos) (tB t) := by
  intro pins s σ H Q I hw
  refine wpAny_isTrue_Compare1 (thn (h pins s σ H _ I hw) fun v s1 h1 => thn h1 fun u s2 h2 => thn h2 fun c s3 ⟨x, H1, I1, r1, q1⟩ => ?_) h1
  obtain ⟨d, rfl, q⟩ := q1
  cases r1
  exact wpAny_truthy_bool ⟨H1, I1, q⟩
/-- an expression whose value is a bool, as a test -/
theorem pt_val {e : Expr} {t : TE} (h : PE X e t) (he : ∀ whole, isTrue e X.env whole = (do let v ← whole; standAt e.pos; holding [v] (truthy v)) := by intro _; rfl) : PT X e (tB t) := by
  intro pins s σ H Q I hw
  refine isTrue_plain (thn (h pins s σ H _ I hw) fun v s1 ⟨x, H1, I1, r1, q1⟩ => ?_) (he _)
  obtain ⟨d, rfl, q⟩ := q1
  cases r1
  exact wpAny_truthy_bool ⟨H1, I1, q⟩

/-! ### and, or, not -/
variable {tA tB' : TT} {rest : List Expr}
def tAnd (t u : TT) : TT := fun σ H Q => t σ H fun c H1 => if c = true then u σ H1 Q else Q false H1
def tOr (t u : TT) : TT := fun σ H Q => t σ H fun c H1 => if c = true then Q true H1 else u σ H1 Q
def tNot (t : TT) : TT := fun σ H Q => t σ H fun c H1 => Q (!c) H1
theorem pw_and1 (ha : PT X a tA) : PW X (.BoolOp .And [a] pos) tA := by
  intro wh pins s σ H Q I h
  refine isTrue_and (thn (ha pins s σ H Q I h) fun c s1 e => ?_)
  cases c with
  | true => exact isTrue_and_nil e
  | false => exact e
theorem pw_or1 (ha : PT X a tA) : PW X (.BoolOp .Or [a] pos) tA := by
  intro wh pins s σ H Q I h
  refine isTrue_or (thn (ha pins s σ H Q I h) fun c s1 e => ?_)
  cases c with
  | false => exact isTrue_or_nil e
  | true => exact e
theorem pw_and (ha : PT X a tA) (hb : PW X (.BoolOp .And (b :: rest) pos) tB') : PW X (.BoolOp .And (a :: b :: rest) pos) (tAnd tA tB') := by
  intro wh pins s σ H Q I h
  refine isTrue_and (thn (ha pins s σ H _ I h) fun c s1 ⟨H1, I1, q1⟩ => ?_)
  cases c with
  | true => exact hb wh pins s1 σ H1 Q I1 q1
  | false => exact ⟨H1, I1, q1⟩
theorem pw_or (ha : PT X a tA) (hb : PW X (.BoolOp .Or (b :: rest) pos) tB') : PW X (.BoolOp .Or (a :: b :: rest) pos) (tOr tA tB') := by
  intro wh pins s σ H Q I h
  refine isTrue_or (thn (ha pins s σ H _ I h) fun c s1 ⟨H1, I1, q1⟩ => ?_)
  cases c with
  | true => exact ⟨H1, I1, q1⟩
  | false => exact hb wh pins s1 σ H1 Q I1 q1
theorem pt_not (ha : PT X a tA) : PT X (.UnaryOp .Not a pos) (tNot tA) := by
  intro pins s σ H Q I h
  exact isTrue_not (ha pins s σ H (fun c H1 => Q (!c) H1) I h)
/-- .. as values (bools) -/
def tAndV (ta tb : TE) : TE := fun σ H Q => ta σ H fun x H1 => ∃ c, x = .bl c ∧ if c = true then tb σ H1 Q else Q (.bl false) H1
def tNotV (ta : TE) : TE := fun σ H Q => ta σ H fun x H1 => ∃ c, x = .bl c ∧ Q (.bl (!c)) H1
theorem pe_one {op} {t : TE} (h : PE X a t) : PE X (.BoolOp op [a] pos) t := fun pins s σ H Q I hw => BoolOp_one (h pins s σ H Q I hw)
theorem pe_and (ha : PE X a ta) (hb : PE X (.BoolOp .And (b :: rest) pos) tb) : PE X (.BoolOp .And (a :: b :: rest) pos) (tAndV ta tb) := by
  intro pins s σ H Q I h
  refine BoolOp_and (thn (ha pins s σ H _ I h) fun v s1 ⟨x, H1, I1, r1, q1⟩ => ?_)
  obtain ⟨c, rfl, q1⟩ := q1
  cases r1
  refine wpAny_truthy_bool ?_
  cases c with
  | true => exact hb pins s1 σ H1 Q I1 q1
  | false => exact ⟨.bl false, H1, I1, rfl, q1⟩
theorem pe_not (ha : PE X a ta) : PE X (.UnaryOp .Not a pos) (tNotV ta) := by
  intro pins s σ H Q I h
  refine UnaryOp_ (thn (ha pins s σ H _ I h) fun v s1 ⟨x, H1, I1, r1, q1⟩ => ?_)
  obtain ⟨c, rfl, q1⟩ := q1
  cases r1
  exact not_of (wpAny_truthy_bool ⟨.bl (!c), H1, I1, rfl, q1⟩)
end
end L2

namespace L2
open PySem PySem.Spec PyProof.Rows

/-! ### a list, a tuple that is read: tracked, frozen, or an object of the module -/
def SqL (K : PySem.W.Frag) (H : Hp) (a : Addr) (xs : List V) : Prop :=
  Rd H a (.lst xs) ∨
    ∃ (o : Obj) (its : Array Value) (n : Nat), K.lookup a = some o ∧ o.cls = .type "list" ∧ o.dict = none ∧ o.data = .seq its n ∧ its.size ≤ sizeLine ∧ Vals xs its.toList
def SqT (K : PySem.W.Frag) (H : Hp) (a : Addr) (xs : List V) : Prop :=
  Rd H a (.tup xs) ∨
    ∃ (o : Obj) (its : Array Value) (n : Nat), K.lookup a = some o ∧ o.cls = .type "tuple" ∧ o.data = .seq its n ∧ its.size ≤ sizeLine ∧ Vals xs its.toList
def absV : Value → Option V
  | .none => some .non
  | .bool b => some (.bl b)
  | .int i _ => some (.int i)
  | .str x _ => some (.str x)
  | .bytes b _ => some (.byt b)
  | .float b _ => some (.flt b)
  | .ref a => some (.ref a)
  | .type n => some (.ty n)
  | _ => none
theorem RelV.abs {x : V} {u : Value} (r : RelV x u) : absV u = some x := by
  cases x with
  | non => cases r; rfl
  | bl _ => cases r; rfl
  | int _ => obtain ⟨t, rfl⟩ := r; rfl
  | str _ => obtain ⟨t, rfl⟩ := r; rfl
  | byt _ => obtain ⟨t, rfl⟩ := r; rfl
  | flt _ => obtain ⟨t, rfl⟩ := r; rfl
  | ref _ => cases r; rfl
  | ty _ => cases r; rfl
theorem RelV.inj {x y : V} {u : Value} (r : RelV x u) (q : RelV y u) : x = y := Option.some.inj (r.abs.symm.trans q.abs)
theorem Vals.inj : ∀ {xs ys : List V} {us : List Value}, Vals xs us → Vals ys us → xs = ys
  | _, _, _, .nil, .nil => rfl
  | _, _, _, .cons r t, .cons r' t' => by rw [r.inj r', Vals.inj t t']
section
variable {X : Cx} {pins : List (Addr × Obj)} {σ : St} {H : Hp} {s : Shared} {a : Addr} {xs ys : List V}
theorem SqL.of {K : PySem.W.Frag} (h : H a = some (.lst xs)) : SqL K H a xs := .inl (.inl h)
theorem SqT.of {K : PySem.W.Frag} (h : H a = some (.tup xs)) : SqT K H a xs := .inl (.inl h)
theorem Inv.list (I : Inv X pins σ H s) (h : SqL X.K H a xs) : ∃ its : List Value, Vals xs its ∧ PlainL s.heap a its.toArray ∧ xs.length ≤ sizeLine := by
  rcases h with h | ⟨o, its, n, hk, hc, hd, hs, hz, r⟩
  · obtain ⟨z, its, n, r, e⟩ := h.ok I.hok
    exact ⟨its, r, ⟨_, n, e, rfl, rfl, rfl⟩, z⟩
  · refine ⟨its.toList, r, ⟨o, n, I.kIn a o hk, hc, hd, by simpa using hs⟩, ?_⟩
    have e := r.length
    simp only [Array.length_toList] at e
    omega
theorem Inv.tuple (I : Inv X pins σ H s) (h : SqT X.K H a xs) : ∃ its : List Value, Vals xs its ∧ IsTup s.heap a its.toArray ∧ xs.length ≤ sizeLine := by
  rcases h with h | ⟨o, its, n, hk, hc, hs, hz, r⟩
  · obtain ⟨z, its, r, p⟩ := h.ok I.hok
    exact ⟨its, r, p, z⟩
  · refine ⟨its.toList, r, ⟨o, I.kIn a o hk, hc, n, by simpa using hs⟩, ?_⟩
    have e := r.length
    simp only [Array.length_toList] at e
    omega
theorem Inv.list_inj (I : Inv X pins σ H s) (h : SqL X.K H a xs) (h' : SqL X.K H a ys) : xs = ys := by
  obtain ⟨its, r, ⟨o, n, e, _, _, d⟩, _⟩ := I.list h
  obtain ⟨its', r', ⟨o', n', e', _, _, d'⟩, _⟩ := I.list h'
  rw [e] at e'; cases e'
  rw [d] at d'
  injection d' with d1 _
  have : its = its' := by simpa using congrArg Array.toList d1
  subst this
  exact r.inj r'
end

/-! ### another wish about exceptions -/
abbrev Cx.wish (X : Cx) (E : Value → Shared → Prop) : Cx := { X with xe := E }
/-- no exception leaves -/
abbrev Cx.nox (X : Cx) : Cx := X.wish fun _ _ => False
theorem Cx.Ok.wish {X : Cx} (ok : X.Ok) (E : Value → Shared → Prop) : (X.wish E).Ok :=
  ⟨ok.mod, ok.kind, ok.glob, ok.blt, ok.above, ok.inj, ok.has, ok.cab, ok.hd, ok.frames, ok.stk, ok.exf, ok.bs, ok.bsz, ok.noex, ok.exfs, ok.funs, ok.frf⟩
theorem Cx.Ok.unwish {X : Cx} {E : Value → Shared → Prop} (ok : (X.wish E).Ok) : X.Ok :=
  ⟨ok.mod, ok.kind, ok.glob, ok.blt, ok.above, ok.inj, ok.has, ok.cab, ok.hd, ok.frames, ok.stk, ok.exf, ok.bs, ok.bsz, ok.noex, ok.exfs, ok.funs, ok.frf⟩
section
variable {X : Cx} {pins : List (Addr × Obj)} {σ : St} {H : Hp} {s : Shared} {E : Value → Shared → Prop}
theorem Inv.wish (I : Inv X pins σ H s) (E : Value → Shared → Prop) : Inv (X.wish E) pins σ H s := ⟨I.ok.wish E, I.os, I.bare, I.base, I.loc, I.cell, I.free, I.freeC, I.pin, I.hok, I.len⟩
theorem Inv.unwish (I : Inv (X.wish E) pins σ H s) : Inv X pins σ H s := ⟨I.ok.unwish, I.os, I.bare, I.base, I.loc, I.cell, I.free, I.freeC, I.pin, I.hok, I.len⟩
theorem SP.unwish {D : Ends} {f : Flow} {s' : Shared} (h : SP (X.wish E) pins D f s') : SP X pins D f s' := by
  cases f with
  | next => obtain ⟨σ', H', I, q⟩ := h; exact ⟨σ', H', I.unwish, q⟩
  | brk => obtain ⟨σ', H', I, q⟩ := h; exact ⟨σ', H', I.unwish, q⟩
  | cont => obtain ⟨σ', H', I, q⟩ := h; exact ⟨σ', H', I.unwish, q⟩
  | ret u => obtain ⟨v, σ', H', I, r, q⟩ := h; exact ⟨v, σ', H', I.unwish, r, q⟩
theorem PSs.nox {st : List Stmt} {t : TS} (h : PSs X.nox st t) : PSs X st t := fun pins s σ H D I hw =>
  wpAny_mono (h pins s σ H D (I.wish _) hw) (fun _ _ q => q.unwish) fun _ _ z => False.elim z
end

/-! ### blocks and small statements -/
section
variable {X : Cx} {st : Stmt} {rest : List Stmt} {t u : TS} {e : Expr} {te : TE} {pos : Pos}
def tNext : TS := fun D σ H => D.nx σ H
def tSeq (t u : TS) : TS := fun D σ H => t { D with nx := u D } σ H
theorem pss_nil : PSs X [] tNext := fun _ _ σ H _ I h => wpAny_execs_nil ⟨σ, H, I, h⟩
theorem pss_cons (h1 : PS X st t) (h2 : PSs X rest u) : PSs X (st :: rest) (tSeq t u) := by
  intro pins s σ H D I h
  refine wpAny_execs_cons (thn (h1 pins s σ H { D with nx := u D } I h) fun f s1 q => ?_)
  cases f with
  | next =>
    obtain ⟨σ', H', I', q⟩ := q
    exact h2 pins s1 σ' H' D I' q
  | ret v => exact q
  | brk => exact q
  | cont => exact q
theorem pss_one (h1 : PS X st t) : PSs X [st] t := by
  intro pins s σ H D I h
  refine wpAny_execs_cons (thn (h1 pins s σ H D I h) fun f s1 q => ?_)
  cases f with
  | next => exact wpAny_execs_nil q
  | ret v => exact q
  | brk => exact q
  | cont => exact q
/-- in a def's body nothing is shown -/
theorem Inv.quiet {pins : List (Addr × Obj)} {σ : St} {H : Hp} {s : Shared} (I : Inv X pins σ H s) : interactive X.env = false := by simp [interactive, I.ok.kind]
/-- an expression whose value is dropped -/
def tDrop (te : TE) : TS := fun D σ H => te σ H fun _ H1 => D.nx σ H1
theorem ps_expr (he : PE X e te) (hs : swapsWith e none pos.line X.env = pure false := by rfl) : PS X (.Expr e pos) (tDrop te) := by
  intro pins s σ H D I h
  exact wpAny_Expr_any (thn (he pins s σ H _ I h) fun v s1 ⟨x, H1, I1, r1, q1⟩ => ⟨σ, H1, I1, q1⟩) I.quiet hs
def tRet (te : TE) : TS := fun D σ H => te σ H D.rt
theorem ps_ret (he : PE X e te) : PS X (.Return (some e) pos) (tRet te) := by
  intro pins s σ H D I h
  exact wpAny_Return_some (thn (he pins s σ H _ I h) fun v s1 ⟨x, H1, I1, r1, q1⟩ => ⟨x, σ, H1, I1, r1, q1⟩)
def tIfS (c : TT) (t u : TS) : TS := fun D σ H => c σ H fun b H1 => if b = true then t D σ H1 else u D σ H1
theorem ps_if {c : Expr} {a b : List Stmt} {tc : TT} (hc : PT X c tc) (ha : PSs X a t) (hb : PSs X b u) : PS X (.If c a b pos) (tIfS tc t u) := by
  intro pins s σ H D I h
  refine wpAny_If (thn (hc pins s σ H _ I h) fun d s1 ⟨H1, I1, q1⟩ => ?_)
  cases d with
  | true => exact ha pins s1 σ H1 D I1 q1
  | false => exact hb pins s1 σ H1 D I1 q1
/-- code that the proof never comes to -/
def tNever : TS := fun _ _ _ => False
theorem ps_never : PS X st tNever := fun _ _ _ _ _ _ h => h.elim
end

/-! ### targets -/
abbrev TG := V → St → Hp → (St → Hp → Prop) → Prop
abbrev TGs := List V → St → Hp → (St → Hp → Prop) → Prop
def PG (X : Cx) (target : Expr) (t : TG) : Prop :=
  ∀ (pins : List (Addr × Obj)) (s : Shared) (σ : St) (H : Hp) (v : V) (u : Value) (Q : St → Hp → Prop), Inv X pins σ H s → RelV v u → t v σ H Q →
    wpAny (model X.prog X.w) X.A (assign target X.env u) (fun _ s' => ∃ σ' H', Inv X pins σ' H' s' ∧ Q σ' H') X.xe s
/-- several targets, one after another -/
def PGs (X : Cx) (ts : List Expr) (t : TGs) : Prop :=
  ∀ (pins : List (Addr × Obj)) (s : Shared) (σ : St) (H : Hp) (vs : List V) (us : List Value) (Q : St → Hp → Prop), Inv X pins σ H s → Vals vs us → t vs σ H Q →
    wpAny (model X.prog X.w) X.A (assignInOrder ((assignEach ts X.env).map (·.2)) us) (fun _ s' => ∃ σ' H', Inv X pins σ' H' s' ∧ Q σ' H') X.xe s
section
variable {X : Cx} {pos : Pos}
def gName (i : Nat) : TG := fun v σ H Q => Q (σ.set i (some v)) H
theorem pg_name {i : Nat} {x : Str} (hN : X.N.Nodup) (hi : X.N[i]? = some x) (hx : Loc X.env.scope x) (hf : X.fn x = true ∨ X.env.scope.names.lookup x = some .local := by first | exact .inl rfl | exact .inr rfl | assumption) : PG X (.Name x pos) (gName i) := by
  intro pins s σ H v u Q I r h
  exact wpAny_assign_Name (store_ok I hN hi hx r (fun s' I' => ⟨_, H, I', h⟩) hf)
def gNil : TGs := fun vs σ H Q => vs = [] ∧ Q σ H
def gCons (t : TG) (u : TGs) : TGs := fun vs σ H Q => ∃ v r, vs = v :: r ∧ t v σ H fun σ' H' => u r σ' H' Q
theorem pgs_nil : PGs X [] gNil := by
  intro pins s σ H vs us Q I r h
  obtain ⟨e, h⟩ := h
  subst e
  cases r
  exact assignInOrder_nil ⟨σ, H, I, h⟩
theorem pgs_cons {e : Expr} {es : List Expr} {t : TG} {u : TGs} (h1 : PG X e t) (h2 : PGs X es u)
    (hs : (assignEach (e :: es) X.env).map (·.2) = assign e X.env :: (assignEach es X.env).map (·.2) := by rfl) : PGs X (e :: es) (gCons t u) := by
  intro pins s σ H vs us Q I r h
  obtain ⟨v, vr, e1, h⟩ := h
  subst e1
  cases r with
  | cons r rr =>
    rw [hs]
    refine assignInOrder_cons (thn (h1 pins s σ H _ _ _ I r h) fun _ s1 ⟨σ1, H1, I1, q1⟩ => ?_)
    exact h2 pins s1 σ1 H1 _ _ Q I1 rr q1
/-- (a, b, ..) = a tuple of that length -/
def gTup (K : PySem.W.Frag) (n : Nat) (t : TGs) : TG := fun v σ H Q => ∃ a xs, v = .ref a ∧ SqT K H a xs ∧ xs.length = n ∧ t xs σ H Q
theorem pg_tup {es : List Expr} {k : Nat} {t : TGs} {n : Nat} (hc : X.calm = true) (h : PGs X es t)
    (hn : (assignEach es X.env).length = n := by rfl) (hst : (assignEach es X.env).findIdx? (·.1) = none := by rfl) : PG X (.Tuple es k pos) (gTup X.K n t) := by
  intro pins s σ H v u Q I r hw
  obtain ⟨a, xs, e1, hq, hl, hw⟩ := hw
  subst e1
  cases r
  obtain ⟨its, rv, ht, hz⟩ := I.tuple hq
  refine assign_Tuple_tuple (I.ok.hd hc) ht (by simp [hn, ← hl, rv.length]) hst fun h' hx => ?_
  have I1 : Inv X pins σ H { s with heap := h' } := I.kept (t' := s.toks) fun b o e => hx b o (Nat.ne_of_lt (Heap.lt_size e)) e
  exact h pins _ σ H xs _ Q I1 (by simpa using rv) hw
/-- target = value -/
def tAsg (te : TE) (g : TG) : TS := fun D σ H => te σ H fun x H1 => g x σ H1 D.nx
theorem ps_asg {tg e : Expr} {te : TE} {g : TG} (he : PE X e te) (hg : PG X tg g) (hs : swapsWithSole [tg] e pos.line X.env = pure false := by rfl) (hw : swappedStores [tg] e X.env = pure none := by rfl)
    (h1 : (assignEach [tg] X.env).map (·.2) = [assign tg X.env] := by rfl) : PS X (.Assign [tg] e pos) (tAsg te g) := by
  intro pins s σ H D I h
  refine wpAny_Assign_stores (thn (he pins s σ H _ I h) fun v s1 ⟨x, H1, I1, r1, q1⟩ => ?_) hs hw
  rw [h1]
  exact thn (hg pins s1 σ H1 x v _ I1 r1 q1) fun _ s2 q => q
/-- name = value -/
theorem ps_set {i : Nat} {x : Str} {e : Expr} {te : TE} {pos' : Pos} (hN : X.N.Nodup) (hi : X.N[i]? = some x) (hx : Loc X.env.scope x) (he : PE X e te) (hs : swapsWith e (some (.Name x pos')) pos.line X.env = pure false := by rfl) (hf : X.fn x = true ∨ X.env.scope.names.lookup x = some .local := by first | exact .inl rfl | exact .inr rfl | assumption) :
    PS X (.Assign [.Name x pos'] e pos) (tAsg te (gName i)) := by
  intro pins s σ H D I h
  refine wpAny_Assign_Name (thn (he pins s σ H _ I h) fun v s1 ⟨y, H1, I1, r1, q1⟩ => ?_) hs
  exact store_ok I1 hN hi hx r1 (fun s2 I2 => ⟨_, H1, I2, q1⟩) hf
end

/-! ### while -/
section
variable {X : Cx} {pos : Pos}
/-- the invariant W with its measure -/
def tWhile (c : TT) (tb : TS) : TS := fun D σ H => ∃ W : Nat → St → Hp → Prop, (∃ m, W m σ H) ∧ ∀ m σ H, W m σ H →
  c σ H fun b H1 => if b = true then ∃ N : St → Hp → Prop, (∀ σ' H', N σ' H' → ∃ m', m' < m ∧ W m' σ' H') ∧ tb { D with nx := N, ct := N, bk := D.nx } σ H1 else D.nx σ H1
theorem ps_while {c : Expr} {body : List Stmt} {tc : TT} {tb : TS} (hp : PassesOwn (model X.prog X.w) X.A X.env X.xe) (hc : PT X c tc) (hb : PSs X body tb) : PS X (.While c body [] pos) (tWhile tc tb) := by
  intro pins s σ H D I h
  obtain ⟨W, ⟨m0, w0⟩, turn⟩ := h
  refine wpAny_While (codeAny_whileLoop (fun n s' => ∃ σ' H', Inv X pins σ' H' s' ∧ W n σ' H') ?_ m0 ⟨σ, H, I, w0⟩)
  rintro n s1 ⟨σ1, H1, I1, w1⟩
  refine wpAny_passesOwn hp (thn (hc pins s1 σ1 H1 _ I1 (turn n σ1 H1 w1)) fun b s2 ⟨H2, I2, q2⟩ => ?_)
  cases b with
  | true =>
    obtain ⟨N, hN, q2⟩ := q2
    rw [if_pos rfl]
    refine wpAny_passesOwn hp (thn (hb pins s2 σ1 H2 _ I2 q2) fun f s3 q3 => ?_)
    cases f with
    | next =>
      obtain ⟨σ3, H3, I3, n3⟩ := q3
      obtain ⟨m', hm, w3⟩ := hN σ3 H3 n3
      exact ⟨m', hm, σ3, H3, I3, w3⟩
    | cont =>
      obtain ⟨σ3, H3, I3, n3⟩ := q3
      obtain ⟨m', hm, w3⟩ := hN σ3 H3 n3
      exact ⟨m', hm, σ3, H3, I3, w3⟩
    | brk => exact q3
    | ret v => exact q3
  | false =>
    rw [if_neg Bool.false_ne_true]
    exact wpAny_execs_nil ⟨σ1, H2, I2, q2⟩
end

/-! ### what a loop or a comprehension walks -/
/-- at turn i: it yields x (the heap may grow), or it stops -/
structure It where
  go : Nat → Hp → Prop
  yld : Nat → Hp → V → Hp → Prop
  stop : Nat → Hp → Prop
/-- the iterator's own objects may turn: they are not the frame's, not pinned, younger than the entry (or a comprehension's own) -/
def FpOk (X : Cx) (pins : List (Addr × Obj)) (H : Hp) (b : Addr) : Prop :=
  H b = none ∧ b ≠ X.env.locals ∧ b ∉ X.fs ∧ (b ∈ X.ex ∨ X.s₀.heap.objs.size ≤ b) ∧ (∀ x c, X.env.cells.lookup x = some c → c ≠ b) ∧ ∀ p ∈ X.pn ++ pins, p.1 ≠ b
theorem Inv.fpOk {X : Cx} {pins : List (Addr × Obj)} {σ : St} {H H' : Hp} {s : Shared} {b : Addr} (I : Inv X pins σ H s) (hb : s.heap.objs.size ≤ b) (hn : H' b = none) : FpOk X pins H' b := by
  refine ⟨hn, Nat.ne_of_gt (Nat.lt_of_lt_of_le I.lt hb), I.nofs hb, .inr (Nat.le_trans I.sz hb), fun x c e z => ?_, fun p hp z => ?_⟩
  · obtain ⟨v, q⟩ := I.cell x c e
    exact absurd (Nat.lt_of_lt_of_le q.lt (by rw [z]; exact hb)) (Nat.lt_irrefl _)
  · exact absurd (Nat.lt_of_lt_of_le (Heap.lt_size (I.pin p hp).1) (by rw [z]; exact hb)) (Nat.lt_irrefl _)
structure Turn (P : Program) (w : World) (K : PySem.W.Frag) (tg : Expr) (J : It) (fp : List Addr) (it : Addr) (tn : Nat → Heap → Prop) : Prop where
  mem : it ∈ fp
  obj : ∀ i h, tn i h → ∀ b ∈ fp, ∃ o, h.get? b = some o ∧ ∀ v, o.data ≠ .cell v
  keep : ∀ i h h', tn i h → (∀ b ∈ fp, ∀ o, h.get? b = some o → h'.get? b = some o) → tn i h'
  item : ∀ (X : Cx), X.prog = P → X.w = w → X.K = K → X.calm = true → ∀ (i : Nat) (pins : List (Addr × Obj)) (s : Shared) (σ : St) (H : Hp) (E : Value → Shared → Prop), Inv X pins σ H s → (∀ b ∈ fp, FpOk X pins H b) → tn i s.heap → J.go i H →
    wpAny (model P w) X.A (pyNext (.ref it)) (fun r s1 => ∃ u, r = some u ∧
      wpAny (model P w) X.A (letOwnedTupleGo tg (.ref it) u) (fun _ s2 => ∃ x H', Inv X pins σ H' s2 ∧ RelV x u ∧ J.yld i H x H' ∧ tn (i + 1) s2.heap ∧ ∀ b ∈ fp, H' b = none) E s1) E s
  done : ∀ (X : Cx), X.prog = P → X.w = w → X.K = K → X.calm = true → ∀ (i : Nat) (pins : List (Addr × Obj)) (s : Shared) (σ : St) (H : Hp) (E : Value → Shared → Prop), Inv X pins σ H s → (∀ b ∈ fp, FpOk X pins H b) → tn i s.heap → J.stop i H →
    wpAny (model P w) X.A (pyNext (.ref it)) (fun r s1 => r = none ∧ Inv X pins σ H s1) E s
  self : ∀ (A : Around) (i : Nat) (s : Shared) (Q : Value → Shared → Prop) (E : Value → Shared → Prop), tn i s.heap → Q (.ref it) s → wpAny (model P w) A (pyIter (.ref it)) Q E s
abbrev TI := St → Hp → (It → Hp → Prop) → Prop
/-- an iterator has come -/
def PIE (X : Cx) (pins : List (Addr × Obj)) (σ : St) (tg : Expr) (R : It → Hp → Prop) (itv : Value) (s2 : Shared) : Prop :=
  ∃ (it : Addr) (fp : List Addr) (tn : Nat → Heap → Prop) (J : It) (H' : Hp), itv = .ref it ∧ Inv X pins σ H' s2 ∧ Turn X.prog X.w X.K tg J fp it tn ∧ tn 0 s2.heap ∧ (∀ b ∈ fp, FpOk X pins H' b) ∧ R J H'
def PI (X : Cx) (tg iter : Expr) (wi : TI) : Prop :=
  ∀ (pins : List (Addr × Obj)) (s : Shared) (σ : St) (H : Hp) (R : It → Hp → Prop), Inv X pins σ H s → wi σ H R →
    wpAny (model X.prog X.w) X.A (eval iter X.env) (fun v s1 => wpAny (model X.prog X.w) X.A (pyIter v) (PIE X pins σ tg R) X.xe s1) X.xe s

/-- the step ahead of the store is nothing for an iterator that keeps no tuple -/
theorem go_of {M : Model} {A : Around} {E : Value → Shared → Prop} {s : Shared} {tg : Expr} {it : Addr} {u : Value} {o : Obj} {n : String} {vs : Array Value} {Q : Unit → Shared → Prop} (ho : s.heap.get? it = some o) (hc : o.cls = .type n) (hd : o.data = .fields vs)
    (hn : ["enumerate", "zip", "dict_itemiterator", "dict_reverseitemiterator", "odict_iterator", "itertools.zip_longest", "itertools.pairwise"].contains n = false) (hQ : Q () s) : wpAny M A (letOwnedTupleGo tg (.ref it) u) Q E s := by
  unfold letOwnedTupleGo
  cases tg <;> first
    | exact wpAny_pure hQ
    | (cases u <;> first
        | exact wpAny_pure hQ
        | (refine wpAny_bind (wpAny_load ho ?_)
           rw [hc, hd]
           show wpAny M A (if (["enumerate", "zip", "dict_itemiterator", "dict_reverseitemiterator", "odict_iterator", "itertools.zip_longest", "itertools.pairwise"].contains n && vs[0]? == some (rawInt _)) = true then _ else _) Q E s
           rw [if_neg (by intro h; rw [hn, Bool.false_and] at h; cases h)]
           exact wpAny_pure hQ))

/-- the list at a, as it stands at each turn (a loop may append to it) -/
def Itl (K : PySem.W.Frag) (a : Addr) : It :=
  ⟨fun i H => ∃ xs x, SqL K H a xs ∧ xs[i]? = some x, fun i H x H' => H' = H ∧ ∀ xs, SqL K H a xs → xs[i]? = some x, fun i H => ∃ xs, SqL K H a xs ∧ xs.length ≤ i⟩
/-- lo, lo + 1, .. (n of them) -/
def Itr (lo : Int) (n : Nat) : It := ⟨fun i _ => i < n, fun i H x H' => H' = H ∧ x = .int (lo + i), fun i _ => n ≤ i⟩
theorem turn_list {P : Program} {w : World} {K : PySem.W.Frag} {tg : Expr} (a it : Addr) : Turn P w K tg (Itl K a) [it] it (fun i h => h.IsListIter it a i) where
  mem := by simp
  obj := fun i h st b hb => by
    have e : b = it := by simpa using hb
    subst e
    obtain ⟨o, e, c, d⟩ := st
    exact ⟨o, e, fun v z => by rw [d] at z; cases z⟩
  keep := fun i h h' st k => st.at fun o e => k it (by simp) o e
  item := by
    intro X hP hw hK hc i pins s σ H E I hf st hg
    subst hP hw hK
    obtain ⟨xs, x, hq, hx⟩ := hg
    obtain ⟨its, rv, p, hz⟩ := I.list hq
    obtain ⟨u, hu, ru⟩ := rv.get hx
    obtain ⟨f0, f1, f2, f3, f4, f5⟩ := hf it (by simp)
    refine wpAny_pyNext_list_item st p.isList (x := u) (by simpa using hu) fun h' st' sb => ?_
    have I1 : Inv X pins σ H { s with heap := h' } := I.turned (t' := s.toks) (fun b o hb e => (sb.2 b hb).trans e) f0 f1 f3 f4 f5
    obtain ⟨o, e, c, d⟩ := id st'
    exact ⟨u, rfl, go_of (s := { s with heap := h' }) e c d (by decide) ⟨x, H, I1, ru, ⟨rfl, fun ys hy => by rw [I.list_inj hy hq]; exact hx⟩, st', fun b hb => (hf b hb).1⟩⟩
  done := by
    intro X hP hw hK hc i pins s σ H E I hf st hg
    subst hP hw hK
    obtain ⟨xs, hq, hx⟩ := hg
    obtain ⟨its, rv, p, hz⟩ := I.list hq
    obtain ⟨f0, f1, f2, f3, f4, f5⟩ := hf it (by simp)
    have hl := rv.length
    exact wpAny_pyNext_list_end (I.ok.hd hc) st p.isList (by simp; omega) fun h' eb => ⟨rfl, I.turned (t' := s.toks) (fun b o hb e => eb b o hb e) f0 f1 f3 f4 f5⟩
  self := fun _ _ _ _ _ st h => wpAny_pyIter_listiter st h
theorem turn_range {P : Program} {w : World} {K : PySem.W.Frag} {tg : Expr} (it : Addr) (lo : Int) (n : Nat) : Turn P w K tg (Itr lo n) [it] it (fun i h => IsRangeIter h it (lo + (i : Nat) * 1) ((n : Int) - (i : Nat)) 1) where
  mem := by simp
  obj := fun i h st b hb => by
    have e : b = it := by simpa using hb
    subst e
    exact ⟨_, st, fun v z => by
      have z' : Data.fields _ = Data.cell v := z
      cases z'⟩
  keep := fun i h h' st k => k it (by simp) _ st
  item := by
    intro X hP hw hK hc i pins s σ H E I hf st hg
    subst hP hw hK
    obtain ⟨f0, f1, f2, f3, f4, f5⟩ := hf it (by simp)
    have W := Walks.range (prog := X.prog) (w := X.w) (I.ok.hd hc) it lo 1 n
    refine W.item i s _ _ hg st fun v h' tk hv st' kk => ?_
    obtain ⟨t, rfl⟩ := hv
    have I1 : Inv X pins σ H { s with heap := h', toks := tk } := I.turned (fun b o hb e => kk b o (by simpa using hb) e) f0 f1 f3 f4 f5
    refine ⟨_, rfl, go_of (s := { s with heap := h', toks := tk }) (n := "range_iterator") st' rfl rfl (by decide) ⟨.int (lo + i), H, I1, ⟨t, ?_⟩, ⟨rfl, rfl⟩, st', fun b hb => (hf b hb).1⟩⟩
    rw [Int.mul_one]
  done := by
    intro X hP hw hK hc i pins s σ H E I hf st hg
    subst hP hw hK
    obtain ⟨f0, f1, f2, f3, f4, f5⟩ := hf it (by simp)
    exact wpAny_pyNext_range_end (I.ok.hd hc) st (by have : n ≤ i := hg; omega) fun h' eb => ⟨rfl, I.turned (t' := s.toks) (fun b o hb e => eb b o hb e) f0 f1 f3 f4 f5⟩
  self := fun _ _ _ _ _ st h => wpAny_pyIter_rangeiter st h
end L2

namespace L2
open PySem PySem.Spec PyProof.Rows
section
variable {X : Cx} {tg : Expr}
inductive ItlR (K : PySem.W.Frag) (x : V) (H : Hp) (R : It → Hp → Prop) : Prop
  | mk (a : Addr) (h : x = .ref a) (h2 : ∃ xs, SqL K H a xs) (k : R (Itl K a) H) : ItlR K x H R
def iList (K : PySem.W.Frag) (tl : TE) : TI := fun σ H R => tl σ H fun x H1 => ItlR K x H1 R
theorem pi_list {l : Expr} {tl : TE} (hl : PE X l tl) : PI X tg l (iList X.K tl) := by
  intro pins s σ H R I h
  refine thn (hl pins s σ H _ I h) fun v s1 ⟨x, H1, I1, r1, q1⟩ => ?_
  obtain ⟨a, e, ⟨xs, hq⟩, q⟩ := q1
  subst e
  cases r1
  obtain ⟨its, rv, p, hz⟩ := I1.list hq
  refine wpAny_pyIter_list p.isList ?_
  refine ⟨s1.heap.objs.size, [s1.heap.objs.size], _, _, H1, rfl, I1.kept (t' := s1.toks) fun b o e => Heap.get?_push_of_some _ e, turn_list a _, ⟨_, Heap.get?_push_size _ rfl, rfl, rfl⟩, fun b hb => ?_, q⟩
  have e : b = s1.heap.objs.size := by simpa using hb
  subst e
  exact I1.fpOk (Nat.le_refl _) (I1.hok.fresh (Nat.le_refl _))
/-- a range object just made, walked -/
theorem range_it {pins : List (Addr × Obj)} {σ : St} {H : Hp} {s : Shared} {R : It → Hp → Prop} {E : Value → Shared → Prop} {lo hi : Int} {t u v : Tok} {tk : Nat} (I : Inv X pins σ H s) (h1 : -(2 ^ 62) ≤ lo) (h2 : lo < 2 ^ 62) (h3 : -(2 ^ 62) ≤ hi) (h4 : hi < 2 ^ 62)
    (q : R (Itr lo (hi - lo).toNat) H) : wpAny (model X.prog X.w) X.A (pyIter (.ref s.heap.objs.size)) (PIE X pins σ tg R) E { s with heap := s.heap.push { cls := .type "range", data := .fields #[.int lo t, .int hi u, .int 1 v] }, toks := tk } := by
  refine wpAny_pyIter_range (IsRange.new ..) (small_one h1 h2 h3 h4) ?_
  have I1 : Inv X pins σ H { s with heap := s.heap.push { cls := .type "range", data := .fields #[.int lo t, .int hi u, .int 1 v] }, toks := tk } := I.kept fun b o e => Heap.get?_push_of_some _ e
  refine ⟨(s.heap.push { cls := .type "range", data := .fields #[.int lo t, .int hi u, .int 1 v] }).objs.size, [(s.heap.push { cls := .type "range", data := .fields #[.int lo t, .int hi u, .int 1 v] }).objs.size], _, _, H, rfl,
    I1.kept (t' := tk) fun b o e => Heap.get?_push_of_some _ e, turn_range _ lo (hi - lo).toNat, ?_, fun b hb => ?_, q⟩
  · have e1 : lo + ((0 : Nat) : Int) * 1 = lo := by simp
    have e2 : (((hi - lo).toNat : Nat) : Int) - ((0 : Nat) : Int) = Builtin.Range.rangeSize lo hi 1 := by rw [rangeSize_one]; split <;> omega
    show IsRangeIter _ _ (lo + ((0 : Nat) : Int) * 1) ((((hi - lo).toNat : Nat) : Int) - ((0 : Nat) : Int)) 1
    rw [e1, e2]
    exact Heap.get?_push_size _ rfl
  · have e : b = (s.heap.push { cls := .type "range", data := .fields #[.int lo t, .int hi u, .int 1 v] }).objs.size := by simpa using hb
    subst e
    exact I1.fpOk (Nat.le_refl _) (I1.hok.fresh (Nat.le_refl _))
def iRng1 (ta : TA) : TI := fun σ H R => ta σ H fun vs H1 => ∃ j : Int, vs = [.int j] ∧ -(2 ^ 62) ≤ j ∧ j < 2 ^ 62 ∧ R (Itr 0 j.toNat) H1
theorem pi_range1 {a : Expr} {ta : TA} {p pos : Pos} (hg : Gl X "range") (hm : X.mg "range" = none) (ha : PA X [a] ta) (hs : starEach [a] X.env = [(false, eval a X.env)] := by rfl) : PI X tg (.Call (.Name "range" p) [a] [] pos) (iRng1 ta) := by
  intro pins s σ H R I h
  refine Call_ (ld_blt I hg hm boot_range (PyProof.Rows.callWith_type1 (thn (ha pos pins s σ H _ I h) fun us s1 ⟨vs, H1, I1, r1, q1⟩ => ?_) hs rfl))
  obtain ⟨j, e, q1, q2, q⟩ := q1
  subst e
  cases r1 with
  | cons r rr =>
    cases rr
    obtain ⟨t, rfl⟩ := r
    exact call_range_1 (range_it I1 (by omega) (by omega) q1 q2 (by simpa using q))
/-! ### for -/
/-- W: the invariant by the turn and a measure; N: what the body is to reach -/
def tFor (wi : TI) (g : TG) (tb : TS) : TS := fun D σ H => wi σ H fun J H1 => ∃ W : Nat → Nat → St → Hp → Prop, (∃ m, W 0 m σ H1) ∧ ∀ i m σ H, W i m σ H →
  (J.stop i H ∧ D.nx σ H) ∨ (J.go i H ∧ ∃ N : St → Hp → Prop, (∀ σ' H', N σ' H' → ∃ m', m' < m ∧ W (i + 1) m' σ' H') ∧ ∀ x H', J.yld i H x H' → g x σ H' fun σ2 H2 => tb { D with nx := N, ct := N, bk := D.nx } σ2 H2)
/-- the records at fp as they stand -/
def pinsAt (fp : List Addr) (h : Heap) : List (Addr × Obj) := fp.filterMap fun b => (h.get? b).map fun o => (b, o)
theorem mem_pinsAt {fp : List Addr} {h : Heap} {b : Addr} {o : Obj} (hb : b ∈ fp) (e : h.get? b = some o) : (b, o) ∈ pinsAt fp h := List.mem_filterMap.mpr ⟨b, hb, by rw [e]; rfl⟩
theorem of_pinsAt {fp : List Addr} {h : Heap} {p : Addr × Obj} (hp : p ∈ pinsAt fp h) : p.1 ∈ fp ∧ h.get? p.1 = some p.2 := by
  obtain ⟨b, hb, e⟩ := List.mem_filterMap.mp hp
  cases q : h.get? b with
  | none => rw [q] at e; cases e
  | some o =>
    rw [q] at e
    have e' : (b, o) = p := Option.some.inj e
    subst e'
    exact ⟨hb, q⟩
theorem Inv.pinned {pins : List (Addr × Obj)} {σ : St} {H : Hp} {s : Shared} {fp : List Addr} (I : Inv X pins σ H s) (hf : ∀ b ∈ fp, FpOk X pins H b) (ho : ∀ b ∈ fp, ∃ o, s.heap.get? b = some o ∧ ∀ v, o.data ≠ .cell v) : Inv X (pins ++ pinsAt fp s.heap) σ H s :=
  I.pins_of fun p hp => (List.mem_append.mp hp).elim (fun z => I.pin p (List.mem_append_right _ z)) fun z => by
    obtain ⟨hb, e⟩ := of_pinsAt z
    obtain ⟨f0, f1, f2, _⟩ := hf p.1 hb
    obtain ⟨o, e', d⟩ := ho p.1 hb
    rw [e] at e'; cases e'
    exact ⟨e, f0, f1, f2, d⟩
theorem Inv.unpinned {pins pl : List (Addr × Obj)} {σ : St} {H : Hp} {s : Shared} (I : Inv X (pins ++ pl) σ H s) : Inv X pins σ H s := I.pins_of fun p hp => I.pin p (List.mem_append_right _ (List.mem_append_left _ hp))
theorem ps_for {iter : Expr} {body : List Stmt} {wi : TI} {g : TG} {tb : TS} {pos : Pos} (hp : PassesOwn (model X.prog X.w) X.A X.env X.xe) (hc : X.calm = true) (hi : PI X tg iter wi) (hg : PG X tg g) (hb : PSs X body tb)
    (hs : ∀ x, foldedSetIterable iter X.env x = pure x := by intro _; rfl) : PS X (.For tg iter body [] pos) (tFor wi g tb) := by
  intro pins s σ H D I h
  refine wpAny_For (thn (hi pins s σ H _ I h) fun v s1 h1 => thn h1 fun itv s2 h2 => ?_) hs
  obtain ⟨it, fp, tn, J, H2, e, I2, T, st2, f2, W, ⟨m0, w0⟩, turn⟩ := h2
  subst e
  -- what stays true of the iterator's objects through the loop
  have stat : ∀ {H' : Hp}, (∀ b ∈ fp, H' b = none) → ∀ b ∈ fp, FpOk X pins H' b := fun hn b hb => ⟨hn b hb, (f2 b hb).2⟩
  refine codeAny_forLoop_any (fun n s' => ∃ i σ' H', Inv X pins σ' H' s' ∧ tn i s'.heap ∧ (∀ b ∈ fp, H' b = none) ∧ W i n σ' H') ?_ m0 ⟨0, σ, H2, I2, st2, fun b hb => (f2 b hb).1, w0⟩
  rintro n s3 ⟨i, σ3, H3, I3, st3, fr3, w3⟩
  rcases turn i n σ3 H3 w3 with ⟨stop, qn⟩ | ⟨go, N, hN, step⟩
  · refine wpAny_passesOwn hp (thn (T.done X rfl rfl rfl hc i pins s3 σ3 H3 X.xe I3 (stat fr3) st3 stop) fun r s4 ⟨hr, I4⟩ => ?_)
    subst hr
    exact wpAny_execs_nil ⟨σ3, H3, I4, qn⟩
  · refine wpAny_passesOwn hp (thn (T.item X rfl rfl rfl hc i pins s3 σ3 H3 X.xe I3 (stat fr3) st3 go) fun r s4 ⟨u, hr, h4⟩ => ?_)
    subst hr
    refine wpAny_passesOwn hp (thn h4 fun _ s5 ⟨x, H5, I5, r5, y5, st5, fr5⟩ => ?_)
    have I5' := I5.pinned (stat fr5) (T.obj _ _ st5)
    refine wpAny_passesOwn hp (thn (hg _ s5 σ3 H5 x u _ I5' r5 (step x H5 y5)) fun _ s6 ⟨σ6, H6, I6, q6⟩ => ?_)
    refine wpAny_passesOwn hp (thn (hb _ s6 σ6 H6 _ I6 q6) fun f s7 q7 => ?_)
    have again : ∀ {σ7 : St} {H7 : Hp}, Inv X (pins ++ pinsAt fp s5.heap) σ7 H7 s7 → N σ7 H7 → ∃ m, m < n ∧ ∃ i σ' H', Inv X pins σ' H' s7 ∧ tn i s7.heap ∧ (∀ b ∈ fp, H' b = none) ∧ W i m σ' H' := fun {σ7 H7} I7 n7 => by
      obtain ⟨m', hm, w7⟩ := hN σ7 H7 n7
      refine ⟨m', hm, i + 1, σ7, H7, I7.unpinned, T.keep _ _ _ st5 fun b hb o e => (I7.pin (b, o) (List.mem_append_right _ (List.mem_append_right _ (mem_pinsAt hb e)))).1, fun b hb => ?_, w7⟩
      obtain ⟨o, e, d⟩ := T.obj _ _ st5 b hb
      exact (I7.pin (b, o) (List.mem_append_right _ (List.mem_append_right _ (mem_pinsAt hb e)))).2.1
    cases f with
    | next => obtain ⟨σ7, H7, I7, n7⟩ := q7; exact again I7 n7
    | cont => obtain ⟨σ7, H7, I7, n7⟩ := q7; exact again I7 n7
    | brk => obtain ⟨σ7, H7, I7, q7⟩ := q7; exact ⟨σ7, H7, I7.unpinned, q7⟩
    | ret v => obtain ⟨x7, σ7, H7, I7, r7, q7⟩ := q7; exact ⟨x7, σ7, H7, I7.unpinned, r7, q7⟩
end

/-! ### the forms one uses -/
end L2

namespace L2
open PySem PySem.Spec PyProof.Rows

abbrev R2 := V → V → Hp → VK → Prop
/-- a two-place operation on values: f is binaryOp op, inplaceOp op or compareOp op -/
def OpR (X : Cx) (f : Value → Value → Sem Value) (r : R2) : Prop :=
  ∀ (pins : List (Addr × Obj)) (s : Shared) (σ : St) (H : Hp) (x y : V) (v u : Value) (Q : VK), Inv X pins σ H s → RelV x v → RelV y u → r x y H Q →
    wpAny (model X.prog X.w) X.A (f v u) (EP X pins σ Q) X.xe s
/-- a one-place operation -/
def UnR (X : Cx) (f : Value → Sem Value) (r : V → Hp → VK → Prop) : Prop :=
  ∀ (pins : List (Addr × Obj)) (s : Shared) (σ : St) (H : Hp) (x : V) (v : Value) (Q : VK), Inv X pins σ H s → RelV x v → r x H Q →
    wpAny (model X.prog X.w) X.A (f v) (EP X pins σ Q) X.xe s
/-- a call of a value that is known (a builtin, a type) with values -/
def CallR (X : Cx) (f : Value) (r : List V → Hp → VK → Prop) : Prop :=
  ∀ (pins : List (Addr × Obj)) (s : Shared) (σ : St) (H : Hp) (xs : List V) (us : List Value) (Q : VK), Inv X pins σ H s → Vals xs us → r xs H Q →
    wpAny (model X.prog X.w) X.A (call f us) (EP X pins σ Q) X.xe s
def tOp (r : R2) (ta tb : TE) : TE := fun σ H Q => ta σ H fun x H1 => tb σ H1 fun y H2 => r x y H2 Q
def tUn (r : V → Hp → VK → Prop) (ta : TE) : TE := fun σ H Q => ta σ H fun x H1 => r x H1 Q
/-- ints in, under C, and a value out -/
inductive rI_R (C : Int → Int → Prop) (g : Int → Int → V) (x : V) (y : V) (H : Hp) (Q : VK) : Prop
  | mk (i : _) (j : _) (h0 : x = .int i) (h1 : y = .int j) (h2 : C i j) (h3 : Q (g i j) H) : rI_R C g x y H Q
def rI (C : Int → Int → Prop) (g : Int → Int → V) : R2 := fun x y H Q => rI_R C g x y H Q
inductive rI0_R (g : Int → Int → V) (x : V) (y : V) (H : Hp) (Q : VK) : Prop
  | mk (i : _) (j : _) (h0 : x = .int i) (h1 : y = .int j) (h2 : Q (g i j) H) : rI0_R g x y H Q
def rI0 (g : Int → Int → V) : R2 := fun x y H Q => rI0_R g x y H Q
inductive rU_R (g : Int → V) (x : V) (H : Hp) (Q : VK) : Prop
  | mk (i : _) (h0 : x = .int i) (h1 : Q (g i) H) : rU_R g x H Q
def rU (g : Int → V) : V → Hp → VK → Prop := fun x H Q => rU_R g x H Q
section
variable {X : Cx} {a b c : Expr} {ta tb tc : TE} {pos : Pos}

theorem binT (ha : PE X a ta) (hb : PE X b tb) {pins : List (Addr × Obj)} {s : Shared} {σ : St} {H : Hp} {R : V → V → Hp → Prop} (I : Inv X pins σ H s)
    (h : ta σ H fun x H1 => tb σ H1 fun y H2 => R x y H2) {Q : Value → Shared → Prop} {f : Value → Value → Sem Value}
    (hf : ∀ v u s2 x y H2, Inv X pins σ H2 s2 → RelV x v → RelV y u → R x y H2 → wpAny (model X.prog X.w) X.A (f v u) Q X.xe s2) :
    wpAny (model X.prog X.w) X.A (eval a X.env) (fun v s₁ => wpAny (model X.prog X.w) X.A (eval b X.env) (fun u s₂ => wpAny (model X.prog X.w) X.A (f v u) Q X.xe s₂) X.xe s₁) X.xe s := by
  refine thn (ha pins s σ H _ I h) fun v s1 ⟨x, H1, I1, r1, q1⟩ => ?_
  refine thn (hb pins s1 σ H1 _ I1 q1) fun u s2 ⟨y, H2, I2, r2, q2⟩ => ?_
  exact hf v u s2 x y H2 I2 r1 r2 q2

theorem pe_op {op : Operator} {r : R2} (ho : OpR X (binaryOp op) r) (ha : PE X a ta) (hb : PE X b tb) : PE X (.BinOp a op b pos) (tOp r ta tb) := by
  intro pins s σ H Q I h
  exact wpAny_BinOp (binT ha hb I h fun v u s2 x y H2 I2 rx ry q => ho pins s2 σ H2 x y v u Q I2 rx ry q)
theorem pe_un {op : UnaryOp} {r : V → Hp → VK → Prop} (ho : UnR X (unaryOp op) r) (ha : PE X a ta) : PE X (.UnaryOp op a pos) (tUn r ta) := by
  intro pins s σ H Q I h
  exact UnaryOp_ (thn (ha pins s σ H _ I h) fun v s1 ⟨x, H1, I1, r1, q1⟩ => ho pins s1 σ H1 x v Q I1 r1 q1)
/-! ### ints -/
theorem opI {f : Value → Value → Sem Value} {C : Int → Int → Prop} {g : Int → Int → Int}
    (rule : ∀ (i j : Int) (t u : Tok) (s : Shared) (Q : Value → Shared → Prop) (E : Value → Shared → Prop), C i j → Q (.int (g i j) s.toks) { s with toks := s.toks + 1 } → wpAny (model X.prog X.w) X.A (f (.int i t) (.int j u)) Q E s) :
    OpR X f (rI C fun i j => .int (g i j)) := by
  intro pins s σ H x y v u Q I rx ry h
  obtain ⟨i, j, rfl, rfl, hc, q⟩ := h
  obtain ⟨t, rfl⟩ := rx
  obtain ⟨t', rfl⟩ := ry
  exact rule i j t t' s _ _ hc ⟨.int (g i j), H, I.tok _, ⟨_, rfl⟩, q⟩
theorem opI0 {f : Value → Value → Sem Value} {g : Int → Int → Int}
    (rule : ∀ (i j : Int) (t u : Tok) (s : Shared) (Q : Value → Shared → Prop) (E : Value → Shared → Prop), Q (.int (g i j) s.toks) { s with toks := s.toks + 1 } → wpAny (model X.prog X.w) X.A (f (.int i t) (.int j u)) Q E s) :
    OpR X f (rI0 fun i j => .int (g i j)) := by
  intro pins s σ H x y v u Q I rx ry h
  obtain ⟨i, j, rfl, rfl, q⟩ := h
  obtain ⟨t, rfl⟩ := rx
  obtain ⟨t', rfl⟩ := ry
  exact rule i j t t' s _ _ ⟨.int (g i j), H, I.tok _, ⟨_, rfl⟩, q⟩
theorem opB0 {f : Value → Value → Sem Value} {g : Int → Int → Bool}
    (rule : ∀ (i j : Int) (t u : Tok) (s : Shared) (Q : Value → Shared → Prop) (E : Value → Shared → Prop), Q (.bool (g i j)) s → wpAny (model X.prog X.w) X.A (f (.int i t) (.int j u)) Q E s) :
    OpR X f (rI0 fun i j => .bl (g i j)) := by
  intro pins s σ H x y v u Q I rx ry h
  obtain ⟨i, j, rfl, rfl, q⟩ := h
  obtain ⟨t, rfl⟩ := rx
  obtain ⟨t', rfl⟩ := ry
  exact rule i j t t' s _ _ ⟨.bl (g i j), H, I, rfl, q⟩

def CDiv (i j : Int) : Prop := 0 < j ∧ j < 1073741824
def CPow (i j : Int) : Prop := 0 ≤ j ∧ j ≤ 1000000 ∧ i.natAbs < 2 ^ 64
def CMul (i j : Int) : Prop := (-(2 ^ 64) < i ∧ i < 2 ^ 64) ∨ (-(2 ^ 64) < j ∧ j < 2 ^ 64)
theorem CMul.ok {i j : Int} (h : CMul i j) : IntMulOk i j := by
  rcases h with ⟨h1, h2⟩ | ⟨h1, h2⟩
  · exact .of_left (intBits_le_64 h1 h2)
  · exact .of_right (intBits_le_64 h1 h2)
theorem op_add : OpR X (binaryOp .Add) (rI0 fun i j => .int (i + j)) := opI0 fun _ _ _ _ _ _ _ q => add_int q
theorem op_mul : OpR X (binaryOp .Mult) (rI CMul fun i j => .int (i * j)) := opI fun _ _ _ _ _ _ _ hc q => mul_int q hc.ok
/-- // by a positive divisor -/
theorem op_fdiv : OpR X (binaryOp .FloorDiv) (rI CDiv fun i j => .int (i / j)) := opI fun i j _ _ _ _ _ hc q => by
  have h1 : (0 : Int) < j := hc.1
  have h2 : j < 1073741824 := hc.2
  exact floordiv_int (by omega) (by rw [Int.fdiv_eq_ediv_of_nonneg i (by omega)]; exact q) (.inl (PyProof.noPylong_small (by omega)))
/-- % by a positive divisor of any size -/
theorem op_mod : OpR X (binaryOp .Mod) (rI (fun _ j => 0 < j) fun i j => .int (i % j)) := opI fun i j _ _ _ _ _ hc q => by
  have h1 : (0 : Int) < j := hc
  exact mod_int' (by omega) (by rw [Int.fmod_eq_emod_of_nonneg i (by omega)]; exact q)
theorem op_pow : OpR X (binaryOp .Pow) (rI CPow fun i j => .int (i ^ j.toNat)) := opI fun _ _ _ _ _ _ _ hc q => pow_int_small hc.1 hc.2.1 hc.2.2 q
theorem op_shl : OpR X (binaryOp .LShift) (rI CPow fun i j => .int (i * 2 ^ j.toNat)) := opI fun _ _ _ _ _ _ _ hc q => lshift_int_small hc.1 hc.2.1 hc.2.2 q
theorem unI {f : Value → Sem Value} {g : Int → Int}
    (rule : ∀ (i : Int) (t : Tok) (s : Shared) (Q : Value → Shared → Prop) (E : Value → Shared → Prop), Q (.int (g i) s.toks) { s with toks := s.toks + 1 } → wpAny (model X.prog X.w) X.A (f (.int i t)) Q E s) :
    UnR X f (rU fun i => .int (g i)) := by
  intro pins s σ H x v Q I rx h
  obtain ⟨i, rfl, q⟩ := h
  obtain ⟨t, rfl⟩ := rx
  exact rule i t s _ _ ⟨.int (g i), H, I.tok _, ⟨_, rfl⟩, q⟩
theorem un_neg : UnR X (unaryOp .USub) (rU fun i => .int (-i)) := unI fun _ _ _ _ _ q => neg_int q
/-! ### bools among ints: n += (a < b) -/
end

/-! ### comparisons -/
/-- the scalars that == tells apart as data does -/
def scal : V → V → Bool
  | .non, .non => true | .non, .int _ => true | .int _, .non => true | .non, .bl _ => true | .bl _, .non => true | .non, .str _ => true | .str _, .non => true
  | .int _, .int _ => true | .bl _, .bl _ => true | .str _, .str _ => true | .byt _, .byt _ => true
  | .int _, .str _ => true | .str _, .int _ => true | .bl _, .str _ => true | .str _, .bl _ => true
  | _, _ => false
inductive rEq_R (x y : V) (H : Hp) (Q : VK) : Prop
  | mk (h : scal x y = true) (k : Q (.bl (decide (x = y))) H) : rEq_R x y H Q
inductive rNe_R (x y : V) (H : Hp) (Q : VK) : Prop
  | mk (h : scal x y = true) (k : Q (.bl (!decide (x = y))) H) : rNe_R x y H Q
def rEq : R2 := fun x y H Q => rEq_R x y H Q
def rNe : R2 := fun x y H Q => rNe_R x y H Q

theorem dec_int {i j : Int} : decide (V.int i = V.int j) = (i == j) := by
  rw [Bool.eq_iff_iff]
  simp
theorem dec_bl {i j : Bool} : decide (V.bl i = V.bl j) = (i == j) := by
  rw [Bool.eq_iff_iff]
  simp
theorem dec_str {i j : Str} : decide (V.str i = V.str j) = (i == j) := by
  rw [Bool.eq_iff_iff]
  simp
theorem dec_byt {i j : Array UInt8} : decide (V.byt i = V.byt j) = (i.toList == j.toList) := by
  rw [Bool.eq_iff_iff]
  cases i
  cases j
  simp

section
variable {X : Cx} {a b c : Expr} {ta tb tc : TE} {pos : Pos}
theorem fin_bl {pins : List (Addr × Obj)} {σ : St} {H : Hp} {s : Shared} {Q : VK} {k k' : Bool} (I : Inv X pins σ H s) (q : Q (.bl k) H) (e : k = k') : EP X pins σ Q (.bool k') s := by
  subst e
  exact ⟨.bl k, H, I, rfl, q⟩
theorem op_eq : OpR X (compareOp .Eq) rEq := by
  intro pins s σ H x y v u Q I rx ry h
  obtain ⟨hs, q⟩ := h
  cases x with
  | non =>
    cases rx
    cases y with
    | non => cases ry; exact PySem.EqNone.eq_none_none (fin_bl I q (by simp))
    | bl j => cases ry; exact PySem.EqNone.eq_none_bool (fin_bl I q (by simp))
    | int j => obtain ⟨t', rfl⟩ := ry; exact PySem.EqNone.eq_none_int (fin_bl I q (by simp))
    | str j => obtain ⟨t', rfl⟩ := ry; exact PySem.EqNone.eq_none_str (fin_bl I q (by simp))
    | _ => exact absurd (show false = true from hs) Bool.false_ne_true
  | bl i =>
    cases rx
    cases y with
    | non => cases ry; exact PySem.EqNone.eq_bool_none (fin_bl I q (by simp))
    | bl j => cases ry; exact eq_bool (fin_bl I q dec_bl)
    | str j => obtain ⟨t', rfl⟩ := ry; exact PySem.EqMixed.eq_bool_str (fin_bl I q (by simp))
    | _ => exact absurd (show false = true from hs) Bool.false_ne_true
  | int i =>
    obtain ⟨t, rfl⟩ := rx
    cases y with
    | non => cases ry; exact PySem.EqNone.eq_int_none (fin_bl I q (by simp))
    | int j => obtain ⟨t', rfl⟩ := ry; exact eq_int (fin_bl I q dec_int)
    | str j => obtain ⟨t', rfl⟩ := ry; exact PySem.EqMixed.eq_int_str (fin_bl I q (by simp))
    | _ => exact absurd (show false = true from hs) Bool.false_ne_true
  | str i =>
    obtain ⟨t, rfl⟩ := rx
    cases y with
    | non => cases ry; exact PySem.EqNone.eq_str_none (fin_bl I q (by simp))
    | bl j => cases ry; exact PySem.EqMixed.eq_str_bool (fin_bl I q (by simp))
    | int j => obtain ⟨t', rfl⟩ := ry; exact PySem.EqMixed.eq_str_int (fin_bl I q (by simp))
    | str j => obtain ⟨t', rfl⟩ := ry; exact eq_str (fin_bl I q dec_str)
    | _ => exact absurd (show false = true from hs) Bool.false_ne_true
  | byt i =>
    obtain ⟨t, rfl⟩ := rx
    cases y with
    | byt j => obtain ⟨t', rfl⟩ := ry; exact PySem.W.eq_bytes (fin_bl I q dec_byt)
    | _ => exact absurd (show false = true from hs) Bool.false_ne_true
  | _ => cases y <;> exact absurd (show false = true from hs) Bool.false_ne_true
theorem op_ne : OpR X (compareOp .NotEq) rNe := by
  intro pins s σ H x y v u Q I rx ry h
  obtain ⟨hs, q⟩ := h
  cases x with
  | non =>
    cases rx
    cases y with
    | non => cases ry; exact PySem.EqNone.ne_none_none (fin_bl I q (by simp))
    | bl j => cases ry; exact PySem.EqNone.ne_none_bool (fin_bl I q (by simp))
    | int j => obtain ⟨t', rfl⟩ := ry; exact PySem.EqNone.ne_none_int (fin_bl I q (by simp))
    | str j => obtain ⟨t', rfl⟩ := ry; exact PySem.EqNone.ne_none_str (fin_bl I q (by simp))
    | _ => exact absurd (show false = true from hs) Bool.false_ne_true
  | bl i =>
    cases rx
    cases y with
    | non => cases ry; exact PySem.EqNone.ne_bool_none (fin_bl I q (by simp))
    | bl j => cases ry; exact ne_bool (fin_bl I q (congrArg not dec_bl))
    | str j => obtain ⟨t', rfl⟩ := ry; exact PySem.EqMixed.ne_bool_str (fin_bl I q (by simp))
    | _ => exact absurd (show false = true from hs) Bool.false_ne_true
  | int i =>
    obtain ⟨t, rfl⟩ := rx
    cases y with
    | non => cases ry; exact PySem.EqNone.ne_int_none (fin_bl I q (by simp))
    | int j => obtain ⟨t', rfl⟩ := ry; exact ne_int (fin_bl I q (congrArg not dec_int))
    | str j => obtain ⟨t', rfl⟩ := ry; exact PySem.EqMixed.ne_int_str (fin_bl I q (by simp))
    | _ => exact absurd (show false = true from hs) Bool.false_ne_true
  | str i =>
    obtain ⟨t, rfl⟩ := rx
    cases y with
    | non => cases ry; exact PySem.EqNone.ne_str_none (fin_bl I q (by simp))
    | bl j => cases ry; exact PySem.EqMixed.ne_str_bool (fin_bl I q (by simp))
    | int j => obtain ⟨t', rfl⟩ := ry; exact PySem.EqMixed.ne_str_int (fin_bl I q (by simp))
    | str j => obtain ⟨t', rfl⟩ := ry; exact ne_str (fin_bl I q (congrArg not dec_str))
    | _ => exact absurd (show false = true from hs) Bool.false_ne_true
  | byt i =>
    obtain ⟨t, rfl⟩ := rx
    cases y with
    | byt j => obtain ⟨t', rfl⟩ := ry; exact PySem.W.ne_bytes (fin_bl I q (congrArg not dec_byt))
    | _ => exact absurd (show false = true from hs) Bool.false_ne_true
  | _ => cases y <;> exact absurd (show false = true from hs) Bool.false_ne_true

theorem op_lt : OpR X (compareOp .Lt) (rI0 fun i j => .bl (decide (i < j))) := opB0 fun _ _ _ _ _ _ _ q => lt_int q
theorem op_le : OpR X (compareOp .LtE) (rI0 fun i j => .bl (decide (i ≤ j))) := opB0 fun _ _ _ _ _ _ _ q => le_int q
theorem op_gt : OpR X (compareOp .Gt) (rI0 fun i j => .bl (decide (j < i))) := opB0 fun _ _ _ _ _ _ _ q => gt_int q
/-- the one string within the other -/
theorem op_in_str : OpR X (compareOp .In) (fun x y H Q => ∃ i j, x = .str i ∧ y = .str j ∧ Q (.bl (!(Builtin.Str.occurrences j i 0 j.length 1).isEmpty)) H) := by
  intro pins s σ H x y v u Q I rx ry h
  obtain ⟨i, j, rfl, rfl, q⟩ := h
  obtain ⟨t, rfl⟩ := rx
  obtain ⟨t', rfl⟩ := ry
  exact in_str (fin_bl I q rfl)

theorem nomark (b : Expr) {op : CmpOp} (h : op ≠ .In := by decide) (h2 : op ≠ .NotIn := by decide) : behindInMarks op b = false := by
  have e1 : (op == CmpOp.In) = false := by cases op <;> first | rfl | exact absurd rfl h
  have e2 : (op == CmpOp.NotIn) = false := by cases op <;> first | rfl | exact absurd rfl h2
  cases b <;> simp [behindInMarks, e1, e2]
/-- a comparison as a value; hm: nomark b, or (for in, not in) by with_unfolding_all rfl -/
theorem pe_cmpR {op : CmpOp} {r : R2} (ho : OpR X (compareOp op) r) (ha : PE X a ta) (hb : PE X b tb) (hm : behindInMarks op b = false) : PE X (.Compare a [op] [b] pos) (tOp r ta tb) := by
  intro pins s σ H Q I h
  exact wpAny_Compare1 (binT ha hb I h fun v u s2 x y H2 I2 rx ry q => ho pins s2 σ H2 x y v u Q I2 rx ry q) hm
/-- a reading of a value as a test -/
def tTest (t : TE) : TT := fun σ H Q => t σ H fun x H' => BoolR x H' Q
theorem pt_cmpR {op : CmpOp} {r : R2} (ho : OpR X (compareOp op) r) (ha : PE X a ta) (hb : PE X b tb) (hm : behindInMarks op b = false) : PT X (.Compare a [op] [b] pos) (tTest (tOp r ta tb)) := by
  intro pins s σ H Q I h
  refine wpAny_isTrue_Compare1 (thn (ha pins s σ H _ I h) fun v s1 ⟨x, H1, I1, r1, q1⟩ => thn (hb pins s1 σ H1 _ I1 q1) fun u s2 ⟨y, H2, I2, r2, q2⟩ =>
    thn (ho pins s2 σ H2 x y v u _ I2 r1 r2 q2) fun c s3 ⟨z, H3, I3, r3, k, e, q3⟩ => ?_) hm
  subst e
  cases r3
  exact wpAny_truthy_bool ⟨H3, I3, q3⟩
/-- a op1 b op2 c -/
def tChain (r r' : R2) (ta tb tc : TE) : TE := fun σ H Q => ta σ H fun x H1 => tb σ H1 fun y H2 => r x y H2 fun z H3 => ∃ k, z = .bl k ∧
  (if k = true then tc σ H3 fun w' H4 => r' y w' H4 Q else Q (.bl false) H3)
theorem pe_chain {op op' : CmpOp} {r r' : R2} (ho : OpR X (compareOp op) r) (ho' : OpR X (compareOp op') r') (ha : PE X a ta) (hb : PE X b tb) (hc : PE X c tc)
    (hm : lastMarks [op, op'] [b, c] = false := by with_unfolding_all rfl) : PE X (.Compare a [op, op'] [b, c] pos) (tChain r r' ta tb tc) := by
  intro pins s σ H Q I h
  refine Compare_chain (thn (ha pins s σ H _ I h) fun v s1 ⟨x, H1, I1, r1, q1⟩ => chain_link (thn (hb pins s1 σ H1 _ I1 q1) fun u s2 ⟨y, H2, I2, r2, q2⟩ =>
    thn (ho pins s2 σ H2 x y v u _ I2 r1 r2 q2) fun d s3 ⟨z, H3, I3, r3, k, e, q3⟩ => ?_)) hm
  subst e
  cases r3
  refine wpAny_truthy_bool ?_
  cases k with
  | false => exact ite_ff ⟨.bl false, H3, I3, rfl, q3⟩
  | true => exact ite_tt (chain_last (thn (hc pins s3 σ H3 _ I3 q3) fun w' s4 ⟨z', H4, I4, r4, q4⟩ => ho' pins s4 σ H4 y z' u w' Q I4 r2 r4 q4))
theorem pt_chain {op op' : CmpOp} {r r' : R2} (ho : OpR X (compareOp op) r) (ho' : OpR X (compareOp op') r') (ha : PE X a ta) (hb : PE X b tb) (hc : PE X c tc)
    (hm : lastMarks [op, op'] [b, c] = false := by with_unfolding_all rfl) : PT X (.Compare a [op, op'] [b, c] pos) (tTest (tChain r r' ta tb tc)) := by
  intro pins s σ H Q I h
  refine isTrue_chain (thn (ha pins s σ H _ I h) fun v s1 ⟨x, H1, I1, r1, q1⟩ => test_link (thn (hb pins s1 σ H1 _ I1 q1) fun u s2 ⟨y, H2, I2, r2, q2⟩ =>
    thn (ho pins s2 σ H2 x y v u _ I2 r1 r2 q2) fun d s3 ⟨z, H3, I3, r3, k, e, q3⟩ => ?_)) hm
  subst e
  cases r3
  refine wpAny_truthy_bool ?_
  cases k with
  | false =>
    obtain ⟨k', e', q'⟩ := q3
    cases e'
    exact ite_ff ⟨H3, I3, q'⟩
  | true =>
    refine ite_tt (test_last (thn (hc pins s3 σ H3 _ I3 q3) fun w' s4 ⟨z', H4, I4, r4, q4⟩ => thn (ho' pins s4 σ H4 y z' u w' _ I4 r2 r4 q4) fun d' s5 ⟨z2, H5, I5, r5, k2, e2, q5⟩ => ?_))
    subst e2
    cases r5
    exact wpAny_truthy_bool ⟨H5, I5, q5⟩

/-! ### truth -/
theorem line63 : (sizeLine : Nat) < 2 ^ 63 := by rw [sizeLine_eq]; decide
/-! ### strs and bytes -/
/-! ### scalar builtins, by CallR -/
theorem vals1 {x : V} {us : List Value} (r : Vals [x] us) : ∃ u, us = [u] ∧ RelV x u := by
  cases r with
  | cons r1 r2 => cases r2; exact ⟨_, rfl, r1⟩
theorem vals2 {x y : V} {us : List Value} (r : Vals [x, y] us) : ∃ u w', us = [u, w'] ∧ RelV x u ∧ RelV y w' := by
  cases r with
  | cons r1 r2 =>
    cases r2 with
    | cons r3 r4 => cases r4; exact ⟨_, _, rfl, r1, r3⟩
end
end L2

namespace L2
open PySem PySem.Spec PyProof.Rows

/-! ### an instance, its attributes a map -/
structure ObjM (h : Heap) (x dx C : Addr) (mA : Str → Option Value) : Prop where
  obj : h.get? x = some (PySem.W.instObj C dx)
  ns : h.Ns1 dx mA
  ne : dx ≠ x

theorem lookIn_ns {h : Heap} {dx : Addr} {mA : Str → Option Value} (n : h.Ns1 dx mA) : ∃ od, h.get? dx = some od ∧ ∀ name, PySem.W.lookIn name od = some (mA name) := by
  obtain ⟨o, es, ep, ho, hd, hk, _, hm⟩ := n
  refine ⟨o, ho, fun name => ?_⟩
  have e := hm name
  unfold nsFind findBy at e
  rw [← Array.find?_toList] at e
  unfold PySem.W.lookIn
  rw [hd]
  dsimp only
  split
  · rename_i y q
    rw [q] at e
    exact congrArg some e
  · rename_i q
    rw [q] at e
    have a : es.toList.any (·.refKey) = false := by
      rw [List.any_eq_false]
      intro y hy
      obtain ⟨z, t, hkey⟩ := hk y (Array.mem_toList_iff.mp hy)
      simp [DictEntry.refKey, hkey]
    have a' : ¬ es.toList.any (·.refKey) = true := by rw [a]; exact Bool.false_ne_true
    rw [if_neg a']
    exact congrArg some e

theorem ObjM.look {h : Heap} {x dx C : Addr} {mA : Str → Option Value} (I : ObjM h x dx C mA) : ∃ od, PySem.W.InstAt h x (PySem.W.instObj C dx) C (some od) ∧ ∀ name, PySem.W.lookIn name od = some (mA name) :=
  let ⟨od, ho, hl⟩ := lookIn_ns I.ns
  ⟨od, ⟨I.obj, rfl, rfl, ho⟩, hl⟩

section
variable {prog : Program} {w : World} {A : Around} {E : Value → Shared → Prop} {s : Shared} {K : PySem.W.Frag} {x dx C f : Addr} {mA : Str → Option Value} {name : Str} {v : Value}

theorem get_map {expr : Bool} {Q : Value → Shared → Prop} (X : K.In s.heap) (I : ObjM s.heap x dx C mA) (hg : PySem.W.plainGet K C name = true) (hh : PySem.W.hasDictIn K C = true)
    (ha : PySem.W.findIn K (.ref C) name = some none) (hv : mA name = some v) (hv' : PySem.W.handedIn v = true) (h : Q v { s with toks := s.toks + 1 }) :
    wpAny (model prog w) A (getAttr (.ref x) name expr) Q E s := by
  obtain ⟨od, J, hl⟩ := I.look
  exact PySem.W.get_value X J (PySem.W.plainGet_of hg).1 (PySem.W.findObj_own hh ha rfl (by rw [hl, hv])) hv' h

theorem get_meth {pl : Sem Bool} {Q : Value × List Value → Shared → Prop} (X : K.In s.heap) (I : ObjM s.heap x dx C mA) (hg : PySem.W.plainGet K C name = true)
    (hf : PySem.W.findIn K (.ref C) name = some (some (.ref f))) (ht : PySem.W.isFn K (.ref f) = true) (hv : mA name = none) (h : Q (.ref f, [.ref x]) s) :
    wpAny (model prog w) A (getMethod (.ref x) name pl) Q E s := by
  obtain ⟨od, J, hl⟩ := I.look
  exact PySem.W.method_fn X J (PySem.W.plainGet_of hg).1 (PySem.W.plainGet_of hg).2 hf (beq_iff_eq.mp ht) (by show (PySem.W.lookIn name od).map (·.isSome) = some false; rw [hl, hv]; rfl) h

theorem set_map {ns : List Str} {Q : Unit → Shared → Prop} (X : K.In s.heap) (I : ObjM s.heap x dx C mA)
    (hs : PySem.W.findIn K (.ref C) "__setattr__" = some (some (.builtin "object.__setattr__"))) (hp : PySem.W.plainOver K C = true) (ht : PySem.W.takerIn K C name = some none) (hh : PySem.W.hasDictIn K C = true)
    (hw : PySem.Within mA ns) (hsz : ns.length ≤ sizeLine)
    (h : ∀ h', ObjM h' x dx C (fun y => if y = name then some v else mA y) → Heap.SameBut dx s.heap h' → Q () { s with heap := h', toks := s.toks + 2 }) :
    wpAny (model prog w) A (setAttr (.ref x) name v) Q E s := by
  obtain ⟨od, J, hl⟩ := I.look
  refine PySem.W.set_plain X J hs (PySem.W.osa_open (s := { s with toks := s.toks + 1 }) (r := none) X J hp ht fun b => ?_)
  obtain ⟨cd, hc, hd'⟩ := PySem.W.any_some hh
  have hx : s.heap.get? x = some ⟨.ref C, some dx, .plain, #[]⟩ := I.obj
  refine wpAny_bind (wpAny_pure (wpAny_bind (wpAny_bind (wpAny_loadPart hx (wpAny_bind (PySem.W.Looks.here (s := { s with toks := s.toks + 1 }) (PySem.W.looks_clsIn X hc) ?_))))))
  rw [hd']
  refine wpAny_pure (a := some dx) (wpAny_bind (wpAny_pure (wpAny_bind ?_)))
  refine wpAny_nsSet1 (s := { s with toks := s.toks + 1 }) I.ns fun h' hn2 hs2 => ?_
  obtain ⟨oD, esD, epD, hoD, hdD, hcD⟩ := hn2.count (PySem.Within.cons name v hw)
  refine wpAny_bind (wpAny_lookBehind hoD (by rw [hdD]; exact pastItsLine_dict (Nat.le_trans hcD (by rw [List.length_cons]; omega))) ?_)
  exact wpAny_pure (h _ ⟨(hs2.2 _ (Ne.symm I.ne)).trans I.obj, hn2, I.ne⟩ hs2)

/-- C(..): the dict at the heap's end, the instance behind it; then its __init__ -/
theorem make_map {R : Result → Shared → Prop} {vs : List Value} {kw : List (Str × Value)} (X : K.In s.heap) (hm : PySem.W.makesIn K C = true)
    (hi : PySem.W.findIn K (.ref C) "__init__" = some (some (.ref f))) (hf : PySem.W.typeIn K (.ref f) = some (.type "function"))
    (h : codeAny (model prog w) (A.under (.builtin "type.__call__" ⟨.ref C :: vs, kw⟩)) (.call (.ref f) ⟨.ref (s.heap.objs.size + 1) :: vs, kw⟩) (PySem.W.InitBack (s.heap.objs.size + 1) R)
      { s with heap := (s.heap.push PySem.W.emptyDict).push (PySem.W.instObj C s.heap.objs.size) }) :
    codeAny (model prog w) A (.call (.ref C) ⟨vs, kw⟩) R s := by
  obtain ⟨hh, g, d, t, os⟩ := s
  exact PySem.W.make_core (PySem.W.makes_of X hm) (PySem.W.looks_findIn X hi) (fun self => PySem.W.bind_fn X self hf) (.inl rfl) h
end

/-! ### the attributes as a list of pairs -/
def putF (f : Str) (v : V) : List (Str × V) → List (Str × V)
  | [] => [(f, v)]
  | (g, x) :: r => if g = f then (g, v) :: r else (g, x) :: putF f v r
theorem lookup_putF (f g : Str) (v : V) : ∀ fs : List (Str × V), (putF f v fs).lookup g = if g = f then some v else fs.lookup g
  | [] => by
    show List.lookup g [(f, v)] = _
    by_cases h : g = f
    · have hb : (g == f) = true := beq_iff_eq.mpr h
      simp only [List.lookup, hb, if_pos h]
    · have hb : (g == f) = false := beq_eq_false_iff_ne.mpr h
      simp only [List.lookup, hb, if_neg h]
  | (k, x) :: r => by
    have ih := lookup_putF f g v r
    rw [show putF f v ((k, x) :: r) = (if k = f then (k, v) :: r else (k, x) :: putF f v r) from rfl]
    by_cases hk : k = f
    · rw [if_pos hk]
      by_cases h : g = k
      · have hb : (g == k) = true := beq_iff_eq.mpr h
        simp only [List.lookup, hb, if_pos (h.trans hk)]
      · have hb : (g == k) = false := beq_eq_false_iff_ne.mpr h
        simp only [List.lookup, hb, if_neg (fun e : g = f => h (e.trans hk.symm))]
    · rw [if_neg hk]
      by_cases h : g = k
      · have hb : (g == k) = true := beq_iff_eq.mpr h
        simp only [List.lookup, hb, if_neg (fun e : g = f => hk (h.symm.trans e))]
      · have hb : (g == k) = false := beq_eq_false_iff_ne.mpr h
        simp only [List.lookup, hb]
        exact ih
theorem keys_putF (f : Str) (v : V) : ∀ fs : List (Str × V), f ∈ (putF f v fs).map (·.1) ∧ ∀ g, g ∈ fs.map (·.1) → g ∈ (putF f v fs).map (·.1)
  | [] => ⟨by simp [putF], fun g h => by simp at h⟩
  | (k, x) :: r => by
    obtain ⟨i1, i2⟩ := keys_putF f v r
    rw [show putF f v ((k, x) :: r) = (if k = f then (k, v) :: r else (k, x) :: putF f v r) from rfl]
    by_cases hk : k = f
    · rw [if_pos hk]
      subst hk
      exact ⟨by simp, fun g h => by simpa using h⟩
    · rw [if_neg hk]
      refine ⟨?_, fun g h => ?_⟩
      · rw [List.map_cons]
        exact List.mem_cons_of_mem _ i1
      · rw [List.map_cons] at h ⊢
        rcases List.mem_cons.mp h with e | e
        · exact List.mem_cons.mpr (.inl e)
        · exact List.mem_cons_of_mem _ (i2 g e)
theorem length_putF (f : Str) (v : V) : ∀ fs : List (Str × V), (putF f v fs).length ≤ fs.length + 1
  | [] => by simp [putF]
  | (k, x) :: r => by
    have ih := length_putF f v r
    rw [show putF f v ((k, x) :: r) = (if k = f then (k, v) :: r else (k, x) :: putF f v r) from rfl]
    by_cases hk : k = f
    · rw [if_pos hk, List.length_cons, List.length_cons]; omega
    · rw [if_neg hk, List.length_cons, List.length_cons]; omega

theorem RelO.some_of {v : V} {o : Option Value} (r : RelO (some v) o) : ∃ u, o = some u ∧ RelV v u := by
  cases o with
  | none => exact (show False from r).elim
  | some u => exact ⟨u, rfl, r⟩
theorem RelO.none_of {o : Option Value} (r : RelO none o) : o = none := by
  cases o with
  | none => rfl
  | some u => exact (show False from r).elim
theorem handed_of {v : V} {u : Value} (r : RelV v u) : PySem.W.handedIn u = true := by
  cases v with
  | non => cases (show u = Value.none from r); rfl
  | bl b => cases (show u = Value.bool b from r); rfl
  | int i => obtain ⟨t, e⟩ := (show ∃ t, u = Value.int i t from r); cases e; rfl
  | str x => obtain ⟨t, e⟩ := (show ∃ t, u = Value.str x t from r); cases e; rfl
  | byt b => obtain ⟨t, e⟩ := (show ∃ t, u = Value.bytes b t from r); cases e; rfl
  | flt b => obtain ⟨t, e⟩ := (show ∃ t, u = Value.float b t from r); cases e; rfl
  | ref a => cases (show u = Value.ref a from r); rfl
  | ty n => cases (show u = Value.type n from r); rfl

section
variable {P : Program} {w : World} {H H' : Hp} {h h' : Heap} {a C dx : Addr} {fs fs' : List (Str × V)}
theorem ins_get (hok : HOk P w H h) (e : H a = some (.ins C dx fs)) : ∃ mA, ObjM h a dx C mA ∧ (∀ f, RelO (fs.lookup f) (mA f)) ∧ PySem.Within mA (fs.map (·.1)) ∧ fs.length ≤ 1000 ∧ H dx = some (.own a) := by
  obtain ⟨d, z, ne, ob, mA, n, r, q⟩ := (show ObjOk P w H h a (.ins C dx fs) from hok a _ e)
  exact ⟨mA, ⟨ob, n, ne⟩, r, q, z, d⟩
end

/-! ### what of the text a class must have -/
structure Cls (K : PySem.W.Frag) (C : Addr) : Prop where
  pg : PySem.W.plainGet K C Str.empty = true
  hd : PySem.W.hasDictIn K C = true
  po : PySem.W.plainOver K C = true
  sa : PySem.W.findIn K (.ref C) "__setattr__" = some (some (.builtin "object.__setattr__"))
theorem Cls.get {K : PySem.W.Frag} {C : Addr} (c : Cls K C) (f : Str) : PySem.W.plainGet K C f = true := c.pg
/-- no class of it has the name -/
def NoAttr (K : PySem.W.Frag) (C : Addr) (f : Str) : Prop := PySem.W.findIn K (.ref C) f = some none
theorem NoAttr.taker {K : PySem.W.Frag} {C : Addr} {f : Str} (n : NoAttr K C f) : PySem.W.takerIn K C f = some none := by
  unfold PySem.W.takerIn
  rw [show PySem.W.findIn K (.ref C) f = some none from n]
  rfl
/-- a method: a plain def of the class or of one above it -/
structure Meth (K : PySem.W.Frag) (C : Addr) (m : Str) (f : Addr) : Prop where
  at_ : PySem.W.findIn K (.ref C) m = some (some (.ref f))
  fn : PySem.W.isFn K (.ref f) = true
  kp : PySem.W.keepIn K (.ref f) = true

section
variable {X : Cx} {pins : List (Addr × Obj)} {σ : St} {H : Hp} {s : Shared} {a C dx : Addr} {fs : List (Str × V)} {f : Str} {v : V} {A : Around} {E : Value → Shared → Prop}

theorem getattr_ok {b : Bool} {Q : Value → Shared → Prop} (I : Inv X pins σ H s) (e : H a = some (.ins C dx fs)) (c : Cls X.K C) (n : NoAttr X.K C f) (l : fs.lookup f = some v)
    (h : ∀ u s', Inv X pins σ H s' → RelV v u → Q u s') : wpAny (model X.prog X.w) A (getAttr (.ref a) f b) Q E s := by
  obtain ⟨mA, O, r, _, _, _⟩ := ins_get I.hok e
  obtain ⟨u, hu, ru⟩ := RelO.some_of (v := v) (o := mA f) (by rw [← l]; exact r f)
  exact get_map I.kIn O (c.get f) c.hd n hu (handed_of ru) (h u _ (I.tok _) ru)

theorem getmeth_ok {m : Str} {g : Addr} {pl : Sem Bool} {Q : Value × List Value → Shared → Prop} (I : Inv X pins σ H s) (e : H a = some (.ins C dx fs)) (c : Cls X.K C) (k : Meth X.K C m g) (l : fs.lookup m = none)
    (h : Q (.ref g, [.ref a]) s) : wpAny (model X.prog X.w) A (getMethod (.ref a) m pl) Q E s := by
  obtain ⟨mA, O, r, _, _, _⟩ := ins_get I.hok e
  have hn : mA m = none := RelO.none_of (by rw [← l]; exact r m)
  exact get_meth I.kIn O (c.get m) k.at_ k.fn hn h

theorem setattr_ok {y : V} {u : Value} {Q : Unit → Shared → Prop} (I : Inv X pins σ H s) (e : H a = some (.ins C dx fs)) (c : Cls X.K C) (n : NoAttr X.K C f) (hl : fs.length < 1000) (ry : RelV y u)
    (h : ∀ s', Inv X pins σ (upd H a (.ins C dx (putF f y fs))) s' → Q () s') : wpAny (model X.prog X.w) A (setAttr (.ref a) f u) Q E s := by
  obtain ⟨mA, O, r, wi, _, ho⟩ := ins_get I.hok e
  have hz : (fs.map (·.1)).length ≤ sizeLine := by rw [List.length_map, sizeLine_eq]; omega
  refine set_map I.kIn O c.sa c.po n.taker c.hd wi hz fun h' O' sb => h _ ?_
  have hd : ∃ o, h'.get? dx = some o := let ⟨o, _, _, e', _⟩ := O'.ns; ⟨o, e'⟩
  refine I.write (x := a) (e := dx) (by rw [e]; exact True.intro) (.inr ho) (fun b q hb z => (sb.2 b hb).trans z) hd ?_
  refine ⟨by rw [upd_ne O.ne]; exact ho, ?_, O.ne, O'.obj, _, O'.ns, fun g => ?_, fun g hg => ?_⟩
  · have := length_putF f y fs; omega
  · show RelO ((putF f y fs).lookup g) (if g = f then some u else mA g)
    rw [lookup_putF]
    by_cases q : g = f
    · rw [if_pos q, if_pos q]; exact ry
    · rw [if_neg q, if_neg q]; exact r g
  · by_cases q : g = f
    · rw [q]; exact (keys_putF f y fs).1
    · refine (keys_putF f y fs).2 g (wi g fun z => hg ?_)
      show (if g = f then some u else mA g) = none
      rw [if_neg q]; exact z

/-- a new instance, tracked, without attributes -/
theorem Inv.made (I : Inv X pins σ H s) : Inv X pins σ (upd (upd H s.heap.objs.size (.own (s.heap.objs.size + 1))) (s.heap.objs.size + 1) (.ins C s.heap.objs.size []))
    { s with heap := (s.heap.push PySem.W.emptyDict).push (PySem.W.instObj C s.heap.objs.size) } := by
  have e1 : (s.heap.push PySem.W.emptyDict).get? s.heap.objs.size = some PySem.W.emptyDict := Heap.get?_push_size s.heap rfl
  have e2 : ((s.heap.push PySem.W.emptyDict).push (PySem.W.instObj C s.heap.objs.size)).get? (s.heap.objs.size + 1) = some (PySem.W.instObj C s.heap.objs.size) := by
    have := Heap.get?_push_size (s.heap.push PySem.W.emptyDict) (o := PySem.W.instObj C s.heap.objs.size) rfl
    rwa [Heap.size_push] at this
  have e3 : (s.heap.push PySem.W.emptyDict).Ns s.heap.objs.size (fun _ => none) := ⟨PySem.W.emptyDict, #[], _, e1, rfl, (fun e he => absurd he (by simp)), fun _ => rfl⟩
  have I1 := I.laid (a := s.heap.objs.size) (o := .own (s.heap.objs.size + 1)) (h' := s.heap.push PySem.W.emptyDict) (t' := s.toks) (fun b u q => Heap.get?_push_of_some _ q) (Nat.le_refl _) ⟨_, e1⟩
  refine I1.laid (a := s.heap.objs.size + 1) (o := .ins C s.heap.objs.size []) (t' := s.toks) (fun b u q => Heap.get?_push_of_some _ q) (Nat.le_of_eq (Heap.size_push _ _)) ?_
  have ne : s.heap.objs.size ≠ s.heap.objs.size + 1 := Nat.ne_of_lt (Nat.lt_succ_self _)
  refine ⟨by rw [upd_ne ne, upd_same], Nat.zero_le _, ne, e2, fun _ => none, (Heap.Ns1.of_empty e3).at fun o q => Heap.get?_push_of_some _ q, fun _ => True.intro, fun y hy => absurd rfl hy⟩

/-- e.f where nothing but the object is asked: through attributeBase (super) and the last hold -/
theorem attr_of {prog : Program} {w : World} {env : Env} {e : Expr} {f : Str} {pos : Pos} {s : Shared} {Q : Value → Shared → Prop} (hb : attributeBase e f env (eval e env) = eval e env)
    (h : wpAny (model prog w) A (eval e env) (fun o s₁ => wpAny (model prog w) A (getAttr o f true) Q E s₁) E s) : wpAny (model prog w) A (eval (.Attribute e f pos) env) Q E s :=
  Attribute_any_ h (by rw [arm_eval_Attribute, hb])
end

/-! ### readings and rules -/
/-- e.f, an attribute of the instance -/
inductive FldR (K : PySem.W.Frag) (f : Str) (x : V) (H : Hp) (Q : VK) : Prop
  | mk (a C dx : Addr) (fs : List (Str × V)) (v : V) (h1 : x = .ref a) (h2 : H a = some (.ins C dx fs)) (h3 : Cls K C) (h4 : NoAttr K C f) (h5 : fs.lookup f = some v) (k : Q v H) : FldR K f x H Q
def tFld (K : PySem.W.Frag) (ta : TE) (f : Str) : TE := fun σ H Q => ta σ H fun x H1 => FldR K f x H1 Q
/-- e.f = value -/
def sFld (K : PySem.W.Frag) (ta tv : TE) (f : Str) : TS := fun D σ H => tv σ H fun y H1 => ta σ H1 fun x H2 => ∃ a C dx fs, x = .ref a ∧ H2 a = some (.ins C dx fs) ∧ Cls K C ∧ NoAttr K C f ∧ fs.length < 1000 ∧
  D.nx σ (upd H2 a (.ins C dx (putF f y fs)))
section
variable {X : Cx} {o e value : Expr} {f : Str} {pos pos' tpos : Pos} {ta tv : TE}
theorem pe_fld (he : PE X e ta) (hb : attributeBase e f X.env (eval e X.env) = eval e X.env) : PE X (.Attribute e f pos) (tFld X.K ta f) := by
  intro pins s σ H Q I h
  refine attr_of hb (thn (he pins s σ H _ I h) fun u s1 ⟨x, H1, I1, rx, a, C, dx, fs, v, ex, ea, c, n, l, q⟩ => ?_)
  subst ex
  obtain rfl : u = Value.ref a := rx
  exact getattr_ok I1 ea c n l fun u' s2 I2 ru => ⟨v, H1, I2, ru, q⟩
theorem ps_fld (ha : PE X o ta) (hv : PE X value tv) (hs : swapsWith value (some (.Attribute o f pos')) pos.line X.env = pure false) : PS X (.Assign [.Attribute o f pos'] value pos) (sFld X.K ta tv f) := by
  intro pins s σ H D I h
  refine plainObj_wpAny_Assign_Attribute (thn (hv pins s σ H _ I h) fun u s1 ⟨y, H1, I1, ry, q⟩ => thn (ha pins s1 σ H1 _ I1 q) fun ov s2 ⟨x, H2, I2, rx, a, C, dx, fs, ex, ea, c, n, l, q2⟩ => ?_) hs
  subst ex
  obtain rfl : ov = Value.ref a := rx
  exact setattr_ok I2 ea c n l ry fun s3 I3 => ⟨σ, _, I3, q2⟩
/-- what is between an instance and its method: the tree of a method call -/
theorem methcall_of {pl : Sem Bool} {m : Str} {apos : Pos} {args : List Expr} {pins : List (Addr × Obj)} {s : Shared} {σ : St} {H : Hp} {Q : Value → Shared → Prop} {te : TE} (he : PE X e te) (I : Inv X pins σ H s)
    (h : te σ H fun x H1 => ∃ a C dx fs g, x = .ref a ∧ H1 a = some (.ins C dx fs) ∧ Cls X.K C ∧ Meth X.K C m g ∧ fs.lookup m = none ∧
      ∀ s1, Inv X pins σ H1 s1 → wpAny (model X.prog X.w) X.A (callWith pos (.ref g) [.ref a] (backTo pos (starEach args X.env)) (backToKw pos (keywordEach [] X.env))) Q X.xe s1)
    (ht : eval (.Call (.Attribute e m apos) args [] pos) X.env = (do
      let ov ← eval e X.env
      standAt apos.atName
      let (f, first) ← holding [ov] (getMethod ov m pl)
      callWith pos f first (backTo pos (starEach args X.env)) (backToKw pos (keywordEach [] X.env)))) :
    wpAny (model X.prog X.w) X.A (eval (.Call (.Attribute e m apos) args [] pos) X.env) Q X.xe s := by
  refine PySem.W.methodCall_KW (pl := pl) (thn (he pins s σ H _ I h) fun u s1 ⟨x, H1, I1, rx, a, C, dx, fs, g, ex, ea, c, k, l, q⟩ => ?_) ht
  subst ex
  obtain rfl : u = Value.ref a := rx
  exact getmeth_ok I1 ea c k l (q s1 I1)
end

/-! ### isinstance -/
section
variable {X : Cx} {pins : List (Addr × Obj)} {σ : St} {H : Hp} {s : Shared} {A : Around} {E : Value → Shared → Prop} {Q : Value → Shared → Prop} {c : Value} {b : Bool}
/-- the type of a value, as the fragment's deciders take it; for an instance its class -/
inductive TyOf (K : PySem.W.Frag) (H : Hp) : V → Value → Prop where
  | non : TyOf K H .non (.type "NoneType")
  | bl (x : Bool) : TyOf K H (.bl x) (.type "bool")
  | int (i : Int) : TyOf K H (.int i) (.type "int")
  | str (x : Str) : TyOf K H (.str x) (.type "str")
  | flt (x : UInt64) : TyOf K H (.flt x) (.type "float")
  | lst {a : Addr} {xs : List V} (e : H a = some (.lst xs)) : TyOf K H (.ref a) (.type "list")
  | frz {a : Addr} {o : Obj} {xs : List V} (e : H a = some (.frz o (.lst xs))) : TyOf K H (.ref a) (.type "list")
  | tup {a : Addr} {xs : List V} (e : H a = some (.tup xs)) : TyOf K H (.ref a) (.type "tuple")
  | dK {a : Addr} {kvs : List (Key × V)} (e : H a = some (.dK kvs)) : TyOf K H (.ref a) (.type "dict")
  | dT {a : Addr} {kvs : List (List Key × V)} (e : H a = some (.dT kvs)) : TyOf K H (.ref a) (.type "dict")
  | ins {a C dx : Addr} {fs : List (Str × V)} (e : H a = some (.ins C dx fs)) (cl : Cls K C) (ha : PySem.W.findIn K (.ref C) "__class__" = some (some (.builtin "object.__class__")))
      (hn : PySem.W.specialIn K (.builtin "object.__class__") "__get__" = some (some (.builtin "getset_descriptor.__get__"))) (htk : PySem.W.takesIn K (.builtin "object.__class__") = some true)
      (hm : PySem.W.mroIn K C (.type "object") = some true) : TyOf K H (.ref a) (.ref C)
/-- isinstance(x, c) for one class c, a built-in or an own one: kitOne's answer -/
theorem isinst_ok {x : V} {u t : Value} (I : Inv X pins σ H s) (rx : RelV x u) (ty : TyOf X.K H x t) (e : PySem.W.kitOne X.K t c = some b) (h : ∀ tk, Q (.bool b) { s with toks := tk }) :
    wpAny (model X.prog X.w) A (call (.builtin "isinstance") [u, c]) Q E s := by
  cases ty with
  | non => cases (show u = Value.none from rx); exact PySem.W.kia_one PySem.W.kitx_none I.kIn True.intro e (fun z => nomatch z) h
  | bl y => cases (show u = Value.bool y from rx); exact PySem.W.kia_one PySem.W.kitx_bool I.kIn True.intro e (fun z => nomatch z) h
  | int i => obtain ⟨t, q⟩ := (show ∃ t, u = Value.int i t from rx); cases q; exact PySem.W.kia_one PySem.W.kitx_int I.kIn True.intro e (fun z => nomatch z) h
  | str y => obtain ⟨t, q⟩ := (show ∃ t, u = Value.str y t from rx); cases q; exact PySem.W.kia_one PySem.W.kitx_str I.kIn True.intro e (fun z => nomatch z) h
  | flt y => obtain ⟨t, q⟩ := (show ∃ t, u = Value.float y t from rx); cases q; exact PySem.W.kia_one PySem.W.kitx_float I.kIn True.intro e (fun z => nomatch z) h
  | @lst a xs ea =>
    cases (show u = Value.ref a from rx)
    obtain ⟨_, _, n, _, h1⟩ := (show ObjOk X.prog X.w H s.heap a (.lst xs) from I.hok a _ ea)
    exact PySem.W.kia_one PySem.W.kitx_list I.kIn ⟨_, h1, rfl⟩ e (fun z => nomatch z) h
  | @frz a ob xs ea =>
    cases (show u = Value.ref a from rx)
    obtain ⟨_, _, _, n, _, h1⟩ := (show ObjOk X.prog X.w H s.heap a (.frz ob (.lst xs)) from I.hok a _ ea)
    exact PySem.W.kia_one PySem.W.kitx_list I.kIn ⟨_, h1, rfl⟩ e (fun z => nomatch z) h
  | @tup a xs ea =>
    cases (show u = Value.ref a from rx)
    obtain ⟨_, _, _, p⟩ := (show ObjOk X.prog X.w H s.heap a (.tup xs) from I.hok a _ ea)
    obtain ⟨o, h1, h2, _⟩ := p
    exact PySem.W.kia_one PySem.W.kitx_tuple I.kIn ⟨o, h1, h2⟩ e (fun z => nomatch z) h
  | @dK a kvs ea =>
    cases (show u = Value.ref a from rx)
    obtain ⟨_, _, vs, _, p⟩ := (show ObjOk X.prog X.w H s.heap a (.dK kvs) from I.hok a _ ea)
    obtain ⟨o, es, ep, h1, h2, _⟩ := p
    exact PySem.W.kia_one PySem.W.kitx_dict I.kIn ⟨o, h1, h2.1⟩ e (fun z => nomatch z) h
  | @dT a kvs ea =>
    cases (show u = Value.ref a from rx)
    obtain ⟨_, _, xs, _, o, es, ep, h1, h2, _⟩ := (show ObjOk X.prog X.w H s.heap a (.dT kvs) from I.hok a _ ea)
    exact PySem.W.kia_one PySem.W.kitx_dict I.kIn ⟨o, h1, h2.1⟩ e (fun z => nomatch z) h
  | @ins a C dx fs ea cl ha hn htk hm =>
    cases (show u = Value.ref a from rx)
    obtain ⟨mA, O, _⟩ := ins_get I.hok ea
    obtain ⟨od, J, _⟩ := O.look
    exact PySem.W.kia_one (PySem.W.kitx_own (cl.get _) cl.hd ha hn htk hm) I.kIn J e (fun z => nomatch z) h
end
end L2

namespace L2
open PySem PySem.Spec PyProof.Rows

/-! ### room -/
structure Room (k : Nat) (A : Around) : Prop where
  hd : A.handled = none
  dp : A.depth + 3 * k + 5 < recursionLimit
  un : A.units + 16 * k + 200 < cLine
theorem Room.mono {j k : Nat} {A : Around} (r : Room k A) (h : j ≤ k) : Room j A := ⟨r.hd, by have := r.dp; omega, by have := r.un; omega⟩
theorem Room.deeper {k : Nat} {A : Around} (r : Room (k + 1) A) (env : Env) : Room k (A.deeper env) :=
  ⟨r.hd, by have := r.dp; show A.depth + 1 + 3 * k + 5 < _; omega, by have := r.un; show A.units + 3 + 16 * k + 200 < _; omega⟩
theorem make_depth {A : Around} {C : Addr} {us : List Value} {kw : List (Str × Value)} : (A.under (.builtin "type.__call__" ⟨.ref C :: us, kw⟩)).depth = A.depth + 1 := by
  first | rfl | simp [Around.under, Code.weight, Code.isCreation, Code.isGuard, Code.isCaller, Code.frames, Code.isFrame, guardIds]
theorem make_units {A : Around} {C : Addr} {us : List Value} {kw : List (Str × Value)} : (A.under (.builtin "type.__call__" ⟨.ref C :: us, kw⟩)).units = A.units + 1 := by
  first | rfl | simp [Around.under, Code.cUnits, Code.frames, Code.isFrame]
theorem Room.make {k : Nat} {A : Around} (r : Room (k + 1) A) (C : Addr) (us : List Value) (kw : List (Str × Value)) : Room k (A.under (.builtin "type.__call__" ⟨.ref C :: us, kw⟩)) :=
  ⟨r.hd, by have := r.dp; rw [make_depth]; omega, by have := r.un; rw [make_units]; omega⟩
theorem Room.depth {k : Nat} {A : Around} (r : Room k A) : A.depth < recursionLimit := by have := r.dp; omega
theorem Room.units {k : Nat} {A : Around} (r : Room k A) : A.units + 64 < cLine := by have := r.un; omega
theorem Room.units0 {k : Nat} {A : Around} (r : Room k A) : A.units < cLine := by have := r.un; omega

/-! ### argument lists and displays -/
def tNil : TA := fun _ H Q => Q [] H
def tCons (ta : TE) (tr : TA) : TA := fun σ H Q => ta σ H fun x H1 => tr σ H1 fun xs H2 => Q (x :: xs) H2
section
variable {X : Cx} {e : Expr} {es : List Expr} {te : TE} {t : TA} {pos : Pos}
theorem pa_nil : PA X [] tNil := fun _ _ _ _ H Q I h => Calls.spliced_nil ⟨[], H, I, .nil, h⟩
theorem pa_cons (ha : PE X e te) (hr : PA X es t) (hs : starEach (e :: es) X.env = (false, eval e X.env) :: starEach es X.env := by rfl) : PA X (e :: es) (tCons te t) := by
  intro pos pins s σ H Q I h
  rw [hs]
  show wpAny _ _ (spliced ((false, eval e X.env) :: backTo pos (starEach es X.env))) _ _ s
  refine Calls.spliced_cons (thn (ha pins s σ H _ I h) fun u s1 ⟨x, H1, I1, r1, q1⟩ => ?_)
  exact thn (hr pos pins s1 σ H1 _ I1 q1) fun us s2 ⟨xs, H2, I2, r2, q2⟩ => ⟨x :: xs, H2, I2, .cons r1 r2, q2⟩

/-- a tuple, a list of written items -/
inductive NewR (xs : List V) (o : HO) (H : Hp) (Q : VK) : Prop
  | mk (z : xs.length ≤ sizeLine) (k : ∀ p, H p = none → Q (.ref p) (upd H p o)) : NewR xs o H Q
def tTup (t : TA) : TE := fun σ H Q => t σ H fun xs H1 => NewR xs (.tup xs) H1 Q
def tLst (t : TA) : TE := fun σ H Q => t σ H fun xs H1 => NewR xs (.lst xs) H1 Q
theorem pe_tup {x1} (h : PA X es t) : PE X (.Tuple es x1 pos) (tTup t) := by
  intro pins s σ H Q I hq
  refine wpAny_Tuple_spliced (thn (h pos pins s σ H _ I hq) fun us s1 ⟨xs, H1, I1, r, z, q⟩ => ⟨by rw [← r.length]; exact z, ?_⟩)
  have hf : H1 s1.heap.objs.size = none := I1.hok.fresh (Nat.le_refl _)
  refine ⟨.ref s1.heap.objs.size, upd H1 s1.heap.objs.size (.tup xs), I1.laid (t' := s1.toks) (fun b u e => Heap.get?_push_of_some _ e) (Nat.le_refl _) ?_, rfl, q _ hf⟩
  exact ⟨z, us, r, ⟨_, Heap.get?_push_size _ rfl, rfl, _, rfl⟩⟩
theorem pe_lst (h : PA X es t) : PE X (.List es pos) (tLst t) := by
  intro pins s σ H Q I hq
  refine wpAny_List_spliced (thn (h pos pins s σ H _ I hq) fun us s1 ⟨xs, H1, I1, r, z, q⟩ => ⟨by rw [← r.length]; exact z, ?_⟩)
  have hf : H1 s1.heap.objs.size = none := I1.hok.fresh (Nat.le_refl _)
  refine ⟨.ref s1.heap.objs.size, upd H1 s1.heap.objs.size (.lst xs), I1.laid (t' := s1.toks) (fun b u e => Heap.get?_push_of_some _ e) (Nat.le_refl _) ?_, rfl, q _ hf⟩
  exact ⟨z, us, 0, r, Heap.get?_push_size _ rfl⟩
end

/-! ### what a def promises -/
/-- a def's promise: the bound arguments in the parameters' order, the heap, the wanted end, the wanted exception -/
abbrev Sp := List V → Hp → VK → XK → Prop
/-- how an exception lies behind a call (file 08 gives it): the callers' frames, abstract heap and state ahead of the call, the wish, the exception, the state -/
abbrev CXT := List Env → Hp → Shared → XK → Value → Shared → Prop

/-- the state at a call -/
structure Env0 (P : Program) (w : World) (K : PySem.W.Frag) (mg : Str → Option Value) (base : Heap) (A : Around) (outer : List Env) (s : Shared) (H : Hp) : Prop where
  frames : A.frames = some outer
  mod : Mod K mg base
  bs : ∀ b o, base.get? b = some o → s.heap.get? b = some o ∧ H b = none
  bsz : base.objs.size ≤ s.heap.objs.size
  funs : s.heap.FunFrames base outer
  frf : ∀ b ∈ frs outer, H b = none
  hok : HOk P w H s.heap
  bare : AllBare s.gens
/-- a call's end -/
def CE (outer : List Env) (P : Program) (w : World) (H : Hp) (s : Shared) (Q : VK) (u : Value) (s' : Shared) : Prop :=
  ∃ v H', s'.os = s.os ∧ AllBare s'.gens ∧ Un (frs outer) [] H H' s.heap s'.heap ∧ HOk P w H' s'.heap ∧ RelV v u ∧ Q v H'
def CR (CX : CXT) (outer : List Env) (P : Program) (w : World) (H : Hp) (s : Shared) (Q : VK) (E : XK) (r : Result) (s' : Shared) : Prop :=
  match r with
  | .ok (.ret u) => CE outer P w H s Q u s'
  | .ok _ => False
  | .error e => CX outer H s E e s'
structure FnOk (P : Program) (w : World) (K : PySem.W.Frag) (mg : Str → Option Value) (base : Heap) (CX : CXT) (k : Nat) (f : Addr) (fd : FuncData) (ps : List Str) (sp : Sp) : Prop where
  len : ∀ vs H Q E, sp vs H Q E → vs.length = ps.length
  run : ∀ (A : Around) (outer : List Env) (s : Shared) (H : Hp) (args : Args) (us : List Value) (vs : List V) (Q : VK) (E : XK), Room k A → Env0 P w K mg base A outer s H → BindsTo s fd args (ps.zip us) → Vals vs us → sp vs H Q E →
    codeAny (model P w) A (.call (.ref f) args) (CR CX outer P w H s Q E) s
theorem Env0.make {P : Program} {w : World} {K : PySem.W.Frag} {mg : Str → Option Value} {base : Heap} {A : Around} {outer : List Env} {s : Shared} {H : Hp} (e : Env0 P w K mg base A outer s H) (C : Addr) (us : List Value) (kw : List (Str × Value)) :
    Env0 P w K mg base (A.under (.builtin "type.__call__" ⟨.ref C :: us, kw⟩)) outer s H := ⟨by first | exact e.frames | (simpa [Around.under, Code.envs, Code.isFrame, pushEnvs] using e.frames), e.mod, e.bs, e.bsz, e.funs, e.frf, e.hok, e.bare⟩
section
variable {X : Cx} {pins : List (Addr × Obj)} {σ : St} {H : Hp} {s s' : Shared}
/-- from a body: what a callee wants -/
theorem Inv.env0 (I : Inv X pins σ H s) : Env0 X.prog X.w X.K X.mg X.base X.A X.stack s H :=
  ⟨I.ok.frames, I.ok.mod, I.bs, Nat.le_trans I.ok.bsz I.sz, I.stack, I.stkFree, I.hok, I.bare⟩
/-- behind a call -/
theorem Inv.after {Q : VK} {u : Value} (I : Inv X pins σ H s) (h : CE X.stack X.prog X.w H s Q u s') : EP X pins σ Q u s' := by
  obtain ⟨v, H', os, bare, un, hok, r, q⟩ := h
  obtain ⟨hh, g, d, t, os'⟩ := s'
  obtain rfl : os' = s.os := os
  exact ⟨v, H', I.call (h' := hh) (g' := g) (d' := d) (t' := t) (ch := []) un hok bare (fun b z => absurd z (by simp)), r, q⟩
end

/-! ### calls -/
/-- f(..): the written arguments, then the defaults dvs; E: what is wanted of an exception -/
def tCall (sp : Sp) (dvs : List V) (E : XK) (t : TA) : TE := fun σ H Q => t σ H fun vs H1 => sp (vs ++ dvs) H1 Q E
/-- o.m(..) of an instance of the class at C -/
inductive MethR (C : Addr) (m : Str) (x : V) (H : Hp) (B : Prop) : Prop
  | mk (a dx : Addr) (fs : List (Str × V)) (h1 : x = .ref a) (h2 : H a = some (.ins C dx fs)) (h3 : fs.lookup m = none) (k : B) : MethR C m x H B
def tMeth (C : Addr) (m : Str) (sp : Sp) (dvs : List V) (E : XK) (ta : TE) (t : TA) : TE := fun σ H Q => ta σ H fun x H1 => MethR C m x H1 (t σ H1 fun vs H2 => sp (x :: (vs ++ dvs)) H2 Q E)
/-- C(..): a new instance and its dict, then __init__ -/
def tMake (C : Addr) (sp : Sp) (dvs : List V) (E : XK) (t : TA) : TE := fun σ H Q => t σ H fun vs H1 => ∀ x dx, H1 x = none → H1 dx = none → dx ≠ x →
  sp (.ref x :: (vs ++ dvs)) (upd (upd H1 dx (.own x)) x (.ins C dx [])) (fun v H2 => v = .non ∧ Q (.ref x) H2) E

/-- how the parameters are bound: us the positional arguments, kw the keywords' values by name, ds the defaults that fill up -/
def Binds (K : PySem.W.Frag) (fd : FuncData) (ps : List Str) (ds : List Value) : Prop :=
  ∀ (s : Shared) (us : List Value), K.In s.heap → (us ++ ds).length = ps.length → BindsTo s fd ⟨us, []⟩ (ps.zip (us ++ ds))
/-- every parameter is given -/
theorem Binds.all {K : PySem.W.Frag} {fd : FuncData} {ps : List Str} (h : ∀ us : List Value, us.length = ps.length → bindArgs fd ⟨us, []⟩ = pure (ps.zip us)) : Binds K fd ps [] := fun s us _ hl => by
  rw [List.append_nil] at hl ⊢
  exact .of_eq (h us hl)

/-- an exception of a callee reaches what this body wants of exceptions -/
def Passes (CX : CXT) (X : Cx) (E : XK) : Prop := ∀ (pins : List (Addr × Obj)) (σ : St) (H : Hp) (s : Shared) (e : Value) (s' : Shared), Inv X pins σ H s → CX X.stack H s E e s' → X.xe e s'

section
variable {X : Cx} {CX : CXT} {k : Nat} {f C : Addr} {fd : FuncData} {ps : List Str} {sp : Sp} {dvs : List V} {ds : List Value} {E : XK} {x m : Str} {p pos apos : Pos} {e o : Expr} {es : List Expr} {ta : TE} {t : TA}

/-- the callee runs -/
theorem run_fn {pins : List (Addr × Obj)} {σ : St} {H : Hp} {s : Shared} {Q : VK} {us : List Value} {vs : List V} (F : FnOk X.prog X.w X.K X.mg X.base CX k f fd ps sp) (hr : Room k X.A) (hb : Binds X.K fd ps ds) (hd : Vals dvs ds) (hx : Passes CX X E)
    (I : Inv X pins σ H s) (r : Vals vs us) (h : sp (vs ++ dvs) H Q E) : wpAny (model X.prog X.w) X.A (call (.ref f) us) (EP X pins σ Q) X.xe s := by
  have r2 : Vals (vs ++ dvs) (us ++ ds) := r.append hd
  have hl : (us ++ ds).length = ps.length := by rw [← r2.length]; exact F.len _ _ _ _ h
  refine wpAny_call (codeAny_mono (F.run X.A X.stack s H ⟨us, []⟩ (us ++ ds) (vs ++ dvs) Q E hr I.env0 (hb s us I.kIn hl) r2 h) fun r s' hq => ?_)
  cases r with
  | error e => exact hx pins σ H s e s' I hq
  | ok fl =>
    cases fl with
    | ret u => exact I.after hq
    | next => exact False.elim hq
    | brk => exact False.elim hq
    | cont => exact False.elim hq

theorem pe_call (F : FnOk X.prog X.w X.K X.mg X.base CX k f fd ps sp) (hr : Room k X.A) (hg : Gl X x) (hm : X.mg x = some (.ref f)) (hk : PySem.W.keepIn X.K (.ref f) = true) (hb : Binds X.K fd ps ds) (hd : Vals dvs ds) (hx : Passes CX X E)
    (ha : PA X (e :: es) t) (hdb : (x == ("__debug__" : Str)) = false := by decide) (he : starEach (e :: es) X.env = (false, eval e X.env) :: starEach es X.env := by rfl) (hpl : (backTo pos (starEach es X.env)).any (·.1) = false := by rfl) :
    PE X (.Call (.Name x p) (e :: es) [] pos) (tCall sp dvs E t) := by
  intro pins s σ H Q I h
  refine wpAny_Call_Name_kw (ld_glob I hg hm ?_ hdb)
  refine PySem.W.callWith_K (h₀ := X.base) I.ok.mod.kin hk (thn (ha pos pins s σ H _ I h) fun us s1 ⟨vs, H1, I1, r, q⟩ => ⟨I1.kIn, ?_⟩) he hpl
  exact run_fn F hr hb hd hx I1 r q
/-- o.m(e, ..) -/
theorem pe_meth {pl : Sem Bool} (he : PE X o ta) (c : Cls X.K C) (hm : Meth X.K C m f) (F : FnOk X.prog X.w X.K X.mg X.base CX k f fd ps sp) (hr : Room k X.A) (hb : Binds X.K fd ps ds) (hd : Vals dvs ds) (hx : Passes CX X E) (ha : PA X (e :: es) t)
    (hst : starEach (e :: es) X.env = (false, eval e X.env) :: starEach es X.env := by rfl) (hpl : (backTo pos (starEach es X.env)).any (·.1) = false := by rfl)
    (ht : eval (.Call (.Attribute o m apos) (e :: es) [] pos) X.env = (do
      let ov ← eval o X.env
      standAt apos.atName
      let (f, first) ← holding [ov] (getMethod ov m pl)
      callWith pos f first (backTo pos (starEach (e :: es) X.env)) (backToKw pos (keywordEach [] X.env))) := by rfl) :
    PE X (.Call (.Attribute o m apos) (e :: es) [] pos) (tMeth C m sp dvs E ta t) := by
  intro pins s σ H Q I h
  refine PySem.W.methodCall_KW (pl := pl) (thn (he pins s σ H _ I h) fun u s1 ⟨x, H1, I1, rx, a, dx, fs, ex, ea, l, q⟩ => ?_) ht
  subst ex
  obtain rfl : u = Value.ref a := rx
  refine getmeth_ok I1 ea c hm l ?_
  refine PySem.W.callWith_K (first := [.ref a]) (h₀ := X.base) I.ok.mod.kin hm.kp (thn (ha pos pins s1 σ H1 _ I1 q) fun us s2 ⟨vs, H2, I2, r, q2⟩ => ⟨I2.kIn, ?_⟩) hst hpl
  exact run_fn (us := .ref a :: us) (vs := .ref a :: vs) F hr hb hd hx I2 (.cons rfl r) q2
/-- o.m() -/
theorem pe_meth0 {pl : Sem Bool} (he : PE X o ta) (c : Cls X.K C) (hm : Meth X.K C m f) (F : FnOk X.prog X.w X.K X.mg X.base CX k f fd ps sp) (hr : Room k X.A) (hb : Binds X.K fd ps ds) (hd : Vals dvs ds) (hx : Passes CX X E)
    (ht : eval (.Call (.Attribute o m apos) [] [] pos) X.env = (do
      let ov ← eval o X.env
      standAt apos.atName
      let (f, first) ← holding [ov] (getMethod ov m pl)
      callWith pos f first (backTo pos (starEach [] X.env)) (backToKw pos (keywordEach [] X.env))) := by rfl) :
    PE X (.Call (.Attribute o m apos) [] [] pos) (tMeth C m sp dvs E ta tNil) := by
  intro pins s σ H Q I h
  refine PySem.W.methodCall_KW (pl := pl) (thn (he pins s σ H _ I h) fun u s1 ⟨x, H1, I1, rx, a, dx, fs, ex, ea, l, q⟩ => ?_) ht
  subst ex
  obtain rfl : u = Value.ref a := rx
  refine getmeth_ok I1 ea c hm l ?_
  exact PySem.W.callWith_K0 (first := [.ref a]) I1.kIn hm.kp (run_fn (us := [.ref a]) (vs := [.ref a]) F hr hb hd hx I1 (.cons rfl .nil) q)

/-- what a class must have to be made -/
structure Mk (K : PySem.W.Frag) (C f : Addr) : Prop where
  makes : PySem.W.makesIn K C = true
  init : PySem.W.findIn K (.ref C) "__init__" = some (some (.ref f))
  fn : PySem.W.isFn K (.ref f) = true
  kp : PySem.W.keepIn K (.ref C) = true

theorem run_make {pins : List (Addr × Obj)} {σ : St} {H : Hp} {s : Shared} {Q : VK} {us : List Value} {vs : List V} (M : Mk X.K C f) (F : FnOk X.prog X.w X.K X.mg X.base CX k f fd ps sp) (hr : Room (k + 1) X.A) (hb : Binds X.K fd ps ds) (hd : Vals dvs ds)
    (hx : Passes CX X E) (I : Inv X pins σ H s) (r : Vals vs us)
    (h : ∀ x dx, H x = none → H dx = none → dx ≠ x → sp (.ref x :: (vs ++ dvs)) (upd (upd H dx (.own x)) x (.ins C dx [])) (fun v H2 => v = .non ∧ Q (.ref x) H2) E) :
    wpAny (model X.prog X.w) X.A (call (.ref C) us) (EP X pins σ Q) X.xe s := by
  have hq := h (s.heap.objs.size + 1) s.heap.objs.size (I.hok.fresh (Nat.le_succ _)) (I.hok.fresh (Nat.le_refl _)) (Nat.ne_of_lt (Nat.lt_succ_self _))
  have I2 := Inv.made (C := C) I
  have r2 : Vals (V.ref (s.heap.objs.size + 1) :: (vs ++ dvs)) (Value.ref (s.heap.objs.size + 1) :: (us ++ ds)) := .cons rfl (r.append hd)
  have hl : (Value.ref (s.heap.objs.size + 1) :: us ++ ds).length = ps.length := by
    have e := r2.length
    rw [F.len _ _ _ _ hq] at e
    exact e.symm
  refine wpAny_call (make_map (f := f) I.kIn M.makes M.init (beq_iff_eq.mp M.fn) (codeAny_mono (F.run _ X.stack _ _ ⟨Value.ref (s.heap.objs.size + 1) :: us, []⟩ (Value.ref (s.heap.objs.size + 1) :: (us ++ ds)) _ _ E (hr.make C us [])
    (I2.env0.make C us []) (hb _ (Value.ref (s.heap.objs.size + 1) :: us) I2.kIn hl) r2 hq) fun r s' hq' => ?_))
  cases r with
  | error e => exact hx pins σ _ _ e s' I2 hq'
  | ok fl =>
    cases fl with
    | ret u =>
      obtain ⟨v, H', I3, rv, ev, q3⟩ := I2.after hq'
      subst ev
      exact ⟨rv, ⟨V.ref (s.heap.objs.size + 1), H', I3, rfl, q3⟩⟩
    | next => exact False.elim hq'
    | brk => exact False.elim hq'
    | cont => exact False.elim hq'
theorem pe_make (M : Mk X.K C f) (F : FnOk X.prog X.w X.K X.mg X.base CX k f fd ps sp) (hr : Room (k + 1) X.A) (hg : Gl X x) (hm : X.mg x = some (.ref C)) (hb : Binds X.K fd ps ds) (hd : Vals dvs ds) (hx : Passes CX X E)
    (ha : PA X (e :: es) t) (hdb : (x == ("__debug__" : Str)) = false := by decide) (he : starEach (e :: es) X.env = (false, eval e X.env) :: starEach es X.env := by rfl) (hpl : (backTo pos (starEach es X.env)).any (·.1) = false := by rfl) :
    PE X (.Call (.Name x p) (e :: es) [] pos) (tMake C sp dvs E t) := by
  intro pins s σ H Q I h
  refine wpAny_Call_Name_kw (ld_glob I hg hm ?_ hdb)
  refine PySem.W.callWith_K (h₀ := X.base) I.ok.mod.kin M.kp (thn (ha pos pins s σ H _ I h) fun us s1 ⟨vs, H1, I1, r, q⟩ => ⟨I1.kIn, ?_⟩) he hpl
  exact run_make M F hr hb hd hx I1 r q
end

/-! ### keywords -/
/-- the values of the keywords, from the left -/
def PK (X : Cx) (kws : List Keyword) (t : TA) : Prop :=
  ∀ (pos : Pos) (pins : List (Addr × Obj)) (s : Shared) (σ : St) (H : Hp) (Q : List V → Hp → Prop), Inv X pins σ H s → t σ H Q → wpAny (model X.prog X.w) X.A (evalAll ((backToKw pos (keywordEach kws X.env)).map (·.2))) (AP X pins σ Q) X.xe s
section
variable {X : Cx} {CX : CXT} {k : Nat} {f C : Addr} {fd : FuncData} {ps ks : List Str} {sp : Sp} {E : XK} {x m : Str} {p pos apos kpos : Pos} {e o : Expr} {es : List Expr} {kws : List Keyword} {te ta : TE} {t tk : TA} {nm : Option Str}
variable {g : List Value → List Value → List Value} {gV : List V → List V → List V}
end

/-! ### a def's body keeps its promise -/
/-- names: the parameters first -/
structure FnScope (N P : List Str) (sc : Scope) : Prop where
  kind : sc.kind = .function
  co : sc.isCoroutine = false
  gen : sc.isGenerator = false
  nd : N.Nodup
  pre : N.take P.length = P
  par : ∀ x ∈ P, sc.names.lookup x = some .local ∨ sc.names.lookup x = some .cell
  nofree : ∀ y ∈ sc.names, y.2 ≠ .free

theorem bindL_out {kindOf : Str → Option NameKind} {x : Str} : ∀ {binds : List (Str × Value)} {m : Str → Option Value}, (∀ v, (x, v) ∉ binds) → bindL kindOf binds m x = m x
  | [], _, _ => rfl
  | (n, v) :: r, m, h => by
    unfold bindL
    rw [bindL_out fun w hw => h w (List.mem_cons_of_mem _ hw)]
    split
    · have : x ≠ n := by rintro rfl; exact h v List.mem_cons_self
      simp [this]
    · rfl
theorem bindC_out {kindOf : Str → Option NameKind} {x : Str} : ∀ {binds : List (Str × Value)} {m : Str → Option Value}, (∀ v, (x, v) ∉ binds) → bindC kindOf binds m x = m x
  | [], _, _ => rfl
  | (n, v) :: r, m, h => by
    unfold bindC
    rw [bindC_out fun w hw => h w (List.mem_cons_of_mem _ hw)]
    split
    · rfl
    · have : x ≠ n := by rintro rfl; exact h v List.mem_cons_self
      simp [this]
theorem bindL_get {kindOf : Str → Option NameKind} {x : Str} {v : Value} : ∀ {P : List Str} {vs : List Value} {i : Nat} {m : Str → Option Value}, P.Nodup → P[i]? = some x → vs[i]? = some v → kindOf x = some .local →
    bindL kindOf (P.zip vs) m x = some v
  | [], _, _, _, _, h, _, _ => by simp at h
  | _ :: _, [], _, _, _, _, h, _ => by simp at h
  | p :: P, w :: vs, 0, m, nd, h1, h2, hk => by
    simp at h1 h2; subst h1; subst h2
    show bindL kindOf ((p, w) :: P.zip vs) m p = _
    unfold bindL
    rw [bindL_out fun v hv => (List.nodup_cons.mp nd).1 (List.of_mem_zip hv).1, if_pos hk]
    simp
  | p :: P, w :: vs, i + 1, m, nd, h1, h2, hk => by
    show bindL kindOf ((p, w) :: P.zip vs) m x = _
    unfold bindL
    exact bindL_get (i := i) (List.nodup_cons.mp nd).2 (by simpa using h1) (by simpa using h2) hk
theorem bindC_get {kindOf : Str → Option NameKind} {x : Str} {v : Value} : ∀ {P : List Str} {vs : List Value} {i : Nat} {m : Str → Option Value}, P.Nodup → P[i]? = some x → vs[i]? = some v → kindOf x ≠ some .local →
    bindC kindOf (P.zip vs) m x = some v
  | [], _, _, _, _, h, _, _ => by simp at h
  | _ :: _, [], _, _, _, _, h, _ => by simp at h
  | p :: P, w :: vs, 0, m, nd, h1, h2, hk => by
    simp at h1 h2; subst h1; subst h2
    show bindC kindOf ((p, w) :: P.zip vs) m p = _
    unfold bindC
    rw [bindC_out fun v hv => (List.nodup_cons.mp nd).1 (List.of_mem_zip hv).1, if_neg hk]
    simp
  | p :: P, w :: vs, i + 1, m, nd, h1, h2, hk => by
    show bindC kindOf ((p, w) :: P.zip vs) m x = _
    unfold bindC
    exact bindC_get (i := i) (List.nodup_cons.mp nd).2 (by simpa using h1) (by simpa using h2) hk

/-- the names' values at the entry -/
def start (N : List Str) (vs : List V) : St := vs.map some ++ List.replicate (N.length - vs.length) none

/-- the context of a def's body, at its entry; an exception leaves the frame, then lies as CX says -/
def cxOf (CX : CXT) (P : Program) (w : World) (K : PySem.W.Frag) (mg : Str → Option Value) (base : Heap) (N : List Str) (qual : Str) (scope : Scope) (f : Addr) (cd : Value) (A : Around) (outer : List Env) (s : Shared) (H : Hp) (E : XK) : Cx where
  prog := P
  w := w
  K := K
  mg := mg
  base := base
  A := A.deeper (envOfC qual scope s.heap.objs.size f cd)
  N := N
  s₀ := s
  H₀ := H
  env := envOfC qual scope s.heap.objs.size f cd
  outer := outer
  stack := envOfC qual scope s.heap.objs.size f cd :: outer
  ex := []
  calm := true
  fn := fun _ => true
  pn := []
  xe := fun e s' => wpAny (model P w) (A.deeper (envOfC qual scope s.heap.objs.size f cd)) (leaving (envOfC qual scope s.heap.objs.size f cd) e) (fun _ s'' => CX outer H s E e s'') (fun e' s'' => CX outer H s E e' s'') s'

theorem cell_has {sc : Scope} {n : Nat} {x : Str} (h : sc.names.lookup x = some .cell) : ∃ c, (cellsFrom n sc.names []).lookup x = some c := by
  have q := PySem.W.cellsFrom_some sc.names n [] (.inl h)
  exact Option.isSome_iff_exists.mp q

theorem inv_start {CX : CXT} {P : Program} {w : World} {K : PySem.W.Frag} {mg : Str → Option Value} {base : Heap} {N ps : List Str} {qual : Str} {scope : Scope} {f : Addr} {cd : Value} {A : Around} {outer : List Env} {s s1 : Shared} {H : Hp} {E : XK} {us : List Value} {vs : List V}
    (S : FnScope N ps scope) (hd : A.handled = none) (e0 : Env0 P w K mg base A outer s H) (hl : vs.length = ps.length) (r : Vals vs us)
    (x : InCallC s s.heap.objs.size (bindL (envOfC qual scope s.heap.objs.size f cd).kindOf (ps.zip us) fun _ => none) (cellsFrom (s.heap.objs.size + 1) scope.names []) (bindC (envOfC qual scope s.heap.objs.size f cd).kindOf (ps.zip us) fun _ => none) s1) :
    Inv (cxOf CX P w K mg base N qual scope f cd A outer s H E) [] (start N vs) H s1 := by
  have hpl : ps.length ≤ N.length := by have := congrArg List.length S.pre; rw [List.length_take] at this; omega
  obtain ⟨h1, tk, rfl, hk⟩ := x.done
  have noA : ∀ b : Addr, b ∉ (cxOf CX P w K mg base N qual scope f cd A outer s H E).ex := fun b z => absurd (show b ∈ ([] : List Addr) from z) (by simp)
  refine ⟨⟨e0.mod, S.kind, rfl, rfl, Nat.le_refl _, fun y z c h1 h2 => ?_, fun y hy => ?_, fun y c _ h => ?_, fun _ => hd, Around.frames_deeper e0.frames, .inr ⟨rfl, rfl⟩, fun b z => absurd z (noA b), e0.bs, e0.bsz, fun b _ _ => noA b, fun b z => absurd z (noA b), e0.funs, e0.frf⟩,
    rfl, e0.bare, Un.kept hk, ⟨_, x.toInCall.ns, fun i y v h1 h2 h3 => ?_⟩, fun y c h => ⟨_, x.cell y c h⟩, e0.hok.fresh (Nat.le_refl _), fun y c h => ?_, fun p hp => absurd (show p ∈ ([] : List (Addr × Obj)) from hp) (by simp), e0.hok.kept hk, ?_⟩
  · exact name_of_addr x.apart (PySem.mem_of_lookup h1) (PySem.mem_of_lookup h2)
  · have hy : scope.names.lookup y = some .cell ∨ scope.names.lookup y = some .free := hy
    rcases hy with hy | hy
    · exact cell_has hy
    · exact absurd rfl (S.nofree _ (PySem.mem_of_lookup hy))
  · exact Nat.le_of_lt (x.above y c (PySem.mem_of_lookup h))
  · have hi : i < vs.length := by
      unfold start at h2
      by_cases hi : i < vs.length
      · exact hi
      · rw [List.getElem?_append_right (by simpa using hi)] at h2
        rw [List.getElem?_replicate] at h2
        split at h2 <;> cases h2
    have ha : vs[i]? = some v := by
      unfold start at h2
      rw [List.getElem?_append_left (by simpa using hi), List.getElem?_map] at h2
      cases e : vs[i]? with
      | none => rw [e] at h2; cases h2
      | some a => rw [e] at h2; cases h2; rfl
    obtain ⟨u, hu, rv⟩ := r.get ha
    have hp : ps[i]? = some y := by
      rw [← S.pre, List.getElem?_take_of_lt (by omega)]; exact h1
    have ndP : ps.Nodup := by rw [← S.pre]; exact S.nd.sublist (List.take_sublist _ _)
    refine ⟨u, rv, ?_⟩
    rcases S.par y (List.mem_of_getElem? hp) with k | k
    · exact .inl ⟨k, bindL_get ndP hp hu k⟩
    · obtain ⟨c, e⟩ := cell_has (n := s.heap.objs.size + 1) k
      refine .inr ⟨.inl k, c, e, ?_⟩
      have q := x.cell y c e
      rw [bindC_get ndP hp hu (by show scope.names.lookup y ≠ _; rw [k]; decide)] at q
      exact q
  · exact e0.hok.fresh (Nat.le_of_lt (x.above y c (PySem.mem_of_lookup h)))
  · unfold start
    show _ = N.length
    rw [List.length_append, List.length_map, List.length_replicate]
    omega

/-- THE RULE: a def (or a method) of the text, by its body. The body's reading t is chosen for each entry; it is run at the parameters' values -/
theorem fn_of {CX : CXT} {P : Program} {w : World} {K : PySem.W.Frag} {mg : Str → Option Value} {base : Heap} {k : Nat} {f : Addr} {name qual : Str} {params : Arguments} {body : List Stmt} {scope : Scope} {dV kV doc pm cdv ct oc : Value} {an od : Option Addr}
    {osl : Array (Option Value)} {N ps : List Str} {sp : Sp} (lk : K.lookup f = some ⟨oc, od, .func (PySem.W.fnOf name qual params body scope dV kV doc pm an cdv ct), osl⟩) (hcd : PySem.W.codeIn K cdv qual = true) (S : FnScope N ps scope)
    (len : ∀ vs H Q E, sp vs H Q E → vs.length = ps.length)
    (hbody : ∀ (A : Around) (outer : List Env) (s : Shared) (H : Hp) (vs : List V) (Q : VK) (E : XK), Room k (A.deeper (envOfC qual scope s.heap.objs.size f cdv)) → sp vs H Q E →
      ∃ t, PSs (cxOf CX P w K mg base N qual scope f cdv A outer s H E) body t ∧ t { nx := fun _ H' => Q .non H', rt := Q } (start N vs) H) :
    FnOk P w K mg base CX (k + 1) f (PySem.W.fnOf name qual params body scope dV kV doc pm an cdv ct) ps sp := by
  refine ⟨len, fun A outer s H args us vs Q E hr e0 hb r hsp => ?_⟩
  have hl := len _ _ _ _ hsp
  have KX : K.In s.heap := e0.mod.kin.keeps fun b o e => (e0.bs b o e).1
  have lim : s.heap.NoLimit := e0.mod.nolimit.keeps fun b o e => (e0.bs b o e).1
  have hkind : ∀ y ∈ ps.zip us, scope.names.lookup y.1 = some .local ∨ (scope.names.lookup y.1 = some .cell ∧ ((cellsFrom (s.heap.objs.size + 1) scope.names []).lookup y.1).isSome = true) := fun ⟨n, v⟩ hy => by
    rcases S.par n (List.of_mem_zip hy).1 with q | q
    · exact .inl q
    · exact .inr ⟨q, PySem.W.cellsFrom_some _ _ _ (.inl q)⟩
  refine codeAny_call_function hr.depth (KX _ _ lk) rfl S.co S.gen rfl (PySem.W.codeRec_of KX hcd) (hb _ _ _ _ ?_)
  refine wpAny_newFunctionEnv_cells S.kind hkind fun env he s1 x => ?_
  subst he
  refine ⟨lim.keeps x.toInCall.keep, codeAny_func ?_⟩
  obtain ⟨t, ht, hq⟩ := hbody A outer s H vs Q E (hr.deeper _) hsp
  have I : Inv (cxOf CX P w K mg base N qual scope f cdv A outer s H E) [] (start N vs) H s1 := inv_start S hr.hd e0 hl r x
  refine wpAny_mono (ht [] s1 (start N vs) H _ I hq) (fun fl s' hs => ?_) fun e s' hs => hs
  have fin : ∀ {σ' : St} {H' : Hp} {v : V} {u : Value}, Inv (cxOf CX P w K mg base N qual scope f cdv A outer s H E) [] σ' H' s' → RelV v u → Q v H' → CE outer P w H s Q u s' :=
    fun {σ' H' v u} J rv q => ⟨v, H', J.os, J.bare, J.base, J.hok, rv, q⟩
  cases fl with
  | ret u =>
    obtain ⟨v, σ', H', J, rv, q⟩ := hs
    exact fin J rv q
  | next =>
    obtain ⟨σ', H', J, q⟩ := hs
    exact fin (v := V.non) (u := Value.none) J rfl q
  | brk =>
    obtain ⟨_, _, _, q⟩ := hs
    exact False.elim q
  | cont =>
    obtain ⟨_, _, _, q⟩ := hs
    exact False.elim q
end L2

namespace L2
open PySem PySem.Spec PyProof.Rows
section
variable {X : Cx} {x : Str} {p pos : Pos} {e : Expr} {es : List Expr} {t : TA} {id T : String} {r : List V → Hp → VK → Prop}

def tCB (r : List V → Hp → VK → Prop) (t : TA) : TE := fun σ H Q => t σ H fun vs H1 => r vs H1 Q
/-- f(e, ..), f a built-in function -/
theorem pe_callB (hc : CallR X (.builtin id) r) (hg : Gl X x) (hm : X.mg x = none) (hv : bootBuiltins x = some (.builtin id)) (ha : PA X (e :: es) t) (hn : x ≠ "__name__" := by decide) (hdb : (x == ("__debug__" : Str)) = false := by decide)
    (he : starEach (e :: es) X.env = (false, eval e X.env) :: starEach es X.env := by rfl) (hpl : (backTo pos (starEach es X.env)).any (·.1) = false := by rfl) : PE X (.Call (.Name x p) (e :: es) [] pos) (tCB r t) := by
  intro pins s σ H Q I h
  refine wpAny_Call_Name_kw (ld_blt I hg hm hv ?_ hn hdb)
  exact PyProof.Rows.callWith_builtin1 (thn (ha pos pins s σ H _ I h) fun us s1 ⟨vs, H1, I1, r1, q1⟩ => hc pins s1 σ H1 vs us Q I1 r1 q1) he hpl
/-- T(e, ..), T a built-in type -/
theorem pe_callTy (hc : CallR X (.type T) r) (hg : Gl X x) (hm : X.mg x = none) (hv : bootBuiltins x = some (.type T)) (ha : PA X (e :: es) t) (hn : x ≠ "__name__" := by decide) (hdb : (x == ("__debug__" : Str)) = false := by decide)
    (he : starEach (e :: es) X.env = (false, eval e X.env) :: starEach es X.env := by rfl) (hpl : (backTo pos (starEach es X.env)).any (·.1) = false := by rfl) : PE X (.Call (.Name x p) (e :: es) [] pos) (tCB r t) := by
  intro pins s σ H Q I h
  refine wpAny_Call_Name_kw (ld_blt I hg hm hv ?_ hn hdb)
  exact PyProof.Rows.callWith_type1 (thn (ha pos pins s σ H _ I h) fun us s1 ⟨vs, H1, I1, r1, q1⟩ => hc pins s1 σ H1 vs us Q I1 r1 q1) he hpl
end
end L2

namespace HT
open PySem PyProof.Rows

section
open PySem.SeqAt
open PySem.AutoSeq1 (wpAny_loadPart')
open PySem.MeetsSeq PySem.MeetsSeq2 PySem.MeetsSeq3

end

section
variable {prog : Program} {w : World} {A : Around} {E : Value → Shared → Prop} {s : Shared}

/-- t + u, t not empty -/
theorem cat_tup {t b : Addr} {vs ws : List Value} {Q : Value → Shared → Prop} (ht : IsTup s.heap t vs.toArray) (hb : IsTup s.heap b ws.toArray) (hv : vs ≠ [])
    (h1 : ws = [] → Q (.ref t) s) (h2 : ws ≠ [] → Q (.ref s.heap.objs.size) { s with heap := s.heap.push { cls := .type "tuple", data := .seq (vs ++ ws).toArray } })
    (hsz : vs.length + ws.length ≤ sizeLine) : wpAny (model prog w) A (binaryOp .Add (.ref t) (.ref b)) Q E s := by
  obtain ⟨⟨cls, dd, data, sl⟩, ho, hc, n, hd⟩ := id ht
  obtain ⟨⟨cls2, dd2, data2, sl2⟩, ho2, hc2, n2, hd2⟩ := id hb
  simp only at hc hd hc2 hd2
  subst hc hd hc2 hd2
  have e : vs.toArray ++ ws.toArray = (vs ++ ws).toArray := by simp
  by_cases hw : ws = []
  · exact concat_meets ⟨_, ho, rfl⟩ ⟨_, ho2, rfl⟩ noFill_tuple_add seq_tuple_add PySem.F.slot_tuple_add PySem.F.entry_tuple_add (PySem.F.args_tuple_add_2 _ _)
      (tuple_addW1 t b vs.toArray ws.toArray n n2 dd dd2 sl sl2 (by simpa using hv) (by simp [hw])) ⟨ho, ho2, h1 hw⟩
  · refine concat_meets ⟨_, ho, rfl⟩ ⟨_, ho2, rfl⟩ noFill_tuple_add seq_tuple_add PySem.F.slot_tuple_add PySem.F.entry_tuple_add (PySem.F.args_tuple_add_2 _ _)
      (tuple_addW2 t b vs.toArray ws.toArray n n2 dd dd2 sl sl2 (by simpa using hv) (by simpa using hw) (by rw [List.size_toArray, List.size_toArray]; exact hsz)) ⟨ho, ho2, ?_⟩
    rw [e]
    exact h2 hw

/-! ### t[a:b], not the whole -/
/-- a slice's bound as a place among n (d where it is left out) -/
def sIx (n d : Nat) : Option Int → Nat
  | none => d
  | some v => if v < 0 then (v + (n : Int)).toNat else min v.toNat n
theorem sIx_none (n d : Nat) : sIx n d none = d := rfl
theorem sIx_nat (n d k : Nat) : sIx n d (some (k : Int)) = min k n := by
  show (if (k : Int) < 0 then ((k : Int) + (n : Int)).toNat else min (k : Int).toNat n) = min k n
  rw [if_neg (by omega), Int.toNat_natCast]
theorem sIx_le (n d : Nat) (hd : d ≤ n) (o : Option Int) : sIx n d o ≤ n := by
  cases o with
  | none => exact hd
  | some v =>
    show (if v < 0 then (v + (n : Int)).toNat else min v.toNat n) ≤ n
    by_cases hv : v < 0
    · rw [if_pos hv]; omega
    · rw [if_neg hv]; exact Nat.min_le_right _ _
theorem clip_eq (v : Int) (n d : Nat) : (if v < 0 then max (v + (n : Int)) 0 else min v (n : Int)) = ((sIx n d (some v) : Nat) : Int) := by
  show (if v < 0 then max (v + (n : Int)) 0 else min v (n : Int)) = (((if v < 0 then (v + (n : Int)).toNat else min v.toNat n) : Nat) : Int)
  by_cases hv : v < 0
  · simp only [if_pos hv]; omega
  · simp only [if_neg hv]; omega
theorem adjust_gen (lo hi : Option Int) (n : Nat) : Builtin.Slice.sliceAdjust lo hi 1 (n : Int) = (((sIx n 0 lo : Nat) : Int), ((sIx n n hi : Nat) : Int)) := by
  have h1 : ¬ ((1 : Int) < 0) := by omega
  unfold Builtin.Slice.sliceAdjust
  simp only [h1, if_false]
  refine Prod.ext ?_ ?_
  · cases lo with
    | none => rfl
    | some v => exact clip_eq v n 0
  · cases hi with
    | none => rfl
    | some v => exact clip_eq v n n
theorem places_gen (i j : Nat) : Builtin.Slice.slicePlaces (i : Int) (j : Int) 1 = j - i := by
  unfold Builtin.Slice.slicePlaces
  have h1 : (1 : Int) > 0 := by omega
  simp only [h1, if_true, Int.ediv_one]
  split <;> omega
theorem slicePart_ {v : Value} {o : Option Int} {Q : Option Int → Shared → Prop} (p : IsPart v o) (h : Q o s) : wpAny (model prog w) A (Builtin.Slice.slicePartIndex v) Q E s := by
  cases p with
  | none => exact slicePart_none h
  | int i t => exact slicePart_int h
theorem sliceApplied_gen {sl : Addr} {vl vu : Value} {lo hi : Option Int} {n : Nat} {Q : Int × Int × Nat → Shared → Prop} (hs : s.heap.IsSliceOf sl vl vu .none) (pl : IsPart vl lo) (pu : IsPart vu hi)
    (h : Q (((sIx n 0 lo : Nat) : Int), 1, sIx n n hi - sIx n 0 lo) s) : wpAny (model prog w) A (Builtin.Slice.sliceApplied (.ref sl) (pure (n : Int))) Q E s := by
  obtain ⟨os, hos, hcs, hds⟩ := id hs
  unfold Builtin.Slice.sliceApplied Builtin.Slice.sliceFields
  refine wpAny_bind (wpAny_bind (wpAny_field hos hds (x := vl) rfl (wpAny_bind (wpAny_field hos hds (x := vu) rfl (wpAny_bind (wpAny_field hos hds (x := .none) rfl (wpAny_pure ?_)))))))
  refine wpAny_bind (slicePart_none ?_)
  show wpAny _ _ (if ((1 : Int) == 0) = true then _ else _) _ _ s
  rw [if_neg (by decide)]
  refine wpAny_bind (slicePart_ pl (wpAny_bind (slicePart_ pu (wpAny_bind (wpAny_pure ?_)))))
  show wpAny _ _ (match Builtin.Slice.sliceAdjust lo hi 1 (n : Int) with | (lo, hi) => pure (lo, (1 : Int), Builtin.Slice.slicePlaces lo hi 1)) _ _ s
  rw [adjust_gen lo hi n]
  show wpAny _ _ (pure (((sIx n 0 lo : Nat) : Int), (1 : Int), Builtin.Slice.slicePlaces ((sIx n 0 lo : Nat) : Int) ((sIx n n hi : Nat) : Int) 1)) _ _ s
  rw [places_gen]
  exact wpAny_pure h
theorem pick_gen (xs : Array Value) (i k : Nat) : ((List.range k).filterMap fun (m : Nat) => xs[((i : Int) + (m : Int) * 1).toNat]?).toArray = ((xs.toList.drop i).take k).toArray := by
  have e : (fun (m : Nat) => xs[((i : Int) + (m : Int) * 1).toNat]?) = fun m => xs[i + m]? := by
    funext m
    have : ((i : Int) + (m : Int) * 1).toNat = i + m := by omega
    rw [this]
  rw [e]
  have := pick_run xs i k
  rw [List.filterMap_map] at this
  have e2 : ((fun x => xs[x]?) ∘ fun x => i + x) = fun m => xs[i + m]? := rfl
  rw [e2] at this
  rw [this]

theorem getItem_tuple_cut {t sl : Addr} {items : Array Value} {vl vu : Value} {lo hi : Option Int} {Q : Value → Shared → Prop} (ht : IsTup s.heap t items) (hs : s.heap.IsSliceOf sl vl vu .none) (pl : IsPart vl lo) (pu : IsPart vu hi)
    (hw : ¬ (sIx items.size 0 lo = 0 ∧ sIx items.size items.size hi = items.size))
    (h : Q (.ref s.heap.objs.size) { s with heap := s.heap.push { cls := .type "tuple", data := .seq ((items.toList.drop (sIx items.size 0 lo)).take (sIx items.size items.size hi - sIx items.size 0 lo)).toArray } })
    (hsz : items.size ≤ sizeLine) : wpAny (model prog w) A (getItem (.ref t) (.ref sl)) Q E s := by
  have htake : sizeOk (.seq ((items.toList.drop (sIx items.size 0 lo)).take (sIx items.size items.size hi - sIx items.size 0 lo)).toArray) := by
    show ((items.toList.drop (sIx items.size 0 lo)).take (sIx items.size items.size hi - sIx items.size 0 lo)).toArray.size ≤ sizeLine
    rw [List.size_toArray, List.length_take, List.length_drop, Array.length_toList]
    omega
  have hj : sIx items.size items.size hi ≤ items.size := sIx_le _ _ (Nat.le_refl _) hi
  obtain ⟨os, hos, hcs, hds⟩ := id hs
  have hTs : s.TypeIs (.ref sl) "slice" := ⟨os, hos, hcs⟩
  unfold getItem
  try with_reducible refine wpAny_holding ?_
  first | refine wpAny_bind (wpAny_pure ?_) | skip
  refine wpAny_bind (wpAny_sequenceKey ht.typeIs (by decide) ?_)
  refine wpAny_bind (wpAny_callSpecial?_slot (name := Str.ofString "__getitem__") ht.typeIs PyProof.Rows.slot_tuple_getitem
    (wpAny_call_entry PyProof.Rows.slot_tuple_getitem ht.typeIs entry_tuple_getitem ?_ (args_tuple_getitem _ _)))
  show wpAny _ _ (Builtin.Tuple.tupleItemsOf (.ref t) >>= _) _ _ s
  refine wpAny_bind (tupleItemsOf_ ht ?_)
  refine wpAny_bind (wpAny_typeOf hTs ?_)
  rw [if_pos (by decide)]
  refine wpAny_bind (sliceApplied_gen hs pl pu ?_)
  have hno : ¬ ((((sIx items.size 0 lo : Nat) : Int) == 0 && (1 : Int) == 1 && (sIx items.size items.size hi - sIx items.size 0 lo) == items.size) = true) := by
    intro q
    rw [Bool.and_eq_true, Bool.and_eq_true] at q
    have q1 : ((sIx items.size 0 lo : Nat) : Int) = 0 := eq_of_beq q.1.1
    have q2 : sIx items.size items.size hi - sIx items.size 0 lo = items.size := eq_of_beq q.2
    exact hw ⟨by omega, by omega⟩
  show wpAny _ _ (if (((sIx items.size 0 lo : Nat) : Int) == 0 && (1 : Int) == 1 && (sIx items.size items.size hi - sIx items.size 0 lo) == items.size) = true then _ else _) _ _ s
  rw [if_neg hno, pick_gen]
  first
    | exact wpAny_bind (m := Builtin.Tuple.tupleExact _) (wpAny_newObj_type (wpAny_pure ⟨_, rfl, wpAny_pure h⟩) htake)
    | exact wpAny_bind (m := Builtin.Tuple.tupleExact _) (wpAny_newObj_type (wpAny_bind (wpAny_pure (wpAny_pure ⟨_, rfl, wpAny_pure h⟩))) htake)
    | exact wpAny_bind (wpAny_bind (m := Builtin.Tuple.tupleExact _) (wpAny_newObj_type (wpAny_pure (wpAny_pure ⟨_, rfl, wpAny_pure h⟩)) htake))
    | exact wpAny_bind (wpAny_bind (m := Builtin.Tuple.tupleExact _) (wpAny_newObj_type (wpAny_pure ⟨_, rfl, wpAny_pure h⟩) htake))
end
end HT

namespace L2
open PySem PySem.Spec PyProof.Rows

/-! ### the parts of a slice -/
abbrev TO := St → Hp → (Option Int → Hp → Prop) → Prop
/-- a slice's part (left out, or an int) -/
def PO (X : Cx) (e : Option Expr) (t : TO) : Prop :=
  ∀ (pins : List (Addr × Obj)) (s : Shared) (σ : St) (H : Hp) (Q : Option Int → Hp → Prop), Inv X pins σ H s → t σ H Q →
    wpAny (model X.prog X.w) X.A (evalPart e X.env) (fun u s' => ∃ o H', Inv X pins σ H' s' ∧ IsPart u o ∧ Q o H') X.xe s
def tNoPart : TO := fun _ H Q => Q none H
inductive PartR (x : V) (H : Hp) (Q : Option Int → Hp → Prop) : Prop
  | mk (i : Int) (h : x = .int i) (k : Q (some i) H) : PartR x H Q
def tPart (t : TE) : TO := fun σ H Q => t σ H fun x H1 => PartR x H1 Q

theorem intsAre_of {ns : List Int} : ∀ {us : List Value}, Vals (ns.map V.int) us → IntsAre us ns := by
  induction ns with
  | nil => intro us r; rw [List.map_nil] at r; cases r; exact .nil
  | cons n ns ih =>
    intro us r
    rw [List.map_cons] at r
    cases r with
    | cons r1 r2 =>
      obtain ⟨t, e⟩ := r1
      subst e
      exact .cons n t (ih r2)

section
variable {X : Cx} {e : Expr} {te : TE} {lo hi : Option Expr} {tl th : TO} {pos p2 : Pos}

theorem po_none : PO X none tNoPart := by
  intro pins s σ H Q I h
  rw [evalPart_none]
  exact wpAny_pure ⟨none, H, I, .none, h⟩
theorem po_some (h : PE X e te) : PO X (some e) (tPart te) := by
  intro pins s σ H Q I hw
  rw [evalPart_some]
  refine thn (h pins s σ H _ I hw) fun u s1 ⟨x, H1, I1, r1, q1⟩ => ?_
  obtain ⟨i, rfl, q⟩ := q1
  obtain ⟨t, rfl⟩ := r1
  exact ⟨some i, H1, I1, .int i t, q⟩

/-- what a slice of a value is, by values: the slice object stands at sl -/
def SlR (X : Cx) (r : V → Option Int → Option Int → Hp → VK → Prop) : Prop :=
  ∀ (pins : List (Addr × Obj)) (s : Shared) (σ : St) (H : Hp) (x : V) (v vl vu : Value) (lo hi : Option Int) (sl : Addr) (Q : VK), Inv X pins σ H s → RelV x v → s.heap.IsSliceOf sl vl vu .none → IsPart vl lo → IsPart vu hi → r x lo hi H Q →
    ∃ T id, typeLookup (.type T) "__getitem__" = pure (some (.builtin id)) ∧ s.TypeIs v T ∧ wpAny (model X.prog X.w) X.A (getItem v (.ref sl)) (EP X pins σ Q) X.xe s
def tSl (r : V → Option Int → Option Int → Hp → VK → Prop) (te : TE) (tl th : TO) : TE := fun σ H Q => te σ H fun x H1 => tl σ H1 fun l H2 => th σ H2 fun u H3 => r x l u H3 Q
/-- a[lo:hi], any a -/
theorem pe_slice {r : V → Option Int → Option Int → Hp → VK → Prop} (hr : SlR X r) (he : PE X e te) (hl : PO X lo tl) (hu : PO X hi th) : PE X (.Subscript e (.Slice lo hi none p2) pos) (tSl r te tl th) := by
  intro pins s σ H Q I h
  refine Subscript_ (thn (he pins s σ H _ I h) fun v s1 ⟨x, H1, I1, r1, q1⟩ => ?_)
  refine wpAny_Slice (thn (hl pins s1 σ H1 _ I1 q1) fun vl s2 ⟨l, H2, I2, pl, q2⟩ => thn (hu pins s2 σ H2 _ I2 q2) fun vu s3 ⟨u, H3, I3, pu, q3⟩ => ?_)
  rw [evalPart_none]
  refine wpAny_pure ?_
  have I4 : Inv X pins σ H3 { s3 with heap := s3.heap.push { cls := .type "slice", data := .fields #[vl, vu, .none] } } := I3.kept (t' := s3.toks) fun b ob q => Heap.get?_push_of_some _ q
  obtain ⟨T, id, hT, ht, hg⟩ := hr pins { s3 with heap := s3.heap.push { cls := .type "slice", data := .fields #[vl, vu, .none] } } σ H3 x v vl vu l u s3.heap.objs.size Q I4 r1 (Heap.IsSliceOf.new ..) pl pu q3
  show wpAny (model X.prog X.w) X.A (subscriptTail e (.Slice lo hi none p2) v (.ref s3.heap.objs.size)) (EP X pins σ Q) X.xe { s3 with heap := s3.heap.push { cls := .type "slice", data := .fields #[vl, vu, .none] } }
  exact tail_any (ops := [.ref s3.heap.objs.size, v]) ht hT hg (by with_unfolding_all rfl)

/-- the items of xs[lo:hi] -/
def cutV (xs : List V) (lo hi : Option Int) : List V := (xs.drop (HT.sIx xs.length 0 lo)).take (HT.sIx xs.length xs.length hi - HT.sIx xs.length 0 lo)
theorem cutV_length (xs : List V) (lo hi : Option Int) : (cutV xs lo hi).length ≤ xs.length := by
  unfold cutV
  rw [List.length_take, List.length_drop]
  omega
/-- t[lo:hi], not the whole of it (the whole would be t itself) -/
inductive rSlT_R (K : PySem.W.Frag) (x : V) (lo : Option Int) (hi : Option Int) (H : Hp) (Q : VK) : Prop
  | mk (a : _) (xs : _) (h0 : x = .ref a) (h1 : SqT K H a xs) (h2 : ¬ (HT.sIx xs.length 0 lo = 0 ∧ HT.sIx xs.length xs.length hi = xs.length)) (h3 : ∀ p, H p = none → Q (.ref p) (upd H p (.tup (cutV xs lo hi)))) : rSlT_R K x lo hi H Q
def rSlT (K : PySem.W.Frag) : V → Option Int → Option Int → Hp → VK → Prop := fun x lo hi H Q => rSlT_R K x lo hi H Q
theorem sl_tup : SlR X (rSlT X.K) := by
  intro pins s σ H x v vl vu lo hi sl Q I rx hs pl pu h
  obtain ⟨a, xs, rfl, hx, hw, q⟩ := h
  cases rx
  obtain ⟨its, r, ht, hz⟩ := I.tuple hx
  have hlen : its.toArray.size = xs.length := by rw [List.size_toArray]; exact r.length.symm
  refine ⟨"tuple", _, PyProof.Rows.slot_tuple_getitem.lookup, ht.typeIs, ?_⟩
  refine HT.getItem_tuple_cut ht hs pl pu (by rw [hlen]; exact hw) ?_ (by rw [hlen]; exact hz)
  rw [hlen]
  refine ⟨.ref s.heap.objs.size, _, I.laid (t' := s.toks) (o := .tup (cutV xs lo hi)) (fun b ob q => Heap.get?_push_of_some _ q) (Nat.le_refl _) ?_, rfl, q _ (I.hok.fresh (Nat.le_refl _))⟩
  exact ⟨Nat.le_trans (cutV_length xs lo hi) hz, _, (r.drop (HT.sIx xs.length 0 lo)).take (HT.sIx xs.length xs.length hi - HT.sIx xs.length 0 lo), IsTup.new _ _⟩

/-! ### t < u, t + u -/
/-- t + u, t not empty: u empty gives t itself -/
inductive rCatT_R (K : PySem.W.Frag) (x : V) (y : V) (H : Hp) (Q : VK) : Prop
  | mk (a : _) (b : _) (xs : _) (ys : _) (h0 : x = .ref a) (h1 : y = .ref b) (h2 : SqT K H a xs) (h3 : SqT K H b ys) (h4 : xs ≠ []) (h5 : xs.length + ys.length ≤ sizeLine) (h6 : (ys = [] → Q (.ref a) H)) (h7 : (ys ≠ [] → ∀ p, H p = none → Q (.ref p) (upd H p (.tup (xs ++ ys))))) : rCatT_R K x y H Q
def rCatT (K : PySem.W.Frag) : R2 := fun x y H Q => rCatT_R K x y H Q
theorem Vals.nil_iff {xs : List V} {us : List Value} (r : Vals xs us) : us = [] ↔ xs = [] := by
  cases r with
  | nil => simp
  | cons _ _ => simp
theorem op_catT : OpR X (binaryOp .Add) (rCatT X.K) := by
  intro pins s σ H x y v u Q I rx ry h
  obtain ⟨a, b, xs, ys, rfl, rfl, ha, hb, hx, hz, q1, q2⟩ := h
  cases rx
  cases ry
  obtain ⟨its, r1, p1, _⟩ := I.tuple ha
  obtain ⟨its2, r2, p2, _⟩ := I.tuple hb
  refine HT.cat_tup p1 p2 (fun z => hx (r1.nil_iff.mp z)) (fun z => ⟨.ref a, H, I, rfl, q1 (r2.nil_iff.mp z)⟩) (fun z => ?_) (by rw [← r1.length, ← r2.length]; exact hz)
  refine ⟨.ref s.heap.objs.size, _, I.laid (t' := s.toks) (o := .tup (xs ++ ys)) (fun b ob q => Heap.get?_push_of_some _ q) (Nat.le_refl _) ?_, rfl, q2 (fun w => z (r2.nil_iff.mpr w)) _ (I.hok.fresh (Nat.le_refl _))⟩
  exact ⟨by rw [List.length_append]; exact hz, _, r1.append r2, IsTup.new _ _⟩
end
end L2

namespace L2
open PySem PySem.Spec PyProof.Rows

/-! ### places -/
/-- the place that an index of any sign means -/
def ixN (n : Nat) (i : Int) : Option Nat := if 0 ≤ i then (if i < n then some i.toNat else none) else if -(n : Int) ≤ i then some (i + n).toNat else none
def atI {α : Type} (xs : List α) (i : Int) : Option α := (ixN xs.length i).bind fun j => xs[j]?
theorem ixN_seq {n : Nat} {i : Int} {j : Nat} (h : ixN n i = some j) : seqIndex? i n = some j ∧ j < n ∧ -(n : Int) ≤ i ∧ i < n := by
  unfold ixN at h
  by_cases h0 : 0 ≤ i
  · rw [if_pos h0] at h
    by_cases h1 : i < n
    · rw [if_pos h1] at h
      have e : i.toNat = j := Option.some.inj h
      exact ⟨by rw [seqIndex_of h0 h1, e], by omega, by omega, h1⟩
    · rw [if_neg h1] at h; cases h
  · rw [if_neg h0] at h
    by_cases h1 : -(n : Int) ≤ i
    · rw [if_pos h1] at h
      have e : (i + n).toNat = j := Option.some.inj h
      exact ⟨by rw [seqIndex_neg (by omega) h1, e], by omega, h1, by omega⟩
    · rw [if_neg h1] at h; cases h
theorem atI_get {α : Type} {xs : List α} {i : Int} {v : α} (h : atI xs i = some v) : ∃ j, seqIndex? i xs.length = some j ∧ xs[j]? = some v ∧ j < xs.length ∧ -(xs.length : Int) ≤ i ∧ i < xs.length := by
  unfold atI at h
  cases e : ixN xs.length i with
  | none => rw [e] at h; cases h
  | some j =>
    rw [e] at h
    obtain ⟨h1, h2, h3, h4⟩ := ixN_seq e
    exact ⟨j, h1, h, h2, h3, h4⟩
theorem atI_nat {α : Type} {xs : List α} {j : Nat} {v : α} (h : xs[j]? = some v) : atI xs (j : Int) = some v := by
  have hj : j < xs.length := (List.getElem?_eq_some_iff.mp h).1
  have e : ixN xs.length (j : Int) = some j := by
    unfold ixN
    rw [if_pos (by omega), if_pos (by omega)]; simp
  unfold atI; rw [e]; exact h
/-! ### what may be subscripted -/
/-- what stands as an index of a plain subscript -/
def PlainIx (b : Expr) : Prop := ∀ o i, subscripted b false o i = operate [o, i] (getItem o i)
/-- a subscript by values -/
def IxR (X : Cx) (r : R2) : Prop :=
  ∀ (value slice : Expr) (pins : List (Addr × Obj)) (s : Shared) (σ : St) (H : Hp) (x y : V) (v u : Value) (Q : VK), Inv X pins σ H s → RelV x v → RelV y u → r x y H Q →
    subscripted slice false v u = operate [v, u] (getItem v u) → wpAny (model X.prog X.w) X.A (subscriptTail value slice v u) (EP X pins σ Q) X.xe s
/-- a call of a builtin's method by values: the receiver, the arguments -/
def MtR (X : Cx) (id : String) (r : V → List V → Hp → VK → Prop) : Prop :=
  ∀ (pins : List (Addr × Obj)) (s : Shared) (σ : St) (H : Hp) (x : V) (xs : List V) (v : Value) (us : List Value) (Q : VK), Inv X pins σ H s → RelV x v → Vals xs us → r x xs H Q →
    wpAny (model X.prog X.w) X.A (call (.builtin id) (v :: us)) (EP X pins σ Q) X.xe s
section
variable {X : Cx} {a b : Expr} {ta tb : TE} {pos : Pos}
/-- a[b] -/
theorem pe_ix {r : R2} (hr : IxR X r) (ha : PE X a ta) (hb : PE X b tb) (hs : PlainIx b) : PE X (.Subscript a b pos) (tOp r ta tb) := by
  intro pins s σ H Q I h
  exact Subscript_ (binT ha hb I h fun v u s2 x y H2 I2 rx ry q => hr a b pins s2 σ H2 x y v u Q I2 rx ry q (hs _ _))

inductive rIxL_R (K : PySem.W.Frag) (x : V) (y : V) (H : Hp) (Q : VK) : Prop
  | mk (p : _) (xs : _) (i : _) (v : _) (h0 : x = .ref p) (h1 : y = .int i) (h2 : SqL K H p xs) (h3 : atI xs i = some v) (h4 : Q v H) : rIxL_R K x y H Q
def rIxL (K : PySem.W.Frag) : R2 := fun x y H Q => rIxL_R K x y H Q
inductive rIxT_R (K : PySem.W.Frag) (x : V) (y : V) (H : Hp) (Q : VK) : Prop
  | mk (p : _) (xs : _) (i : _) (v : _) (h0 : x = .ref p) (h1 : y = .int i) (h2 : SqT K H p xs) (h3 : atI xs i = some v) (h4 : Q v H) : rIxT_R K x y H Q
def rIxT (K : PySem.W.Frag) : R2 := fun x y H Q => rIxT_R K x y H Q
theorem ix_list : IxR X (rIxL X.K) := by
  intro value slice pins s σ H x y v u Q I rx ry h hs
  obtain ⟨p, xs, i, z, rfl, rfl, hq, he, q⟩ := h
  cases rx
  obtain ⟨t, rfl⟩ := ry
  obtain ⟨its, r, pl, hz⟩ := I.list hq
  obtain ⟨j, h1, h2, h3, h4, h5⟩ := atI_get he
  obtain ⟨w, ew, rw'⟩ := r.get h2
  have hl := r.length
  have hn := line63
  have fin : EP X pins σ Q w s := ⟨z, H, I, rw', q⟩
  by_cases h0 : 0 ≤ i
  · have hj : i.toNat = j := by
      rw [seqIndex_of h0 h5] at h1
      exact Option.some.inj h1
    exact item_listR pl.isList h0 (by omega) (by rw [hj]; simpa using ew) fin hs
  · have hj : (i + (its.toArray.size : Int)).toNat = j := by
      rw [seqIndex_neg (by omega) h4] at h1
      rw [List.size_toArray, ← hl]
      exact Option.some.inj h1
    exact subscriptTail_builtinR (x := w) pl.isList.typeIs slot_list_getitem.lookup
      (wpAny_getItem_list_neg (Q := fun r s' => r = w ∧ EP X pins σ Q r s') pl.isList (by omega) (by rw [List.size_toArray] <;> omega) (by omega) (by rw [hj]; simpa using ew) ⟨rfl, fin⟩) hs
theorem ix_tup : IxR X (rIxT X.K) := by
  intro value slice pins s σ H x y v u Q I rx ry h hs
  obtain ⟨p, xs, i, z, rfl, rfl, hq, he, q⟩ := h
  cases rx
  obtain ⟨t, rfl⟩ := ry
  obtain ⟨its, r, pl, hz⟩ := I.tuple hq
  obtain ⟨j, h1, h2, h3, h4, h5⟩ := atI_get he
  obtain ⟨w, ew, rw'⟩ := r.get h2
  have hl := r.length
  have hn := line63
  have fin : EP X pins σ Q w s := ⟨z, H, I, rw', q⟩
  exact subscriptTail_builtinR (x := w) pl.typeIs slot_tuple_getitem.lookup
    (getItem_tuple (j := j) (Q := fun r s' => r = w ∧ EP X pins σ Q r s') pl (by omega) (by omega) (by rw [List.size_toArray, ← hl]; exact h1) (by simpa using ew) ⟨rfl, fin⟩) hs
/-! ### xs[i] = v, any sign -/
/-! ### slices -/
theorem slice_bounds (lo hi : Option Int) (n : Nat) : (sliceBounds lo hi none n).1 = ((HT.sIx n 0 lo : Nat) : Int) ∧ (sliceBounds lo hi none n).2.1 = ((HT.sIx n n hi : Nat) : Int) ∧ (sliceBounds lo hi none n).2.2 = 1 := by
  refine ⟨?_, ?_, rfl⟩
  · cases lo with
    | none => simp [sliceBounds, HT.sIx]
    | some i =>
      simp only [sliceBounds, HT.sIx, Option.getD_none, show (1 : Int) > 0 by decide, if_true]
      by_cases h : i < 0
      · simp only [h, if_true] <;> omega
      · simp only [h, if_false] <;> omega
  · cases hi with
    | none => simp [sliceBounds, HT.sIx]
    | some i =>
      simp only [sliceBounds, HT.sIx, Option.getD_none, show (1 : Int) > 0 by decide, if_true]
      by_cases h : i < 0
      · simp only [h, if_true] <;> omega
      · simp only [h, if_false] <;> omega
theorem slicePick_cut (its : List Value) (lo hi : Option Int) : slicePick its.toArray lo hi none = ((its.drop (HT.sIx its.length 0 lo)).take (HT.sIx its.length its.length hi - HT.sIx its.length 0 lo)).toArray := by
  obtain ⟨h1, h2, h3⟩ := slice_bounds lo hi its.toArray.size
  unfold slicePick
  rw [h1, h2, h3]
  simp only [sliceRange_one, pick_run, List.size_toArray] <;> rfl
/-- xs[lo:hi] of a list: a new list -/
inductive rSlL_R (K : PySem.W.Frag) (x : V) (lo : Option Int) (hi : Option Int) (H : Hp) (Q : VK) : Prop
  | mk (a : _) (xs : _) (h0 : x = .ref a) (h1 : SqL K H a xs) (h2 : ∀ p, H p = none → Q (.ref p) (upd H p (.lst (cutV xs lo hi)))) : rSlL_R K x lo hi H Q
def rSlL (K : PySem.W.Frag) : V → Option Int → Option Int → Hp → VK → Prop := fun x lo hi H Q => rSlL_R K x lo hi H Q
theorem sl_list : SlR X (rSlL X.K) := by
  intro pins s σ H x v vl vu lo hi sl Q I rx hs pl pu h
  obtain ⟨a, xs, rfl, hx, q⟩ := h
  cases rx
  obtain ⟨its, r, ht, hz⟩ := I.list hx
  have hlen := r.length
  refine ⟨"list", _, slot_list_getitem.lookup, ht.isList.typeIs, ?_⟩
  refine wpAny_getItem_list_slice ht.isList hs pl pu .none (by simp) ?_ (by rw [List.size_toArray] <;> omega)
  rw [slicePick_cut, ← hlen]
  refine ⟨.ref s.heap.objs.size, _, I.laid (t' := s.toks) (o := .lst (cutV xs lo hi)) (fun b ob q => Heap.get?_push_of_some _ q) (Nat.le_refl _) ?_, rfl, q _ (I.hok.fresh (Nat.le_refl _))⟩
  exact ⟨Nat.le_trans (cutV_length xs lo hi) hz, _, 0, (r.drop (HT.sIx xs.length 0 lo)).take (HT.sIx xs.length xs.length hi - HT.sIx xs.length 0 lo), Heap.get?_push_size _ rfl⟩

/-! ### in, not in: flat items -/
def flatV : V → Bool
  | .non => true
  | .bl _ => true
  | .int _ => true
  | .str _ => true
  | _ => false
/-- == of flat values -/
def eqV : V → V → Bool
  | .non, .non => true
  | .bl a, .bl b => a == b
  | .bl a, .int b => (if a then 1 else 0) == b
  | .int a, .bl b => a == (if b then 1 else 0)
  | .int a, .int b => a == b
  | .str a, .str b => a == b
  | _, _ => false
theorem eqAt_V {A : Around} {s : Shared} {y x : V} {u v : Value} (ry : RelV y u) (rx : RelV x v) (fy : flatV y = true) (fx : flatV x = true) : SeqAt.EqAt A s u v (eqV y x) := by
  cases y with
  | non =>
    cases ry
    cases x with
    | non => cases rx; exact SeqAt.EqAt.same _
    | bl b => cases rx; exact SeqAt.EqAt.none_bool b
    | int b => obtain ⟨t, rfl⟩ := rx; exact SeqAt.EqAt.none_int b t
    | str b => obtain ⟨t, rfl⟩ := rx; exact SeqAt.EqAt.none_str b t
    | _ => exact absurd (show false = true from fx) Bool.false_ne_true
  | bl a =>
    cases ry
    cases x with
    | non => cases rx; exact SeqAt.EqAt.bool_none a
    | bl b => cases rx; exact SeqAt.EqAt.bool_bool a b
    | int b => obtain ⟨t, rfl⟩ := rx; exact SeqAt.EqAt.bool_int a b t
    | str b => obtain ⟨t, rfl⟩ := rx; exact SeqAt.EqAt.bool_str a b t
    | _ => exact absurd (show false = true from fx) Bool.false_ne_true
  | int a =>
    obtain ⟨t', rfl⟩ := ry
    cases x with
    | non => cases rx; exact SeqAt.EqAt.int_none a t'
    | bl b => cases rx; exact SeqAt.EqAt.int_bool a t' b
    | int b => obtain ⟨t, rfl⟩ := rx; exact SeqAt.EqAt.int_int a t' b t
    | str b => obtain ⟨t, rfl⟩ := rx; exact SeqAt.EqAt.int_str a t' b t
    | _ => exact absurd (show false = true from fx) Bool.false_ne_true
  | str a =>
    obtain ⟨t', rfl⟩ := ry
    cases x with
    | non => cases rx; exact SeqAt.EqAt.str_none a t'
    | bl b => cases rx; exact SeqAt.EqAt.str_bool a t' b
    | int b => obtain ⟨t, rfl⟩ := rx; exact SeqAt.EqAt.str_int a t' b t
    | str b => obtain ⟨t, rfl⟩ := rx; exact SeqAt.EqAt.str_str a t' b t
    | _ => exact absurd (show false = true from fx) Bool.false_ne_true
  | _ => exact absurd (show false = true from fy) Bool.false_ne_true
/-- the items' answers, read off the values (a value's own answer does not lean on its token) -/
def eqU (x : V) (u : Value) : Bool := match u with
  | .none => eqV .non x
  | .bool b => eqV (.bl b) x
  | .int i _ => eqV (.int i) x
  | .str z _ => eqV (.str z) x
  | _ => false
theorem eqU_of {x y : V} {u : Value} (r : RelV y u) (f : flatV y = true) : eqU x u = eqV y x := by
  cases y with
  | non => cases r; rfl
  | bl b => cases r; rfl
  | int i => obtain ⟨t, rfl⟩ := r; rfl
  | str z => obtain ⟨t, rfl⟩ := r; rfl
  | _ => exact absurd (show false = true from f) Bool.false_ne_true
theorem any_eqU {x : V} : ∀ {xs : List V} {us : List Value}, Vals xs us → xs.all flatV = true → us.any (eqU x) = xs.any fun y => eqV y x
  | _, _, .nil, _ => rfl
  | y :: xs, u :: us, .cons r t, f => by
    rw [List.all_cons, Bool.and_eq_true] at f
    rw [List.any_cons, List.any_cons, eqU_of r f.1, any_eqU t f.2]
theorem mem_eqAt {A : Around} {s : Shared} {x : V} {v : Value} (rx : RelV x v) (fx : flatV x = true) : ∀ {xs : List V} {us : List Value}, Vals xs us → xs.all flatV = true → ∀ u ∈ us, SeqAt.EqAt A s u v (eqU x u)
  | _, _, .nil, _ => fun u hu => by cases hu
  | y :: xs, u :: us, .cons r t, f => fun u' hu => by
    rw [List.all_cons, Bool.and_eq_true] at f
    rcases List.mem_cons.mp hu with rfl | hu
    · rw [eqU_of r f.1]; exact eqAt_V r rx f.1 fx
    · exact mem_eqAt rx fx t f.2 u' hu
def inV (x : V) (xs : List V) : Bool := xs.any fun y => eqV y x
/-- x in a list or tuple of flat items -/
inductive rIn_R (K : PySem.W.Frag) (neg : Bool) (x : V) (y : V) (H : Hp) (Q : VK) : Prop
  | mk (p : _) (xs : _) (h0 : y = .ref p) (h1 : (SqL K H p xs ∨ SqT K H p xs)) (h2 : flatV x = true) (h3 : xs.all flatV = true) (h4 : Q (.bl (if neg then !inV x xs else inV x xs)) H) : rIn_R K neg x y H Q
def rIn (K : PySem.W.Frag) (neg : Bool) : R2 := fun x y H Q => rIn_R K neg x y H Q
theorem op_in_seq : OpR X (compareOp .In) (rIn X.K false) := by
  intro pins s σ H x y v u Q I rx ry h
  obtain ⟨p, xs, rfl, hq, fx, fs, q⟩ := h
  cases ry
  rcases hq with hq | hq
  · obtain ⟨its, r, pl, hz⟩ := I.list hq
    refine SeqAt.in_listAt (eqU x) pl.isList (fun w hw => mem_eqAt rx fx r fs w (by simpa using hw)) ⟨.bl _, H, I, rfl, ?_⟩
    rw [show its.toArray.any (eqU x) = its.any (eqU x) by simp, any_eqU r fs]
    exact q
  · obtain ⟨its, r, pl, hz⟩ := I.tuple hq
    refine SeqAt.in_tupleAt (eqU x) pl (fun w hw => mem_eqAt rx fx r fs w (by simpa using hw)) ⟨.bl _, H, I, rfl, ?_⟩
    rw [show its.toArray.any (eqU x) = its.any (eqU x) by simp, any_eqU r fs]
    exact q
theorem op_notIn_seq : OpR X (compareOp .NotIn) (rIn X.K true) := by
  intro pins s σ H x y v u Q I rx ry h
  obtain ⟨p, xs, rfl, hq, fx, fs, q⟩ := h
  cases ry
  rcases hq with hq | hq
  · obtain ⟨its, r, pl, hz⟩ := I.list hq
    refine SeqAt.notIn_listAt (eqU x) pl.isList (fun w hw => mem_eqAt rx fx r fs w (by simpa using hw)) ⟨.bl _, H, I, rfl, ?_⟩
    rw [show its.toArray.any (eqU x) = its.any (eqU x) by simp, any_eqU r fs]
    exact q
  · obtain ⟨its, r, pl, hz⟩ := I.tuple hq
    refine SeqAt.notIn_tupleAt (eqU x) pl (fun w hw => mem_eqAt rx fx r fs w (by simpa using hw)) ⟨.bl _, H, I, rfl, ?_⟩
    rw [show its.toArray.any (eqU x) = its.any (eqU x) by simp, any_eqU r fs]
    exact q
/-! ### len, list(x), tuple(x) of any list or tuple that is read -/
theorem call_len_seq : CallR X (.builtin "len") (fun xs H Q => ∃ p ys, xs = [.ref p] ∧ (SqL X.K H p ys ∨ SqT X.K H p ys) ∧ Q (.int ys.length) H) := by
  intro pins s σ H xs us Q I r h
  obtain ⟨p, ys, rfl, hq, q⟩ := h
  obtain ⟨u, rfl, rx⟩ := vals1 r
  cases rx
  have hn := line63
  rcases hq with hq | hq
  · obtain ⟨its, r', pl, hz⟩ := I.list hq
    have hlen := r'.length
    exact Calls.call_len_list pl.isList (by simp only [List.size_toArray] <;> omega) ⟨.int ys.length, H, I.tok _, ⟨s.toks + 1, by rw [List.size_toArray, hlen]⟩, q⟩
  · obtain ⟨its, r', pl, hz⟩ := I.tuple hq
    have hlen := r'.length
    exact len_tuple pl (by simp only [List.size_toArray] <;> omega) ⟨.int ys.length, H, I.tok _, ⟨s.toks + 1, by rw [List.size_toArray, hlen]⟩, q⟩
theorem call_len_str : CallR X (.builtin "len") (fun xs H Q => ∃ z, xs = [.str z] ∧ z.length ≤ sizeLine ∧ Q (.int z.length) H) := by
  intro pins s σ H xs us Q I r h
  obtain ⟨z, rfl, hz, q⟩ := h
  obtain ⟨u, rfl, t, rfl⟩ := vals1 r
  have hn := line63
  exact len_str (by omega) ⟨.int z.length, H, I.tok _, ⟨_, rfl⟩, q⟩
theorem CallR.or {f : Value} {r r' : List V → Hp → VK → Prop} (h : CallR X f r) (h' : CallR X f r') : CallR X f (fun xs H Q => r xs H Q ∨ r' xs H Q) := by
  intro pins s σ H xs us Q I rs q
  rcases q with q | q
  · exact h pins s σ H xs us Q I rs q
  · exact h' pins s σ H xs us Q I rs q
theorem call_list_of : CallR X (.type "list") (fun xs H Q => ∃ p ys, xs = [.ref p] ∧ (SqL X.K H p ys ∨ SqT X.K H p ys) ∧ ∀ l, H l = none → Q (.ref l) (upd H l (.lst ys))) := by
  intro pins s σ H xs us Q I r h
  obtain ⟨p, ys, rfl, hq, q⟩ := h
  obtain ⟨u, rfl, rx⟩ := vals1 r
  cases rx
  have fin : ∀ (its : List Value), Vals ys its → ys.length ≤ sizeLine → ∀ (h' : Heap) (c' : Nat), (∀ b o', s.heap.get? b = some o' → h'.get? b = some o') →
      h'.get? s.heap.objs.size = some { cls := .type "list", dict := none, data := .seq its.toArray c', slots := #[] } → EP X pins σ Q (.ref s.heap.objs.size) { s with heap := h' } := fun its r' hz h' c' kp e =>
    ⟨.ref s.heap.objs.size, _, I.laid (t' := s.toks) kp (Nat.le_refl _) (show ObjOk X.prog X.w _ h' _ (.lst ys) from ⟨hz, its, c', r', e⟩), rfl, q _ (I.hok.fresh (Nat.le_refl _))⟩
  rcases hq with hq | hq
  · obtain ⟨its, r', pl, hz⟩ := I.list hq
    have hlen := r'.length
    obtain ⟨o, ho, hc, n, hd⟩ := pl.isList
    exact call_list_seq p (.inl rfl) ho hc hd (fun h' c' kp e => fin its r' hz h' c' kp e) (by simp only [List.size_toArray] <;> omega)
  · obtain ⟨its, r', pl, hz⟩ := I.tuple hq
    have hlen := r'.length
    obtain ⟨o, ho, hc, n, hd⟩ := pl
    exact call_list_seq p (.inr rfl) ho hc hd (fun h' c' kp e => fin its r' hz h' c' kp e) (by simp only [List.size_toArray] <;> omega)
theorem call_tuple_of : CallR X (.type "tuple") (fun xs H Q => ∃ p ys, xs = [.ref p] ∧ ((SqL X.K H p ys ∧ ∀ l, H l = none → Q (.ref l) (upd H l (.tup ys))) ∨ (SqT X.K H p ys ∧ Q (.ref p) H))) := by
  intro pins s σ H xs us Q I r h
  obtain ⟨p, ys, rfl, h⟩ := h
  obtain ⟨u, rfl, rx⟩ := vals1 r
  cases rx
  rcases h with ⟨hq, q⟩ | ⟨hq, q⟩
  · obtain ⟨its, r', pl, hz⟩ := I.list hq
    have hlen := r'.length
    refine call_tuple_list pl.isList (fun h' kp => ?_) (by simp only [List.size_toArray] <;> omega)
    have I1 : Inv X pins σ H { s with heap := h' } := I.kept (t' := s.toks) kp
    have I2 : Inv X pins σ (upd H h'.objs.size (.tup ys)) { s with heap := h'.push { cls := .type "tuple", data := .seq its.toArray } } :=
      I1.laid (t' := s.toks) (fun b o e => Heap.get?_push_of_some _ e) (Nat.le_refl _) (show ObjOk X.prog X.w _ _ _ (.tup ys) from ⟨hz, its, r', IsTup.new _ _⟩)
    exact ⟨.ref h'.objs.size, _, I2, rfl, q _ (I1.hok.fresh (Nat.le_refl _))⟩
  · obtain ⟨its, r', pl, hz⟩ := I.tuple hq
    exact call_tuple_same pl ⟨.ref p, H, I, rfl, q⟩

/-! ### the call of a builtin's method: o.m(..) -/
/-- the value is of that builtin type -/
def tyV (K : PySem.W.Frag) (T : String) (x : V) (H : Hp) : Prop := match x with
  | .str _ => T = "str"
  | .int _ => T = "int"
  | .ref p => (T = "list" ∧ ∃ xs, SqL K H p xs) ∨ (T = "tuple" ∧ ∃ o, K.lookup p = some o ∧ o.cls = .type "tuple" ∧ o.dict = none) ∨
      (T = "dict" ∧ ((∃ kvs, H p = some (.dK kvs)) ∨ ∃ kvs, H p = some (.dT kvs))) ∨ (T = "set" ∧ ∃ S n, H p = some (.set S n))
  | _ => False
theorem tyV_is {pins : List (Addr × Obj)} {σ : St} {H : Hp} {s : Shared} {T : String} {x : V} {v : Value} (I : Inv X pins σ H s) (r : RelV x v) (ty : tyV X.K T x H) :
    s.TypeIs v T ∧ ∀ a, v = .ref a → ∃ ob, s.heap.get? a = some ob ∧ ob.dict = none := by
  cases x with
  | str z =>
    obtain ⟨t, rfl⟩ := r
    cases (show T = "str" from ty)
    exact ⟨typeIs_str s z t, fun _ e => nomatch e⟩
  | int i =>
    obtain ⟨t, rfl⟩ := r
    cases (show T = "int" from ty)
    exact ⟨typeIs_int s i t, fun _ e => nomatch e⟩
  | ref p =>
    cases r
    rcases ty with ⟨rfl, xs, hq⟩ | ⟨rfl, o, hk, hc, hd⟩ | ⟨rfl, hk⟩ | ⟨rfl, S, n, hk⟩
    · obtain ⟨its, _, pl, _⟩ := I.list hq
      refine ⟨pl.isList.typeIs, fun a e => ?_⟩
      cases e
      obtain ⟨o, n, e, c, hd, _⟩ := pl
      exact ⟨o, e, hd⟩
    · refine ⟨⟨o, I.kIn p o hk, hc⟩, fun a e => ?_⟩
      cases e
      exact ⟨o, I.kIn _ o hk, hd⟩
    · have z : ∃ o, s.heap.get? p = some o ∧ o.ExactDict := by
        rcases hk with ⟨kvs, hk⟩ | ⟨kvs, hk⟩
        · obtain ⟨_, _, _, _, o, _, _, e, ex, _⟩ := I.hok p _ hk
          exact ⟨o, e, ex⟩
        · obtain ⟨_, _, _, _, o, _, _, e, ex, _⟩ := I.hok p _ hk
          exact ⟨o, e, ex⟩
      obtain ⟨o, e, ex⟩ := z
      refine ⟨⟨o, e, ex.1⟩, fun a e2 => ?_⟩
      cases e2
      exact ⟨o, e, ex.2.1⟩
    · obtain ⟨o, _, _, _, e, ex, _⟩ := I.hok p _ hk
      refine ⟨⟨o, e, ex.1⟩, fun a e2 => ?_⟩
      cases e2
      exact ⟨o, e, ex.2.1⟩
  | _ => exact False.elim ty
def tBM (K : PySem.W.Frag) (T : String) (r : V → List V → Hp → VK → Prop) (to : TE) (t : TA) : TE := fun σ H Q => to σ H fun x H1 => tyV K T x H1 ∧ t σ H1 fun xs H2 => r x xs H2 Q
variable {o e : Expr} {es : List Expr} {to : TE} {t : TA} {name : Str} {apos cpos : Pos} {T id : String} {r : V → List V → Hp → VK → Prop}
theorem pe_bm (pa : PlainAttrs T) (slot : Slot T name id) (hty : typeOf (.builtin id) = pure (.type "method_descriptor")) (hm : MtR X id r) (ho : PE X o to) (ha : PA X (e :: es) t)
    (hbase : attributeBase o name X.env (eval o X.env) = eval o X.env := by rfl)
    (hfew : ((backTo cpos (starEach (e :: es) X.env)).all (fun x => !x.1) && (backToKw cpos (keywordEach [] X.env)).all (fun x => x.1.isSome)
      && decide ((e :: es).length + ([] : List Keyword).length + (if ([] : List Keyword).isEmpty then 0 else 1) < 30)) = true := by rfl)
    (hline : (apos.endLine == cpos.line) = true := by rfl) (hs : starEach (e :: es) X.env = (false, eval e X.env) :: starEach es X.env := by rfl) (hplain : (backTo cpos (starEach es X.env)).any (·.1) = false := by rfl) :
    PE X (.Call (.Attribute o name apos) (e :: es) [] cpos) (tBM X.K T r to t) := by
  intro pins s σ H Q I h
  refine wpAny_Call_method_late hbase hfew hline rfl (thn (ho pins s σ H _ I h) fun v s1 ⟨x, H1, I1, r1, ty, q1⟩ => ?_)
  obtain ⟨h1, h2⟩ := tyV_is I1 r1 ty
  refine ⟨T, id, pa, slot, hty, h1, h2, ?_⟩
  have hA := ha cpos pins s1 σ H1 _ I1 q1
  rw [hs] at hA ⊢
  refine Calls.callWith_builtin (by show (false || (backTo cpos (starEach es X.env)).any (·.1)) = false; rw [hplain] <;> rfl) (Calls.evalArgs_plain ?_)
  exact thn hA fun us s2 ⟨vs, H2, I2, r2, q2⟩ => hm pins s2 σ H2 x vs v us Q I2 r1 r2 q2
/- xs.append(e), list.index on a module's tuple .. are MtR facts of 06m -/
end
end L2

namespace L2
open PySem PySem.Spec PyProof.Rows

def MtM (X : Cx) (id : String) (r : V → List V → Hp → VK → Prop) : Prop :=
  ∀ (pins : List (Addr × Obj)) (s : Shared) (σ : St) (H : Hp) (x : V) (xs : List V) (v : Value) (us : List Value) (Q : VK), Inv X pins σ H s → RelV x v → Vals xs us → r x xs H Q →
    wpAny (model X.prog X.w) X.A (call (.builtin id) (v :: us)) (EP X pins σ Q) X.xe s

/-! ### lists of values -/
theorem Vals.one : ∀ {x : V} {us : List Value}, Vals [x] us → ∃ u, us = [u] ∧ RelV x u
  | _, _, .cons r .nil => ⟨_, rfl, r⟩
theorem Vals.dropLast {xs : List V} {us : List Value} (h : Vals xs us) : Vals xs.dropLast us.dropLast := by
  induction h with
  | nil => exact .nil
  | cons r t ih =>
    cases t with
    | nil => exact .nil
    | cons q t' => exact .cons r ih
theorem Vals.eraseIdx : ∀ {xs : List V} {us : List Value} (i : Nat), Vals xs us → Vals (xs.eraseIdx i) (us.eraseIdx i)
  | _, _, _, .nil => .nil
  | _, _, 0, .cons _ t => t
  | _, _, i + 1, .cons r t => .cons r (Vals.eraseIdx i t)
theorem Vals.reverse {xs : List V} {us : List Value} (h : Vals xs us) : Vals xs.reverse us.reverse := by
  induction h with
  | nil => exact .nil
  | cons r t ih => rw [List.reverse_cons, List.reverse_cons]; exact Vals.append ih (.cons r .nil)
theorem len_erase {α : Type} : ∀ (l : List α) (i : Nat), (l.eraseIdx i).length ≤ l.length
  | [], _ => Nat.le_refl _
  | _ :: _, 0 => Nat.le_succ _
  | _ :: r, i + 1 => Nat.succ_le_succ (len_erase r i)
section
variable {X : Cx} {pins : List (Addr × Obj)} {σ : St} {H : Hp} {s : Shared} {l b : Addr} {xs ys zs : List V}

/-! ### the two steps: a tracked list is rewritten, a new list is laid -/
theorem Inv.lset {its its' : List Value} {n : Nat} {f : Array Value → Array Value} {t' : Nat} (I : Inv X pins σ H s) (hH : H l = some (.lst xs))
    (e : s.heap.get? l = some { cls := .type "list", data := .seq its.toArray n }) (hf : f its.toArray = its'.toArray) (hv : Vals ys its') (hz : ys.length ≤ sizeLine) :
    Inv X pins σ (upd H l (.lst ys)) { s with heap := s.heap.update l (Obj.mapSeq f), toks := t' } := by
  have q := PySem.IsL.update e f
  rw [hf] at q
  refine I.write (x := l) (e := l) (by rw [hH]; exact trivial) (.inl rfl) (fun b' u hb hu => (Heap.get?_update_other s.heap (Obj.mapSeq f) (Ne.symm hb)).trans hu) ⟨_, q⟩ ?_
  exact ⟨hz, its', _, hv, q⟩
theorem Inv.lnew {its : List Value} {t' : Nat} (I : Inv X pins σ H s) (hv : Vals ys its) (hz : ys.length ≤ sizeLine) :
    Inv X pins σ (upd H s.heap.objs.size (.lst ys)) { s with heap := s.heap.push { cls := .type "list", data := .seq its.toArray }, toks := t' } :=
  I.laid (fun _ _ q => Heap.get?_push_of_some _ q) (Nat.le_refl _) ⟨hz, its, 0, hv, Heap.get?_push_size _ rfl⟩
theorem Inv.fresh (I : Inv X pins σ H s) : H s.heap.objs.size = none := I.hok.fresh (Nat.le_refl _)
theorem Inv.lstM (I : Inv X pins σ H s) (hH : H l = some (.lst xs)) : xs.length ≤ sizeLine ∧ ∃ (its : List Value) (n : Nat), Vals xs its ∧ xs.length = its.length ∧ s.heap.get? l = some { cls := .type "list", data := .seq its.toArray n } := by
  obtain ⟨z, its, n, r, e⟩ := I.hok l _ hH
  exact ⟨z, its, n, r, r.length, e⟩

theorem notLongL {n : Nat} (h : n ≤ sizeLine) : Builtin.List.listTooLong n = false := by
  unfold Builtin.List.listTooLong
  exact decide_eq_false (by omega)
end

section
variable {X : Cx}

/-! ### methods -/
inductive rAppend_R (x : V) (vs : List V) (H : Hp) (Q : VK) : Prop
  | mk (l : _) (xs : _) (y : _) (h0 : x = .ref l) (h1 : vs = [y]) (h2 : H l = some (.lst xs)) (h3 : xs.length < sizeLine) (h4 : Q .non (upd H l (.lst (xs ++ [y])))) : rAppend_R x vs H Q
def rAppend : V → List V → Hp → VK → Prop := fun x vs H Q => rAppend_R x vs H Q
theorem mt_append : MtM X "list.append" rAppend := by
  intro pins s σ H x vs v us Q I rx rv h
  obtain ⟨l, xs, y, rfl, rfl, hH, hz, q⟩ := h
  cases rx
  obtain ⟨u, rfl, ru⟩ := rv.one
  obtain ⟨z, its, n, r, hl, e⟩ := I.lstM hH
  refine call_meets F.slot_list_append ⟨_, e, rfl⟩ F.entry_list_append (F.args_list_append_2 _ _) (PySem.list_append l its.toArray n u (by rw [List.size_toArray]; omega)) ⟨e, ?_⟩
  refine ⟨.non, _, I.lset (its' := its ++ [u]) hH e (by simp) (r.append (.cons ru .nil)) ?_, rfl, q⟩
  rw [List.length_append, List.length_singleton]
  omega

inductive rExtend_R (x : V) (vs : List V) (H : Hp) (Q : VK) : Prop
  | mk (l : _) (b : _) (xs : _) (zs : _) (h0 : x = .ref l) (h1 : vs = [.ref b]) (h2 : H l = some (.lst xs)) (h3 : H b = some (.lst zs)) (h4 : xs.length + zs.length ≤ sizeLine) (h5 : Q .non (upd H l (.lst (xs ++ zs)))) : rExtend_R x vs H Q
def rExtend : V → List V → Hp → VK → Prop := fun x vs H Q => rExtend_R x vs H Q
theorem mt_extend : MtM X "list.extend" rExtend := by
  intro pins s σ H x vs v us Q I rx rv h
  obtain ⟨l, b, xs, zs, rfl, rfl, hH, hB, hz, q⟩ := h
  cases rx
  obtain ⟨u, rfl, ru⟩ := rv.one
  cases ru
  obtain ⟨z, its, n, r, hl, e⟩ := I.lstM hH
  obtain ⟨z2, its2, n2, r2, hl2, e2⟩ := I.lstM hB
  have hsz : its.toArray.size + its2.toArray.size ≤ sizeLine := by rw [List.size_toArray, List.size_toArray]; omega
  have hlong : ¬ (!its.toArray.isEmpty && Builtin.List.listTooLong (its.toArray.size + its2.toArray.size)) = true := by
    rw [notLongL hsz, Bool.and_false]
    exact Bool.false_ne_true
  refine call_meets F.slot_list_extend ⟨_, e, rfl⟩ F.entry_list_extend (F.args_list_extend_2 _ _)
    (AutoSeq1.list_extend_list_list_0 l its.toArray n b its2.toArray n2 hlong (by rw [List.size_toArray]; omega) (by omega)) ⟨e, e2, ?_⟩
  refine ⟨.non, _, I.lset (its' := its ++ its2) hH e (by simp) (r.append r2) ?_, rfl, q⟩
  rw [List.length_append]
  omega

inductive rPopAt_R (x : V) (vs : List V) (H : Hp) (Q : VK) : Prop
  | mk (l : _) (xs : _) (i : _) (k : _) (y : _) (h0 : x = .ref l) (h1 : vs = [.int i]) (h2 : H l = some (.lst xs)) (h3 : -(2 ^ 63) ≤ i) (h4 : i < 2 ^ 63) (h5 : seqIndex? i xs.length = some k) (h6 : xs[k]? = some y) (h7 : Q y (upd H l (.lst (xs.eraseIdx k)))) : rPopAt_R x vs H Q
def rPopAt : V → List V → Hp → VK → Prop := fun x vs H Q => rPopAt_R x vs H Q
theorem mt_popAt : MtM X "list.pop" rPopAt := by
  intro pins s σ H x vs v us Q I rx rv h
  obtain ⟨l, xs, i, k, y, rfl, rfl, hH, h1, h2, hk, hy, q⟩ := h
  cases rx
  obtain ⟨u, rfl, ru⟩ := rv.one
  obtain ⟨t, rfl⟩ := ru
  obtain ⟨z, its, n, r, hl, e⟩ := I.lstM hH
  obtain ⟨w, hw, rw'⟩ := r.get hy
  refine call_meets F.slot_list_pop ⟨_, e, rfl⟩ F.entry_list_pop (F.args_list_pop_2 _ _)
    (MeetsSeq.list_pop_at l its.toArray n i t k w (fitsIndex_both h1 h2) (by rw [List.size_toArray, ← hl]; exact hk) (by rw [← Array.getElem?_toList]; exact hw) (by rw [List.size_toArray]; omega)) ⟨e, ?_⟩
  refine ⟨y, _, I.lset (its' := its.eraseIdx k) hH e ?_ (r.eraseIdx k) ?_, rw', q⟩
  · show its.toArray.eraseIdxIfInBounds k = (its.eraseIdx k).toArray
    rw [List.eraseIdxIfInBounds_toArray]
  · have := len_erase xs k
    omega

/-! ### list + list, list += list, list * int -/
inductive rCat_R (x : V) (y : V) (H : Hp) (Q : VK) : Prop
  | mk (l : _) (b : _) (xs : _) (zs : _) (h0 : x = .ref l) (h1 : y = .ref b) (h2 : H l = some (.lst xs)) (h3 : H b = some (.lst zs)) (h4 : xs.length + zs.length ≤ sizeLine) (h5 : ∀ p, H p = none → Q (.ref p) (upd H p (.lst (xs ++ zs)))) : rCat_R x y H Q
def rCat : R2 := fun x y H Q => rCat_R x y H Q
theorem op_cat : OpR X (binaryOp .Add) rCat := by
  intro pins s σ H x y v u Q I rx ry h
  obtain ⟨l, b, xs, zs, rfl, rfl, hH, hB, hz, q⟩ := h
  cases rx
  cases ry
  obtain ⟨z, its, n, r, hl, e⟩ := I.lstM hH
  obtain ⟨z2, its2, n2, r2, hl2, e2⟩ := I.lstM hB
  refine PySem.P.add_list e e2 ?_ (by rw [List.size_toArray, List.size_toArray]; omega)
  have ea : its.toArray ++ its2.toArray = (its ++ its2).toArray := by simp
  rw [ea]
  exact ⟨.ref _, _, I.lnew (t' := s.toks) (r.append r2) (by rw [List.length_append]; omega), rfl, q _ I.fresh⟩
/-! ### del xs[i] -/
end

/-! ### xs[a:b] = ys -/
section
variable {prog : Program} {w : World} {A : Around} {E : Value → Shared → Prop} {s : Shared}
set_option maxRecDepth 100000 in
end

section
variable {X : Cx}
end
end L2

namespace Att
open PySem PySem.W PySem.Calls PyProof.Rows

/-! ### the script -/
theorem ints_of_wellAll {P : Params} {h : Heap} : ∀ (ns : List Int) (vs : List Value), WellAll P h vs (ns.map WData.int) → IntsAre vs ns := by
  intro ns
  induction ns with
  | nil =>
    intro vs w
    rw [List.map_nil] at w
    cases w
    exact .nil
  | cons n ns ih =>
    intro vs w
    rw [List.map_cons] at w
    cases w with
    | cons a b =>
      cases a
      exact .cons _ _ (ih _ b)

theorem script_of {l : OpenLaw} {n : Nat} (hn : l.most = some n) {P : Params} {h : Heap} {args : List WData} {vals : List Value}
    (hpre : l.row.toRowW.claim.pre args = true) (hwl : WellAll P h vals args) :
    ∃ a vs ns, vals = [Value.ref a] ∧ args = [WData.list (ns.map WData.int)] ∧ h.get? a = some { cls := .type "list", data := .seq vs.toArray } ∧ IntsAre vs ns ∧ ns.length ≤ n := by
  have hsh : WShape.hasAll [] args [.list .int] = true := (pre_splitW hpre).1
  have hc : l.pre.holds [] { args := args } = true := (pre_splitW hpre).2
  obtain ⟨d, r, rfl, h1, h2⟩ := hasAllW_cons hsh
  obtain rfl := hasAllW_nil h2
  obtain ⟨xs, rfl, h3⟩ := hasW_list h1
  obtain ⟨ns, rfl⟩ := items_int h3
  have hlen : ns.length ≤ n := by
    unfold OpenLaw.pre at hc
    have h4 : (WTm.not (.lt (.lit (.int (n : Int))) (.len (.arg 0)))).holds [] { args := [.list (ns.map .int)] } = true := by
      have h4 := (holds_andW hc).1
      rw [hn] at h4
      exact h4
    have h5 := condW_of h4 (w_not (w_lt w_lit (w_len_list (w_arg rfl))))
    rw [List.length_map] at h5
    refine Nat.le_of_not_lt fun q => ?_
    have q' : (n : Int) < ((ns.length : Nat) : Int) := by omega
    first
      | (rw [decide_eq_true q'] at h5; exact absurd h5 (by decide))
      | (simp at h5; omega)
  cases hwl with
  | cons w1 w2 =>
    cases w2
    cases w1 with
    | list ho hall => exact ⟨_, _, ns, rfl, rfl, ho, ints_of_wellAll ns _ hall, hlen⟩

theorem post_true (l : OpenLaw) (args : List WData) : l.row.toRowW.claim.post args (.bool true) args = true :=
  postW_of (r := l.row.toRowW) (X := (true == true))
    (show WShape.has [] (.bool true) .bool = true by first | rfl | decide | simp [WShape.has, WShape.arms, WShape.armsAll])
    (show (WTm.eq .res (.lit (.bool true))).value [] { args := args, res := some (.bool true), after := args } = some (.bool (true == true)) from w_eq_bool (w_res rfl) w_lit) rfl

/-! ### the attachment: holds_open's last premise (the goal 'hc' behind k_head) from a wpAny of the law's body -/
/-- the same from a codeAny of the CALL (for a layer whose function contracts speak of calls) -/
theorem attach_call {l : OpenLaw} {n : Nat} {q : Program} {loose : List Str} {XP : (Str → Option Value) → Heap → Prop} {YP : World → Heap → Prop} {d : DefRec}
    (hn : l.most = some n) (hdf : d.params.defaults = [])
    (call : ∀ (w : World) (s₀ s₁ : Shared) (mg mb : Str → Option Value) (fa : Addr) (o : Obj) (pm cd doc : Value) (a : Addr) (vs : List Value) (ns : List Int),
      Ground q loose [] XP w s₀ mg mb s₁.heap → YP w s₁.heap →
      s₁.heap.get? fa = some o → o.data = .func (docDef d.name d.params d.body d.scope pm cd doc) → s₁.heap.CodeRec cd d.name → mg d.name = some (.ref fa) →
      s₁.heap.get? a = some { cls := .type "list", data := .seq vs.toArray } → IntsAre vs ns → ns.length ≤ n → s₁.gens = #[] →
      codeAny (model l.prog w) callerA (.call (.ref fa) ⟨[.ref a], []⟩) (fun r s' => r = .ok (.ret (.bool true)) ∧ OldK s₁.heap s'.heap ∧ s'.os = s₁.os ∧ AllBare s'.gens) s₁) :
    WalkO q loose XP YP l.row.toRowW d [] (fun f vs => PySem.call f vs) := by
  intro w s₀ s₁ mg mb G Y fa o pm cd doc dV kV ho hd hcd hD hmg hg args vals as hpre hlay hrd hwl hlo
  obtain rfl : dV = .none := Dflts.none hD hdf
  obtain rfl : kV = .none := Dflts.noKw hD
  obtain ⟨a, vs, ns, rfl, rfl, hobj, hints, hlen⟩ := script_of hn hpre hwl
  refine enter_call (codeAny_mono (call w s₀ s₁ mg mb fa o pm cd doc a vs ns G Y ho (fd_plain hd) hcd hmg hobj hints hlen hg) fun r s' hq => ?_)
  obtain ⟨rfl, h2, h3, h4⟩ := hq
  exact ⟨.inl ⟨.bool true, .bool true, [], rfl, fun _ => rfl, .bool true, post_true l _, fun _ => ⟨List.Pairwise.nil, fun _ hm => (nomatch hm)⟩⟩, h2, h3, h4⟩

/-! ### rules over ANY heap (no ledger) from facts about the written part K: the library's own take a ledger (News) for what they write -/
section
variable {prog : Program} {w : World} {A : Around} {E : Value → Shared → Prop} {s : Shared} {K : Frag}

/-! the whole heap as the ledger: makes every rule that writes through a ledger a rule over any heap -/
def ledger (h : Heap) (L d : Addr) : List (Addr × Obj) := (List.range h.objs.size).filterMap fun a => if a = L ∨ a = d then none else (h.get? a).map fun o => (a, o)
end
end Att

namespace L2
open PySem PySem.Spec PyProof.Rows

theorem vals_ints : ∀ {vs : List Value} {ns : List Int}, IntsAre vs ns → Vals (ns.map V.int) vs
  | _, _, .nil => .nil
  | _, _, .cons n t h => .cons ⟨t, rfl⟩ (vals_ints h)

/-- nothing is tracked but the script, known to the object (or it is an object of the module) -/
def Only (H : Hp) : Prop := ∀ b, H b = none ∨ ∃ o xs, H b = some (.frz o (.lst xs))

/-- THE HEAD: the law's promise, at the heap behind the top. F, the promise of the law's def, may use that base is part of the heap (so K.In base, base.Ns mainGlobals mg stand in Mod) -/
theorem law_call {P : Program} {w : World} {K : PySem.W.Frag} {mg mb : Str → Option Value} {CX : CXT} {k : Nat} {fa a : Addr} {fd : FuncData} {x : Str} {sp : Sp} {s₁ : Shared} {vs : List Value} {ns : List Int}
    (KX : K.In s₁.heap) (hns : s₁.heap.Ns mainGlobals mg) (hb : s₁.heap.Ns builtinsNs mb) (hbb : ∀ x : Str, x ≠ "__name__" → mb x = bootBuiltins x) (hlim : s₁.heap.NoLimit) (hg : s₁.gens = #[])
    (ha : s₁.heap.get? a = some { cls := .type "list", data := .seq vs.toArray }) (hi : IntsAre vs ns) (hl : ns.length ≤ sizeLine) (hr : Room k callerA)
    (F : ∀ base : Heap, K.In base → base.Ns mainGlobals mg → FnOk P w K mg base CX k fa fd [x] sp) (hbind : ∀ (s : Shared) (u : Value), BindsTo s fd ⟨[u], []⟩ [(x, u)])
    (hsp : ∀ H : Hp, Only H → SqL K H a (ns.map V.int) → sp [.ref a] H (fun v _ => v = .bl true) fun _ _ _ => False)
    (hCX : ∀ H e s', CX [] H s₁ (fun _ _ _ => False) e s' → False) :
    codeAny (model P w) callerA (.call (.ref fa) ⟨[.ref a], []⟩) (fun r s' => r = .ok (.ret (.bool true)) ∧ OldK s₁.heap s'.heap ∧ s'.os = s₁.os ∧ AllBare s'.gens) s₁ := by
  have rv := vals_ints hi
  have lenV := hi.length
  -- from an abstract heap in which nothing but the script may be tracked
  have core : ∀ H : Hp, Only H → SqL K H a (ns.map V.int) → HOk P w H s₁.heap → (∀ b, H b ≠ none → b = a) → (H a ≠ none → K.lookup a = none) →
      codeAny (model P w) callerA (.call (.ref fa) ⟨[.ref a], []⟩) (fun r s' => r = .ok (.ret (.bool true)) ∧ OldK s₁.heap s'.heap ∧ s'.os = s₁.os ∧ AllBare s'.gens) s₁ := by
    intro H hO hS hok hA hK
    have base_of : ∀ {b : Addr} {o : Obj}, s₁.heap.get? b = some o → H b = none → (hidT s₁.heap H).get? b = some o := fun e n => hidT_get e n
    have noA : ∀ {b : Addr} {o : Obj} {es : Array DictEntry} {ep : Nat}, s₁.heap.get? b = some o → o.data = .dict es ep → H b = none := fun {b o es ep} e d => by
      cases q : H b with
      | none => rfl
      | some u =>
        have e' : b = a := hA b (by rw [q]; simp)
        subst e'
        rw [ha] at e; cases e
        have d' : Data.seq vs.toArray _ = Data.dict es ep := d
        cases d'
    have nsK : ∀ {b : Addr} {m : Str → Option Value}, s₁.heap.Ns b m → (hidT s₁.heap H).Ns b m := fun {b m} ⟨o, es, ep, e, d, r⟩ => ⟨o, es, ep, base_of e (noA e d), d, r⟩
    have hKb : K.In (hidT s₁.heap H) := fun b o e => base_of (KX b o e) (by
      cases q : H b with
      | none => rfl
      | some u =>
        have e' : b = a := hA b (by rw [q]; simp)
        subst e'
        rw [hK (by rw [q]; simp)] at e; cases e)
    have hM : Mod K mg (hidT s₁.heap H) := ⟨hKb, nsK hns, ⟨mb, nsK hb, hbb⟩, let ⟨mc, h1, h2⟩ := hlim; ⟨mc, nsK h1, h2⟩⟩
    have e0 : Env0 P w K mg (hidT s₁.heap H) callerA [] s₁ H := ⟨rfl, hM, fun b o e => of_hidT e, Nat.le_of_eq (hidT_size _ _), trivial, fun b hb => absurd (show b ∈ ([] : List Addr) from hb) (by simp), hok, .of_eq hg⟩
    refine codeAny_mono ((F _ hKb (nsK hns)).run callerA [] s₁ H ⟨[.ref a], []⟩ [.ref a] [.ref a] _ _ hr e0 (hbind s₁ (.ref a)) (.cons rfl .nil) (hsp H hO hS)) fun r s' h => ?_
    cases r with
    | error e => exact (hCX H e s' h).elim
    | ok fl =>
      cases fl with
      | next => exact False.elim h
      | brk => exact False.elim h
      | cont => exact False.elim h
      | ret u =>
        obtain ⟨v, H', os, bare, un, hok', r', q⟩ := h
        have q' : v = .bl true := q
        subst q'
        obtain rfl : u = Value.bool true := r'
        refine ⟨rfl, OldK.of_keep fun b o e => ?_, os, bare⟩
        cases q : H b with
        | none => exact un.keep b o e q (by intro z; exact absurd (show b ∈ ([] : List Addr) from z) (by simp)) (by simp)
        | some u =>
          rcases hO b with z | ⟨ob, xs, z⟩
          · rw [q] at z; cases z
          · have z2 := un.frzs b ob _ z
            obtain ⟨e1, _⟩ := hok b _ z
            obtain ⟨e2, _⟩ := hok' b _ z2
            rw [e] at e1; cases e1
            exact e2
  cases hk : K.lookup a with
  | some o =>
    -- the script is one of the module's own objects
    have e := KX a o hk
    rw [ha] at e
    cases e
    refine core (fun _ => none) (fun _ => .inl rfl) (.inr ⟨_, vs.toArray, _, hk, rfl, rfl, rfl, by rw [List.size_toArray, lenV]; exact hl, by simpa using rv⟩) (fun b u z => by have z' : (none : Option HO) = some u := z; cases z') (fun b z => absurd rfl z) fun z => absurd rfl z
  | none =>
    refine core (fun b => if b = a then some (.frz { cls := .type "list", data := .seq vs.toArray } (.lst (ns.map V.int))) else none) (fun b => ?_) (.inl (.inr ⟨{ cls := .type "list", data := .seq vs.toArray }, if_pos rfl⟩)) (fun b u z => ?_) (fun b z => ?_) fun _ => hk
    · by_cases hb : b = a
      · exact .inr ⟨_, _, if_pos hb⟩
      · exact .inl (if_neg hb)
    · by_cases hb : b = a
      · have z' := (if_pos hb).symm.trans z
        cases z'
        subst hb
        exact ⟨ha, by rw [List.length_map]; exact hl, vs, _, rv, ha⟩
      · have z' := (if_neg hb).symm.trans z
        cases z'
    · by_cases hb : b = a
      · exact hb
      · exact absurd (if_neg hb) z
end L2

namespace L2
open PySem PySem.Spec PyProof.Rows

/-- the goal that k_head leaves (case hc), from the law's promise. F gives the function object fd (K's own) once, then the promise over every base -/
theorem walk_of {l : PySem.W.OpenLaw} {n k : Nat} {q : Program} {loose : List Str} {XP : (Str → Option Value) → Heap → Prop} {YP : World → Heap → Prop} {d : DefRec} {K : Params → PySem.W.Frag} {CX : World → CXT} {sp : World → Sp} {x : Str}
    (hn : l.most = some n) (hn2 : n ≤ sizeLine) (hdf : d.params.defaults = []) (hr : Room k callerA)
    (hY : ∀ (w : World) (h : Heap), YP w h → (K w.params).In h)
    (F : ∀ (w : World) (mg : Str → Option Value) (fa : Addr) (h : Heap), (K w.params).In h → h.Ns mainGlobals mg → mg d.name = some (.ref fa) →
      ∃ fd : FuncData, (∀ (s : Shared) (u : Value), BindsTo s fd ⟨[u], []⟩ [(x, u)]) ∧
        ∀ base : Heap, (K w.params).In base → base.Ns mainGlobals mg → FnOk l.prog w (K w.params) mg base (CX w) k fa fd [x] (sp w))
    (hsp : ∀ (w : World) (H : Hp) (a : Addr) (ns : List Int), ns.length ≤ n → Only H → SqL (K w.params) H a (ns.map V.int) → sp w [.ref a] H (fun v _ => v = .bl true) fun _ _ _ => False)
    (hCX : ∀ (w : World) (H : Hp) (s : Shared) (e : Value) (s' : Shared), CX w [] H s (fun _ _ _ => False) e s' → False) :
    PySem.W.WalkO q loose XP YP l.row.toRowW d [] (fun f vs => PySem.call f vs) := by
  refine Att.attach_call hn hdf fun w s₀ s₁ mg mb fa o pm cd doc a vs ns G Y ho hd hcd hmg hobj hints hlen hg => ?_
  have KX := hY w _ Y
  obtain ⟨fd, hb, hF⟩ := F w mg fa _ KX G.T.g hmg
  exact law_call KX G.T.g G.T.b G.T.builtins G.T.nolimit hg hobj hints (Nat.le_trans hlen hn2) hr hF hb (fun H hO hS => hsp w H a ns hlen hO hS) fun H e s' => hCX w H s₁ e s'
end L2

/- THE LAST THEOREM (shape; LID, My.* are yours):
   My.Adr: a structure of the addresses that your layer names (classes, functions); My.Txt K t: a structure (Prop) of the equations over K;
   My.txt_mk : {K} {implicit addresses ..} (e1 : nsIn K mainGlobals "law" = some (some (.ref f))) (e2 : K.lookup f = some ⟨oc, od, .func (fnOf "law" "law" params body scope dV kV doc pm an cdv ct), sl⟩) (e3 : codeIn K cdv "law" = true) .. : ∃ t, My.Txt K t

set_option maxRecDepth 100000 in
set_option maxHeartbeats 0 in
theorem PySem.Challenge.cw_LID_holds : PySem.Challenge.rw_LID.Holds := by
  w_on; o_law; k_head; (case hw => w_witness2)
  k_fill
  refine L2.walk_of (l := PySem.Challenge.rw_LID) (n := 63) (k := 40) (x := "script") (CX := fun w => ..) (sp := fun _ => My.sp_law) rfl (by decide) rfl ⟨rfl, by decide, by decide⟩ (fun w h Y => PySem.W.kIn_of Y) ?F ?S ?C
  case F =>
    intro w mg fa h KX G hmg
    have T : ∃ t, My.Txt (L2.KOf KX) t := by
      dsimp only [L2.KOf]                          -- K must stand as «<heap const> w.params» for k_is
      refine' My.txt_mk ?e1 ?e2 ?e3 ..
      (case e1 => PySem.W.k_is)                    -- in the order: a name -> its address -> its object -> its parts
      (case e2 => PySem.W.k_is)
      ..
    obtain ⟨t, T⟩ := T
    have e0 := hmg.symm.trans (PySem.W.mg_of KX G T.law)
    cases e0                                       -- fa is the law's own address
    exact ⟨_, fun s u => .of_eq rfl, fun base kb nb => My.law_fn T kb nb⟩     -- if «.of_eq rfl» comes too early: refine' ⟨_, ?b, fun base kb nb => My.law_fn T kb nb⟩; exact fun s u => .of_eq rfl
  case S => exact fun w H a ns hl hO hS => ..
  case C => exact ..
(the tactic k_is has no namespace: write k_is) -/

/-! SHORT WORDS over the layer: a def of the text, its body, what a loop and a test want. -/
namespace L2
open PySem PySem.Spec PyProof.Rows

/-! ### the text by places -/
/-- the j-th statement of a class's body -/
def inClass (s : Stmt) (j : Nat) : Stmt := match s with
  | .ClassDef _ _ _ body _ _ _ _ _ _ _ => body.getD j (.Pass ⟨0, 0, 0, 0⟩)
  | _ => .Pass ⟨0, 0, 0, 0⟩
def defArgs (s : Stmt) : Arguments := match s with
  | .FunctionDef _ a _ _ _ _ _ _ _ _ => a
  | _ => { posonlyargs := [], args := [], vararg := none, kwonlyargs := [], kw_defaults := [], kwarg := none, defaults := [] }
def defBody (s : Stmt) : List Stmt := match s with
  | .FunctionDef _ _ b _ _ _ _ _ _ _ => b
  | _ => []
def defScope (s : Stmt) : Scope := match s with
  | .FunctionDef _ _ _ _ _ _ sc _ _ _ => sc
  | _ => { kind := .function, names := [], isGenerator := false, isCoroutine := false }

/-! ### no exception leaves a def -/
abbrev CX0 : CXT := fun _ _ _ _ _ _ => False
abbrev E0 : XK := fun _ _ _ => False
theorem pass0 {X : Cx} : Passes CX0 X E0 := fun _ _ _ _ _ _ _ h => h.elim

/-! ### a def (or method) of the text as it stands behind the top -/
structure Fun (K : PySem.W.Frag) (x qual : Str) (st : Stmt) (f : Addr) (fd : FuncData) : Prop where
  ex : ∃ (oc : Value) (od : Option Addr) (kV doc pm : Value) (an : Option Addr) (cdv ct : Value) (osl : Array (Option Value)),
    fd = PySem.W.fnOf x qual (defArgs st) (defBody st) (defScope st) .none kV doc pm an cdv ct ∧ K.lookup f = some ⟨oc, od, .func fd, osl⟩ ∧ PySem.W.codeIn K cdv qual = true
  kp : PySem.W.keepIn K (.ref f) = true
section
variable {P : Program} {w : World} {K : PySem.W.Frag} {mg : Str → Option Value} {base : Heap}
/-- THE RULE for a def: its body as a term of rules, and the reading of that term -/
theorem Fun.ok {x qual : Str} {st : Stmt} {f : Addr} {fd : FuncData} {N ps : List Str} {k : Nat} {sp : Sp} (F : Fun K x qual st f fd) (S : FnScope N ps (defScope st)) (len : ∀ vs H Q E, sp vs H Q E → vs.length = ps.length)
    (hbody : ∀ (cdv : Value) (A : Around) (outer : List Env) (s : Shared) (H : Hp) (vs : List V) (Q : VK) (E : XK), Room k (A.deeper (envOfC qual (defScope st) s.heap.objs.size f cdv)) → sp vs H Q E →
      ∃ t, PSs (cxOf CX0 P w K mg base N qual (defScope st) f cdv A outer s H E).nox (defBody st) t ∧ t { nx := fun _ H' => Q .non H', rt := Q } (start N vs) H) : FnOk P w K mg base CX0 (k + 1) f fd ps sp := by
  obtain ⟨oc, od, kV, doc, pm, an, cdv, ct, osl, rfl, lk, hcd⟩ := F.ex
  refine fn_of lk hcd S len fun A outer s H vs Q E hr hsp => ?_
  obtain ⟨t, h, q⟩ := hbody cdv A outer s H vs Q E hr hsp
  exact ⟨t, h.nox, q⟩
/-- how its arguments bind (no defaults): h is «fun _ _ _ _ _ _ us hl => match us, hl with | [_, _], _ => rfl», one _ a parameter -/
theorem Fun.binds {x qual : Str} {st : Stmt} {f : Addr} {fd : FuncData} {ps : List Str} (F : Fun K x qual st f fd)
    (h : ∀ (kV doc pm : Value) (an : Option Addr) (cdv ct : Value) (us : List Value), us.length = ps.length → bindArgs (PySem.W.fnOf x qual (defArgs st) (defBody st) (defScope st) .none kV doc pm an cdv ct) ⟨us, []⟩ = pure (ps.zip us)) : Binds K fd ps [] := by
  obtain ⟨oc, od, kV, doc, pm, an, cdv, ct, osl, rfl, lk, hcd⟩ := F.ex
  exact .all (h kV doc pm an cdv ct)
theorem fun_mk {x qual : Str} {st : Stmt} {f : Addr} {oc : Value} {od an : Option Addr} {osl : Array (Option Value)} {kV doc pm cdv ct : Value} (l : K.lookup f = some ⟨oc, od, .func (PySem.W.fnOf x qual (defArgs st) (defBody st) (defScope st) .none kV doc pm an cdv ct), osl⟩)
    (c : PySem.W.codeIn K cdv qual = true) (k : PySem.W.keepIn K (.ref f) = true) : Fun K x qual st f (PySem.W.fnOf x qual (defArgs st) (defBody st) (defScope st) .none kV doc pm an cdv ct) := ⟨⟨oc, od, kV, doc, pm, an, cdv, ct, osl, rfl, l, c⟩, k⟩
end
theorem hu_of {A : Around} {k : Nat} (hr : Room k A) : A.units + 1 < cLine := Nat.lt_of_le_of_lt (Nat.add_le_add_left (by decide : 1 ≤ 64) _) hr.units
/-! ### expressions in short: the name that stands in the i-th slot -/
section
variable {X : Cx}
theorem pv (i : Nat) {x : Str} {pos : Pos} (hN : X.N[i]? = some x := by rfl) (hv : Vis X.env.scope x := by first | exact Or.inl rfl | exact Or.inr (Or.inl rfl) | exact Or.inr (Or.inr rfl)) (hd : (x == ("__debug__" : Str)) = false := by decide)
    (hcd : (x == ("__classdict__" : Str)) = false := by decide) : PE X (.Name x pos) (tVar i) := pe_var hN hv hd hcd
end

/-! ### tests -/
theorem iteF {A B : Prop} (h : B) : if false = true then A else B := by
  rw [if_neg Bool.false_ne_true]
  exact h
theorem iteT {A B : Prop} (h : A) : if true = true then A else B := by
  rw [if_pos rfl]
  exact h
theorem ite2 {c A B : Prop} [Decidable c] (h1 : c → A) (h2 : ¬ c → B) : if c then A else B := by
  by_cases h : c
  · rw [if_pos h]
    exact h1 h
  · rw [if_neg h]
    exact h2 h
/-! ### heaps -/
/-- all that was tracked is as it was -/
def Same (H H' : Hp) : Prop := ∀ b o, H b = some o → H' b = some o
theorem Same.refl (H : Hp) : Same H H := fun _ _ h => h
theorem Same.trans {H H1 H2 : Hp} (a : Same H H1) (b : Same H1 H2) : Same H H2 := fun c o h => b c o (a c o h)
theorem Same.free {H H' : Hp} (e : Same H H') {l : Addr} (h : H' l = Option.none) : H l = Option.none := by
  cases q : H l with
  | none => rfl
  | some o =>
    rw [e l o q] at h
    cases h
theorem Same.seq {K : PySem.W.Frag} {H H' : Hp} {a : Addr} {xs : List V} (e : Same H H') (h : SqL K H a xs) : SqL K H' a xs := by
  rcases h with (h | ⟨o, h⟩) | h
  · exact .inl (.inl (e _ _ h))
  · exact .inl (.inr ⟨o, e _ _ h⟩)
  · exact .inr h

end L2

set_option Elab.async false
set_option linter.all false
set_option maxRecDepth 100000
set_option maxHeartbeats 4000000
namespace L3
open PySem PySem.Spec PyProof.Rows L2
abbrev St := L2.St

/-- the inner names' values: an own name has none yet, a captured one has its slot's -/
def sub (ix : List (Option Nat)) (σ : St) : St := ix.map fun o => o.bind fun j => (σ[j]?).join

theorem thnF {α : Type} {t : Sem α} {Q Q' : α → Shared → Prop} {M : Model} {A : Around} {E : Value → Shared → Prop} {s : Shared} (h : wpAny M A t Q (fun _ _ => False) s) (hQ : ∀ a s, Q a s → Q' a s) : wpAny M A t Q' E s :=
  wpAny_mono h hQ fun _ _ z => z.elim

/-- the tests behind a comprehension's for -/
def PTs (X : Cx) (ifs : List Expr) (t : TT) : Prop :=
  ∀ (pins : List (Addr × Obj)) (s : Shared) (σ : St) (H : Hp) (Q : Bool → Hp → Prop), Inv X pins σ H s → t σ H Q →
    wpAny (model X.prog X.w) X.A (forIn ifs true fun c r => if r = true then do let ok ← isTrue c X.env (eval c X.env); pure (ForInStep.yield ok) else pure (ForInStep.yield r)) (TP X pins σ Q) X.xe s
def tTrue : TT := fun _ H Q => Q true H
theorem pts_nil {X : Cx} : PTs X [] tTrue := fun _ _ _ H _ I h => wpAny_tests_nil ⟨H, I, h⟩
theorem pts_one {X : Cx} {c : Expr} {t : TT} (h : PT X c t) : PTs X [c] t := fun pins s σ H Q I q => wpAny_tests_one (h pins s σ H Q I q)

/-! ### what is captured -/
def closOf (scope : Scope) (env : Env) : List (Str × Addr) := (scope.names.filter fun y => y.2 == .free).reverse.map fun y => (y.1, (env.cells.lookup y.1).getD 0)

theorem clos_loop {env : Env} : ∀ (ns : List (Str × NameKind)) (acc : List (Str × Addr)), (∀ y ∈ ns, y.2 = .free → (env.cells.lookup y.1).isSome = true) →
    (forIn ns acc fun (x : Str × NameKind) (r : List (Str × Addr)) => if x.2 == .free then do let a ← cellOf env x.1; pure (ForInStep.yield ((x.1, a) :: r)) else pure (ForInStep.yield r) : Sem (List (Str × Addr))) =
      pure ((ns.filter fun y => y.2 == .free).reverse.map (fun y => (y.1, (env.cells.lookup y.1).getD 0)) ++ acc) := by
  intro ns
  induction ns with
  | nil => intro acc _; rfl
  | cons y r ih =>
    intro acc h
    have hr : ∀ z ∈ r, z.2 = .free → (env.cells.lookup z.1).isSome = true := fun z hz => h z (List.mem_cons_of_mem _ hz)
    rw [List.forIn_cons]
    by_cases hf : (y.2 == NameKind.free) = true
    · have hs := h y List.mem_cons_self (by simpa using hf)
      obtain ⟨c, hc⟩ := Option.isSome_iff_exists.mp hs
      have e1 : cellOf env y.1 = pure c := by unfold cellOf; rw [hc]
      rw [if_pos hf, e1, pure_bind, pure_bind]
      refine (ih _ hr).trans ?_
      rw [List.filter_cons_of_pos (by simpa using hf), List.reverse_cons, List.map_append]
      simp [hc]
    · rw [if_neg hf, pure_bind]
      refine (ih _ hr).trans ?_
      rw [List.filter_cons_of_neg (by simpa using hf)]
theorem clos_eq {scope : Scope} {env : Env} (h : ∀ y ∈ scope.names, y.2 = .free → (env.cells.lookup y.1).isSome = true) : closureFor scope env = pure (closOf scope env) := by
  have e := clos_loop (env := env) scope.names [] h
  rw [List.append_nil] at e
  unfold closureFor
  rw [show closOf scope env = (scope.names.filter fun y => y.2 == .free).reverse.map (fun y => (y.1, (env.cells.lookup y.1).getD 0)) from rfl]
  rw [← pure_bind (m := Sem) ((scope.names.filter fun y => y.2 == .free).reverse.map (fun y => (y.1, (env.cells.lookup y.1).getD 0))) pure, ← e]
theorem lookup_pairs {β : Type} (f : Str → β) : ∀ (l : List (Str × NameKind)) (x : Str), (l.map fun y => (y.1, f y.1)).lookup x = if x ∈ l.map (·.1) then some (f x) else none
  | [], x => by simp
  | y :: r, x => by
    rw [List.map_cons, List.lookup_cons, lookup_pairs f r x]
    by_cases e : x = y.1
    · subst e; simp
    · have hb : (x == y.1) = false := by simpa using e
      rw [hb]
      by_cases hm : x ∈ r.map (·.1)
      · rw [if_pos hm, if_pos (by rw [List.map_cons]; exact List.mem_cons_of_mem _ hm)]
      · rw [if_neg hm, if_neg (by rw [List.map_cons]; intro z; rcases List.mem_cons.mp z with z | z; exact e z; exact hm z)]
theorem clos_some {scope : Scope} {env : Env} {x : Str} {c : Addr} (h : ∀ y ∈ scope.names, y.2 = .free → (env.cells.lookup y.1).isSome = true) (e : (closOf scope env).lookup x = some c) : env.cells.lookup x = some c := by
  unfold closOf at e
  rw [lookup_pairs (fun z => (env.cells.lookup z).getD 0)] at e
  split at e
  · rename_i hx
    obtain ⟨y, hy, rfl⟩ := List.mem_map.mp hx
    obtain ⟨h1, h2⟩ := List.mem_filter.mp (List.mem_reverse.mp hy)
    obtain ⟨d, hd⟩ := Option.isSome_iff_exists.mp (h y h1 (by simpa using h2))
    have e' := Option.some.inj e
    rw [hd] at e' ⊢
    exact congrArg some e'
  · cases e
theorem clos_has {scope : Scope} {env : Env} {x : Str} (hx : (x, NameKind.free) ∈ scope.names) : ∃ c, (closOf scope env).lookup x = some c := by
  unfold closOf
  rw [lookup_pairs (fun z => (env.cells.lookup z).getD 0), if_pos]
  · exact ⟨_, rfl⟩
  · exact List.mem_map.mpr ⟨(x, .free), List.mem_reverse.mpr (List.mem_filter.mpr ⟨hx, by simp⟩), rfl⟩
theorem relabel_kind {env : Env} : ∀ {names : List (Str × NameKind)} {x : Str} {k : NameKind},
    (names.map fun (n, k) => if (k == NameKind.free && env.scope.kind == .function && env.kindOf n == some .cell) then (n, NameKind.cell) else (n, k)).lookup x = some k →
      names.lookup x = some k ∨ (k = .cell ∧ names.lookup x = some .free)
  | [], _, _, h => by simp at h
  | (n, k0) :: r, x, k, h => by
    rw [List.map_cons] at h
    dsimp only at h
    cases hx : x == n with
    | true =>
      by_cases hc : (k0 == NameKind.free && env.scope.kind == .function && env.kindOf n == some .cell) = true
      · rw [if_pos hc] at h
        simp only [List.lookup_cons, hx] at h ⊢
        have : k0 = .free := by
          have h1 := (Bool.and_eq_true _ _ ▸ ((Bool.and_eq_true _ _ ▸ hc).1)).1
          simpa using h1
        exact .inr ⟨(Option.some.inj h).symm, by rw [this]⟩
      · rw [if_neg hc] at h
        simp only [List.lookup_cons, hx] at h ⊢
        exact .inl h
    | false =>
      have h' : (r.map fun (n, k) => if (k == NameKind.free && env.scope.kind == .function && env.kindOf n == some .cell) then (n, NameKind.cell) else (n, k)).lookup x = some k := by
        by_cases hc : (k0 == NameKind.free && env.scope.kind == .function && env.kindOf n == some .cell) = true
        · rw [if_pos hc] at h; simpa only [List.lookup_cons, hx] using h
        · rw [if_neg hc] at h; simpa only [List.lookup_cons, hx] using h
      simp only [List.lookup_cons, hx]
      exact relabel_kind h'
theorem relabel_free {env : Env} : ∀ {names : List (Str × NameKind)} {x : Str}, names.lookup x = some .free →
    (names.map fun (n, k) => if (k == NameKind.free && env.scope.kind == .function && env.kindOf n == some .cell) then (n, NameKind.cell) else (n, k)).lookup x = some .cell ∨
    (names.map fun (n, k) => if (k == NameKind.free && env.scope.kind == .function && env.kindOf n == some .cell) then (n, NameKind.cell) else (n, k)).lookup x = some .free
  | [], _, h => by simp at h
  | (n, k0) :: r, x, h => by
    rw [List.map_cons]
    dsimp only
    cases hx : x == n with
    | true =>
      simp only [List.lookup_cons, hx] at h
      have e : k0 = .free := Option.some.inj h
      by_cases hc : (k0 == NameKind.free && env.scope.kind == .function && env.kindOf n == some .cell) = true
      · rw [if_pos hc]; exact .inl (by simp only [List.lookup_cons, hx])
      · rw [if_neg hc]; exact .inr (by simp only [List.lookup_cons, hx]; rw [e])
    | false =>
      simp only [List.lookup_cons, hx] at h
      have ih := relabel_free (env := env) h
      by_cases hc : (k0 == NameKind.free && env.scope.kind == .function && env.kindOf n == some .cell) = true
      · rw [if_pos hc]; simpa only [List.lookup_cons, hx] using ih
      · rw [if_neg hc]; simpa only [List.lookup_cons, hx] using ih

/-- what is asked of a comprehension's names; sc, N: the names around it -/
structure CompOk (sc : Scope) (N Nc : List Str) (ix : List (Option Nat)) (scope : Scope) : Prop where
  kind : scope.kind = .function
  nocell : ∀ y ∈ scope.names, y.2 ≠ .cell
  names : ∀ y ∈ scope.names, y.2 = .local → scope.names.lookup y.1 = some .local
  free : ∀ y ∈ scope.names, y.2 = .free → sc.names.lookup y.1 = some .cell ∨ sc.names.lookup y.1 = some .free
  len : ix.length = Nc.length
  chk : ((ix.zip Nc).all fun p => match p.1 with | none => true | some j => N[j]? == some p.2 && scope.names.lookup p.2 == some .free) = true
theorem CompOk.at_ {sc : Scope} {N Nc : List Str} {ix : List (Option Nat)} {scope : Scope} (o : CompOk sc N Nc ix scope) {i j : Nat} {x : Str} (h1 : ix[i]? = some (some j)) (h2 : Nc[i]? = some x) : N[j]? = some x ∧ scope.names.lookup x = some .free := by
  have hm : (some j, x) ∈ ix.zip Nc := by
    refine List.mem_of_getElem? (i := i) ?_
    rw [List.getElem?_zip_eq_some]
    exact ⟨h1, h2⟩
  have q := List.all_eq_true.mp o.chk _ hm
  have q' := Bool.and_eq_true _ _ ▸ q
  exact ⟨by simpa using q'.1, by simpa using q'.2⟩

/-- the context of a comprehension's block -/
def cxComp (X : Cx) (Nc : List Str) (scope : Scope) (cl : List (Str × Addr)) (C : Addr) (s : Shared) (H : Hp) (fp : List Addr) : Cx where
  prog := X.prog
  w := X.w
  K := X.K
  mg := X.mg
  base := X.base
  A := X.A
  N := Nc
  s₀ := s
  H₀ := H
  env := compEnvC scope cl C X.env
  outer := X.stack
  stack := X.stack
  ex := fp
  fn := fun x => (cl.lookup x).isNone
  calm := X.calm
  pn := X.pn
  xe := fun _ _ => False

/-- the turns of a comprehension, by an invariant: the new list stands at D -/
def CompW (J : It) (D : Addr) (g : TG) (tt : TT) (te : TE) (σ0 : St) (H1 : Hp) (Q : VK) : Prop :=
  ∃ W : Nat → Nat → St → Hp → Prop, (∃ m, W 0 m σ0 (upd H1 D (.lst []))) ∧ ∀ i m σ' H', W i m σ' H' → (J.stop i H' ∧ Q (.ref D) H') ∨
    (J.go i H' ∧ ∃ (N : V → St → Hp → Prop) (N0 : St → Hp → Prop), (∀ v σ2 H5, N v σ2 H5 → ∃ xs, H5 D = some (.lst xs) ∧ xs.length < sizeLine ∧ ∃ m', m' < m ∧ W (i + 1) m' σ2 (upd H5 D (.lst (xs ++ [v])))) ∧
      (∀ σ2 H4, N0 σ2 H4 → ∃ m', m' < m ∧ W (i + 1) m' σ2 H4) ∧ ∀ x H2, J.yld i H' x H2 → g x σ' H2 fun σ2 H3 => tt σ2 H3 fun c H4 => if c = true then te σ2 H4 fun v H5 => N v σ2 H5 else N0 σ2 H4)
def tComp (wi : TI) (ix : List (Option Nat)) (g : TG) (tt : TT) (te : TE) : TE := fun σ H Q => wi σ H fun J H1 => ∀ D, H1 D = none → CompW J D g tt te (sub ix σ) H1 Q

theorem loop_ofX {prog : Program} {w : World} {A : Around} {R : Result → Shared → Prop} {s : Shared} {elt target iter : Expr} {ifs : List Expr} {scope : Scope} {pos : Pos} {it acc : Value} {env : Env} {F : Value → Shared → Prop} (J : Nat → Shared → Prop)
    (hF : ∀ e s', F e s' → notedBy (model prog w) A env (fun e s' => R (.error e) s') e s')
    (turn : ∀ n s, J n s → wpAny (model prog w) A (pyNext it) (fun r s1 => match r with
      | none => R (.ok .next) s1
      | some v => wpAny (model prog w) A (letOwnedTupleGo target it v) (fun _ s2 => wpAny (model prog w) A (assign target env v) (fun _ s3 =>
          wpAny (model prog w) A (forIn ifs true fun c r => if r = true then do let ok ← isTrue c env (eval c env); pure (ForInStep.yield ok) else pure (ForInStep.yield r)) (fun ok s4 =>
            if ok = true then wpAny (model prog w) A (eval elt env) (fun x s5 => wpAny (model prog w) A (call (.builtin "list.append") [acc, x]) (fun _ s6 => ∃ m, m < n ∧ J m s6) F s5) F s4
            else ∃ m, m < n ∧ J m s4) F s3) F s2) F s1) F s)
    (n : Nat) (h : J n s) : codeAny (model prog w) A (.compLoop (.ListComp elt [⟨target, iter, ifs, 0⟩] scope pos) 0 it acc env) R s := by
  refine codeAny_loop rfl J (fun k t hJ => ?_) n h
  show wpAny _ A ((compTurn (.ListComp elt [⟨target, iter, ifs, 0⟩] scope pos) 0 it acc env).onRaise _) _ _ t
  refine wpAny_noted ?_
  rw [compTurn_list]
  refine wpAny_bind (wpAny_standAt (wpAny_bind (wpAny_mono (turn k t hJ) (fun r s1 h1 => ?_) hF)))
  cases r with
  | none => exact wpAny_pure h1
  | some v =>
    refine wpAny_bind (wpAny_mono h1 (fun _ s2 h2 => wpAny_bind (wpAny_mono h2 (fun _ s3 h3 => wpAny_bind (wpAny_mono h3 (fun ok s4 h4 => ?_) hF)) hF)) hF)
    cases ok with
    | false => exact wpAny_pure ⟨rfl, h4⟩
    | true => exact wpAny_bind (wpAny_bind (wpAny_mono h4 (fun x s5 h5 => wpAny_bind (wpAny_mono h5 (fun _ s6 h6 => wpAny_pure (wpAny_pure ⟨rfl, h6⟩)) hF)) hF))

theorem loop_of {prog : Program} {w : World} {A : Around} {R : Result → Shared → Prop} {s : Shared} {elt target iter : Expr} {ifs : List Expr} {scope : Scope} {pos : Pos} {it acc : Value} {env : Env} (J : Nat → Shared → Prop)
    (turn : ∀ n s, J n s → wpAny (model prog w) A (pyNext it) (fun r s1 => match r with
      | none => R (.ok .next) s1
      | some v => wpAny (model prog w) A (letOwnedTupleGo target it v) (fun _ s2 => wpAny (model prog w) A (assign target env v) (fun _ s3 =>
          wpAny (model prog w) A (forIn ifs true fun c r => if r = true then do let ok ← isTrue c env (eval c env); pure (ForInStep.yield ok) else pure (ForInStep.yield r)) (fun ok s4 =>
            if ok = true then wpAny (model prog w) A (eval elt env) (fun x s5 => wpAny (model prog w) A (call (.builtin "list.append") [acc, x]) (fun _ s6 => ∃ m, m < n ∧ J m s6) (fun _ _ => False) s5) (fun _ _ => False) s4
            else ∃ m, m < n ∧ J m s4) (fun _ _ => False) s3) (fun _ _ => False) s2) (fun _ _ => False) s1) (fun _ _ => False) s)
    (n : Nat) (h : J n s) : codeAny (model prog w) A (.compLoop (.ListComp elt [⟨target, iter, ifs, 0⟩] scope pos) 0 it acc env) R s :=
  loop_ofX (F := fun _ _ => False) J (fun _ _ z => z.elim) turn n h
section
variable {X : Cx} {pins : List (Addr × Obj)} {σ : St} {H : Hp} {s : Shared} {Nc : List Str} {ix : List (Option Nat)} {scope : Scope}
theorem all_cells (I : Inv X pins σ H s) (ok : CompOk X.env.scope X.N Nc ix scope) : ∀ y ∈ scope.names, y.2 = .free → (X.env.cells.lookup y.1).isSome = true := fun y hy hf => by
  obtain ⟨c, hc⟩ := I.ok.has y.1 (ok.free y hy hf)
  rw [hc]; rfl
/-- the block begins: s is the state with the new list, C the block's own dict -/
theorem comp_start {fp : List Addr} {h1 : Heap} {t' : Nat} (I : Inv X pins σ H s) (ok : CompOk X.env.scope X.N Nc ix scope) (hf : ∀ b ∈ fp, FpOk X pins H b) (hob : ∀ b ∈ fp, ∃ o, s.heap.get? b = some o)
    {m : Str → Option Value} (hn : h1.Ns s.heap.objs.size m) (hk : ∀ b o, s.heap.get? b = some o → h1.get? b = some o) :
    Inv (cxComp X Nc scope (closOf scope X.env) s.heap.objs.size s H fp) pins (sub ix σ) H { s with heap := h1, toks := t' } := by
  have ac := all_cells I ok
  have old : ∀ {b : Addr} {o : Obj}, s.heap.get? b = some o → b ≠ s.heap.objs.size := fun e => Nat.ne_of_lt (Heap.lt_size e)
  refine ⟨⟨I.ok.mod, ?_, I.ok.glob, I.ok.blt, Nat.le_refl _, ?_, ?_, ?_, I.ok.hd, I.ok.frames, .inl rfl, ?_, I.bs, Nat.le_trans I.ok.bsz I.sz, ?_, ?_, I.stack, I.stkFree⟩, rfl, I.bare, Un.kept hk, ⟨m, hn, ?_⟩, ?_, ?_, ?_, ?_, I.hok.kept hk, ?_⟩
  · exact ok.kind
  · intro x y c e1 e2
    exact I.ok.inj x y c (clos_some ac e1) (clos_some ac e2)
  · intro x hx
    have key : ∀ k, (relabel scope X.env).names.lookup x = some k → (k = .cell ∨ k = .free) → ∃ c, (closOf scope X.env).lookup x = some c := fun k e hkk => by
      rcases relabel_kind e with q | ⟨_, q⟩
      · rcases hkk with rfl | rfl
        · exact absurd rfl (ok.nocell _ (PySem.mem_of_lookup q))
        · exact clos_has (PySem.mem_of_lookup q)
      · exact clos_has (PySem.mem_of_lookup q)
    rcases hx with e | e
    · exact key _ e (.inl rfl)
    · exact key _ e (.inr rfl)
  · intro x c hfn e
    have e' : (closOf scope X.env).lookup x = some c := e
    have hfn' : ((closOf scope X.env).lookup x).isNone = true := hfn
    rw [e'] at hfn'; cases hfn'
  · intro b hb
    obtain ⟨o, e⟩ := hob b hb
    obtain ⟨f0, f1, f2, f3, f4, f5⟩ := hf b hb
    exact ⟨old e, fun x c q => f4 x c (clos_some ac q)⟩
  · intro b o e hb
    obtain ⟨f0, f1, f2, f3, f4, f5⟩ := hf b hb
    rcases f3 with z | z
    · exact I.ok.noex b o e z
    · exact absurd (Nat.lt_of_lt_of_le (Nat.lt_of_lt_of_le (Heap.lt_size e) I.ok.bsz) z) (Nat.lt_irrefl _)
  · intro b hb hz
    obtain ⟨f0, f1, f2, f3, f4, f5⟩ := hf b hb
    rcases List.mem_cons.mp (I.stkSub b hz) with z | z
    · exact f1 z
    · exact f2 z
  · intro i x v e1 e2 e3
    have e1 : Nc[i]? = some x := e1
    unfold sub at e2
    rw [List.getElem?_map] at e2
    cases hi : ix[i]? with
    | none => rw [hi] at e2; cases e2
    | some o =>
      cases o with
      | none => rw [hi] at e2; cases e2
      | some j =>
        obtain ⟨hN, hfree⟩ := ok.at_ hi e1
        have e4 : σ[j]? = some (some v) := by
          rw [hi] at e2
          have e2' : some ((σ[j]?).join) = some (some v) := e2
          have e5 := Option.some.inj e2'
          cases hj : σ[j]? with
          | none => rw [hj] at e5; cases e5
          | some z => rw [hj] at e5; exact congrArg some e5
        have hvis : Vis X.env.scope x := by
          rcases ok.free (x, .free) (PySem.mem_of_lookup hfree) rfl with q | q
          · exact .inr (.inl q)
          · exact .inr (.inr q)
        obtain ⟨m0, hn0, hl⟩ := I.loc
        obtain ⟨u, r, lk⟩ := hl j x v hN e4 hvis
        refine ⟨u, r, .inr ⟨relabel_free hfree, ?_⟩⟩
        rcases lk with ⟨q, _⟩ | ⟨_, c, hc, z⟩
        · rcases ok.free (x, .free) (PySem.mem_of_lookup hfree) rfl with q2 | q2
          · exact absurd (q.symm.trans q2) (by decide)
          · exact absurd (q.symm.trans q2) (by decide)
        · obtain ⟨d, hd⟩ := clos_has (env := X.env) (PySem.mem_of_lookup hfree)
          have := clos_some ac hd
          rw [hc] at this; cases this
          obtain ⟨oc, e5, e6⟩ := z
          exact ⟨c, hd, oc, hk c oc e5, e6⟩
  · intro x c e
    obtain ⟨v, oc, e5, e6⟩ := I.cell x c (clos_some ac e)
    exact ⟨v, oc, hk c oc e5, e6⟩
  · exact I.hok.fresh (Nat.le_refl _)
  · intro x c e
    exact I.freeC x c (clos_some ac e)
  · intro p hp
    obtain ⟨e, n, ne, nf, d⟩ := I.pin p hp
    refine ⟨hk _ _ e, n, old e, fun z => ?_, d⟩
    rcases List.mem_cons.mp (I.stkSub p.1 z) with q | q
    · exact ne q
    · exact nf q
  · unfold sub
    rw [List.length_map]
    exact ok.len
/-- the block has ended -/
theorem comp_end {fp : List Addr} {cl : List (Str × Addr)} {C : Addr} {σ' : St} {H' : Hp} {s' : Shared} {h' : Heap} (I : Inv X pins σ H s) (hf : ∀ b ∈ fp, FpOk X pins H b) (hC : s.heap.get? C = none)
    (J : Inv (cxComp X Nc scope cl C s H fp) pins σ' H' s') (sb : Heap.SameBut C s'.heap h') : Inv X pins σ H' { s' with heap := h' } := by
  have u : Un (frs X.stack) fp H H' s.heap s'.heap := J.base
  have hCf : H' C = none := J.free
  have hCn : ∀ {b : Addr} {o : Obj}, s.heap.get? b = some o → b ≠ C := fun e z => by rw [z, hC] at e; cases e
  refine I.call' (s' := { s' with heap := h' }) (ch := fp) J.os ⟨fun b o e n h1 h2 => ?_, fun b o e n h1 h2 => ?_, u.free, fun b o e h2 => ?_, u.tups, u.frzs, u.tbls⟩ ?_ J.bare fun b hb => ?_
  · exact (sb.2 b (hCn e)).trans (u.keep b o e n h1 h2)
  · obtain ⟨sl, q⟩ := u.slot b o e n h1 h2
    exact ⟨sl, (sb.2 b (hCn e)).trans q⟩
  · obtain ⟨o', q⟩ := u.there b o e h2
    exact ⟨o', (sb.2 b (hCn e)).trans q⟩
  · intro b o e
    refine (J.hok b o e).stay (fun c v hc q => (sb.2 c ?_).trans q) (fun _ q => q) fun _ _ q => q
    rintro rfl
    rcases hc with z | z
    · rw [← z, hCf] at e; cases e
    · rw [hCf] at z; cases z
  · obtain ⟨f0, f1, f2, f3, f4, f5⟩ := hf b hb
    exact ⟨f3, f1, f4, f5⟩

end
end L3

set_option Elab.async false
set_option linter.all false
set_option maxRecDepth 100000
set_option maxHeartbeats 4000000
namespace L3
open PySem PySem.Spec PyProof.Rows L2

def memK (k : Key) (l : List Key) : Bool := l.any fun x => decide (x = k)
theorem memK_iff {k : Key} {l : List Key} : memK k l = true ↔ k ∈ l := by
  unfold memK
  rw [List.any_eq_true]
  constructor
  · rintro ⟨x, hx, e⟩
    have := of_decide_eq_true e
    subst this; exact hx
  · intro h; exact ⟨k, h, by simp⟩
theorem memK_snoc (k' k : Key) (l : List Key) : (memK k' l || decide (k' = k)) = memK k' (l ++ [k]) := by
  unfold memK
  rw [List.any_append]
  by_cases e : k' = k
  · subst e; simp
  · have e' : ¬ k = k' := fun z => e z.symm
    simp [e, e']
theorem memK_not {k : Key} {l : List Key} (h : ¬ k ∈ l) : memK k l = false := by
  cases e : memK k l with
  | false => rfl
  | true => exact absurd (memK_iff.mp e) h
theorem keyIs_scan {k : Key} {v : Value} (h : keyIs k v = true) : v.scannable = true := by
  rcases keyIs_shape h with ⟨i, t, rfl, rfl⟩ | ⟨x, t, rfl, rfl⟩ <;> rfl
theorem setOf_eq {prog : Program} {w : World} {h : Heap} {a : Addr} {S S' : Key → Bool} {n n' : Nat} (x : h.SetOf (mixKind prog w) a S n) (e : ∀ k, S k = S' k) (en : n = n') : h.SetOf (mixKind prog w) a S' n' := by
  have : S = S' := funext e
  subst this; subst en; exact x
theorem setOf_keep {prog : Program} {w : World} {h h' : Heap} {a : Addr} {S : Key → Bool} {n : Nat} (x : h.SetOf (mixKind prog w) a S n) (k : ∀ o, h.get? a = some o → h'.get? a = some o) : h'.SetOf (mixKind prog w) a S n := by
  obtain ⟨o, es, ep, t, ho, r⟩ := x
  exact ⟨o, es, ep, t, k o ho, r⟩

section
variable {prog : Program} {w : World} {A : Around} {E : Value → Shared → Prop} {R : Result → Shared → Prop}

theorem set_loop {I ax S : Addr} {items : Array Value} {ks : List Key} (hh : A.handled = none) (hne : ax ≠ I) (hSI : S ≠ I) (hSa : S ≠ ax)
    (hv : ∀ (i : Nat) v, items[i]? = some v → ∃ k, ks[i]? = some k ∧ keyIs k v = true) (hl : ks.length = items.size) (hb : items.size + 1 < scanBound) :
    ∀ (c i : Nat) (s : Shared) (n : Nat), items.size - i = c → i ≤ items.size → s.heap.IsListIter I ax i ∧ s.heap.IsList ax items →
      s.heap.SetOf (mixKind prog w) S (fun k => memK k (ks.take i)) n → n ≤ i → (n = i ↔ (ks.take i).Nodup) →
      (∀ (h' : Heap) (tk n' : Nat), h'.SetOf (mixKind prog w) S (fun k => memK k ks) n' → n' ≤ ks.length → (n' = ks.length ↔ ks.Nodup) → (∀ b o, b ≠ S → b ≠ I → s.heap.get? b = some o → h'.get? b = some o) →
        R (.ok (.ret .none)) { s with heap := h', toks := tk }) →
      codeAny (model prog w) A (.builtin "set.update.loop" ⟨[.ref S, .ref I], []⟩) R s := by
  have W := Walks.list (prog := prog) (w := w) (A := A.in1) (by simpa using hh) I ax hne items
  intro c
  induction c with
  | zero =>
    intro i s n hc hi st hS hn hnd hR
    have e : i = items.size := by omega
    subst e
    refine codeAny_builtin PyProof.Rows.F.entry_set_update_loop ?_
    rw [Around.under_plainId PyProof.Rows.F.plain_set_update_loop _]
    show wpAny _ A.in1 (pyNext (.ref I) >>= _) _ _ s
    refine wpAny_bind (W.done s _ _ st fun h' tk hk => ?_)
    show wpAny _ A.in1 (ret Value.none) _ _ _
    have et : ks.take items.size = ks := by rw [← hl]; exact List.take_length
    rw [et] at hnd
    refine wpAny_pure (hR h' tk n (setOf_eq (setOf_keep hS fun o z => hk S o (by simpa using hSI) z) (fun k => by rw [et]) rfl) (by omega) (by rw [hl]; exact hnd) fun b o _ hbI z => hk b o (by simpa using hbI) z)
  | succ c ih =>
    intro i s n hc hi st hS hn hnd hR
    have hlt : i < items.size := by omega
    refine codeAny_builtin PyProof.Rows.F.entry_set_update_loop ?_
    rw [Around.under_plainId PyProof.Rows.F.plain_set_update_loop _]
    show wpAny _ A.in1 (pyNext (.ref I) >>= _) _ _ s
    refine wpAny_bind (W.item i s _ _ hlt st fun v h1 tk hP st1 hk => ?_)
    obtain ⟨k, hki, kis⟩ := hv i v hP
    have hS1 : h1.SetOf (mixKind prog w) S (fun k => memK k (ks.take i)) n := setOf_keep hS fun o z => hk S o (by simpa using hSI) z
    show wpAny _ A.in1 (holding [v] (setAdd S v) >>= _) _ _ { s with heap := h1, toks := tk }
    refine wpAny_bind (wpAny_holding ?_)
    unfold setAdd
    refine wpAny_holding (wpAny_bind ((mixKind prog w).pyHash (k := k) kis ?_))
    refine wpAny_setAddHashed_of (knd := mixKind prog w) (s := { s with heap := h1, toks := tk + 1 }) kis (keyIs_scan kis) hS1 (by omega) fun h2 hsb hS2 => ?_
    have hik : i < ks.length := by omega
    have ek : ks[i] = k := by
      have := List.getElem?_eq_getElem hik
      rw [hki] at this
      exact (Option.some.inj this).symm
    have et : ks.take (i + 1) = ks.take i ++ [k] := by rw [List.take_add_one, hki]; rfl
    have e1 : ∀ k', (memK k' (ks.take i) || decide (k' = k)) = memK k' (ks.take (i + 1)) := fun k' => by rw [et]; exact memK_snoc _ _ _
    by_cases hin : k ∈ ks.take i
    · have hS3 := setOf_eq (n' := n) hS2 e1 (by rw [if_pos (memK_iff.mpr hin)])
      refine wpAny_pure ⟨plainId_quiet PyProof.Rows.F.plain_set_update_loop _, ih (i + 1) _ n (by omega) hlt (W.frame _ _ _ st1 fun b hb o z => ?_) hS3 (by omega) ?_ fun h' tk' n' a1 a2 a3 a4 => ?_⟩
      · rw [hsb.2 b (fun q => by subst q; simp at hb; exact hb.elim hSI hSa)]; exact z
      · constructor
        · intro q; omega
        · intro q
          rw [et] at q
          exact absurd hin (fun z => (List.nodup_append.mp q).2.2 _ z _ (by simp) rfl)
      · exact hR h' tk' n' a1 a2 a3 fun b o hbS hbI z => a4 b o hbS hbI (by rw [hsb.2 b hbS]; exact hk b o (by simpa using hbI) z)
    · have hS3 := setOf_eq (n' := n + 1) hS2 e1 (by rw [memK_not hin]; rfl)
      refine wpAny_pure ⟨plainId_quiet PyProof.Rows.F.plain_set_update_loop _, ih (i + 1) _ (n + 1) (by omega) hlt (W.frame _ _ _ st1 fun b hb o z => ?_) hS3 (by omega) ?_ fun h' tk' n' a1 a2 a3 a4 => ?_⟩
      · rw [hsb.2 b (fun q => by subst q; simp at hb; exact hb.elim hSI hSa)]; exact z
      · rw [et]
        constructor
        · intro q
          exact List.nodup_append.mpr ⟨hnd.mp (by omega), by simp, fun a ha b hb q2 => by rw [List.mem_singleton.mp hb] at q2; subst q2; exact hin ha⟩
        · intro q
          have := hnd.mpr (List.nodup_append.mp q).1
          omega
      · exact hR h' tk' n' a1 a2 a3 fun b o hbS hbI z => a4 b o hbS hbI (by rw [hsb.2 b hbS]; exact hk b o (by simpa using hbI) z)

set_option maxHeartbeats 8000000 in
theorem call_set_keys {s : Shared} {l : Addr} {items : Array Value} {ks : List Key} {Q : Value → Shared → Prop} (hh : A.handled = none) (hl : s.heap.IsList l items)
    (hv : ∀ (i : Nat) v, items[i]? = some v → ∃ k, ks[i]? = some k ∧ keyIs k v = true) (hz : ks.length = items.size) (hb : items.size + 1 < scanBound)
    (h : ∀ (h' : Heap) (tk n : Nat), h'.SetOf (mixKind prog w) s.heap.objs.size (fun k => memK k ks) n → n ≤ ks.length → (n = ks.length ↔ ks.Nodup) → (∀ b o, s.heap.get? b = some o → h'.get? b = some o) → Q (.ref s.heap.objs.size) { s with heap := h', toks := tk }) :
    wpAny (model prog w) A (call (.type "set") [.ref l]) Q E s := by
  have hmade := PySem.F.called_set.made
  have hsub := PySem.F.called_set.sub
  obtain ⟨c, tl, hmro⟩ := PySem.F.called_set.mro
  refine wpAny_call (codeAny_of_tree (wpAny_pure ⟨Code.quiet_builtin _ (by decide +kernel), codeAny_builtin PySem.F.entry_type_call ?_⟩))
  rw [Around.under_plain (weight_type_call_type "set" [.ref l] []) rfl]
  have g1 := PySem.F.called_set.notType
  have g2 := PySem.F.called_set.canCreate
  have g3 := PySem.F.typeCall_set_1 (.ref l)
  repeat (any_goals (first | assumption | wp_step))
  refine codeAny_mono (code_set_new_1 (.ref l) (E := E) (Q₁ := fun obj t => ∃ led : Bool, obj = .ref s.heap.objs.size ∧ t = { s with heap := s.heap.push { cls := .type "set", dict := none, data := .set #[] 0 (.fresh 0 0 led) } }) fun led => ⟨led, rfl, rfl⟩) fun r t hr => ?_
  cases r with
  | error e => exact hr
  | ok fl =>
    cases fl with
    | ret obj =>
      obtain ⟨led, rfl, rfl⟩ := hr
      have hS : (s.heap.push { cls := .type "set", dict := none, data := .set #[] 0 (.fresh 0 0 led) }).get? s.heap.objs.size = some { cls := .type "set", dict := none, data := .set #[] 0 (.fresh 0 0 led) } := Heap.get?_push_size _ rfl
      have hT : Shared.TypeIs { s with heap := s.heap.push { cls := .type "set", dict := none, data := .set #[] 0 (.fresh 0 0 led) } } (.ref s.heap.objs.size) "set" := ⟨_, hS, rfl⟩
      have hli := PySem.F.called_set.init.lookup
      have hbi := PySem.F.called_set.init.bind (.ref s.heap.objs.size)
      repeat (any_goals (first | assumption | wp_step))
      refine codeAny_mono (codeAny_call_builtin (R := wants (fun r u => r = .none ∧ ∃ h' tk n, u = { s with heap := h', toks := tk } ∧ h'.SetOf (mixKind prog w) s.heap.objs.size (fun k => memK k ks) n ∧ n ≤ ks.length ∧ (n = ks.length ↔ ks.Nodup) ∧
          (∀ b o, s.heap.get? b = some o → h'.get? b = some o)) E) PySem.F.called_set.init.plain PySem.F.entry_set_init (check_set_init_1 hT ?_)) fun r2 u hr2 => ?_
      · obtain ⟨ol, hol, hcl, nl, hdl⟩ := hl
        obtain ⟨ocls, odict, odata, oslots⟩ := ol
        simp only at hcl hdl
        subst hcl; subst hdl
        have hol' : (s.heap.push { cls := .type "set", dict := none, data := .set #[] 0 (.fresh 0 0 led) }).get? l = some { cls := .type "list", dict := odict, data := .seq items nl, slots := oslots } := Heap.get?_push_of_some _ hol
        have hsls := PySem.F.sub_list_set
        have hslf := PySem.F.sub_list_frozenset
        have hne : (Value.type "list" == Value.type "dict") = false := by decide
        have hl1 : (s.heap.push { cls := .type "set", dict := none, data := .set #[] 0 (.fresh 0 0 led) }).IsList l items := ⟨_, hol', rfl, nl, rfl⟩
        unfold Builtin.«set.__init__» noKeywords Builtin.Frozenset.updateFrom
        generalize hPI : pyIter = PI
        wp_walk
        subst hPI
        refine wpAny_pyIter_list hl1 ?_
        refine wpAny_bind (wpAny_runValue ?_)
        have hlS : l < s.heap.objs.size := Heap.lt_size hol
        have z1 : (s.heap.push { cls := .type "set", dict := none, data := .set #[] 0 (.fresh 0 0 led) }).objs.size = s.heap.objs.size + 1 := Heap.size_push _ _
        refine set_loop (ks := ks) (items := items) (ax := l) (by simpa using hh) (by rw [z1]; exact Nat.ne_of_lt (Nat.lt_succ_of_lt hlS)) (by rw [z1]; exact Nat.ne_of_lt (Nat.lt_succ_self _)) (Nat.ne_of_gt hlS) hv hz hb (items.size - 0) 0 _ 0 (by omega) (Nat.zero_le _)
          ⟨⟨_, Heap.get?_push_size _ rfl, rfl, rfl⟩, (hl1.push _)⟩ ?hS0 (Nat.le_refl _) (by simp) ?hR
        case hS0 =>
          refine setOf_eq (setOf_keep (h := s.heap.push { cls := .type "set", dict := none, data := .set #[] 0 (.fresh 0 0 led) }) ?_ fun o z => Heap.get?_push_of_some _ z) (S := fun _ => false) (fun k => rfl) rfl
          exact ⟨_, #[], 0, _, hS, ⟨rfl, rfl, rfl⟩, rfl, (fun e he => by simp at he), (fun k => by simp [memK]), (by unfold scanBound; decide), rfl, rfl⟩
        case hR =>
          intro h' tk n a1 a2 a3 a4
          show wpAny _ _ _ _ _ _
          refine wpAny_pure ?_
          show wpAny _ _ (ret Value.none) _ _ _
          refine wpAny_pure ⟨rfl, h', tk, n, rfl, a1, a2, a3, fun b o z => ?_⟩
          have hlt := Heap.lt_size z
          exact a4 b o (Nat.ne_of_lt hlt) (by rw [z1]; exact Nat.ne_of_lt (Nat.lt_succ_of_lt hlt)) (Heap.get?_push_of_some _ (Heap.get?_push_of_some _ z))
      · cases r2 with
        | error e => exact hr2
        | ok fl2 =>
          cases fl2 with
          | ret r =>
            obtain ⟨rfl, h', tk, n, rfl, a1, a2, a3, a4⟩ := hr2
            repeat (any_goals (first | assumption | wp_step))
            exact h _ _ n a1 a2 a3 a4
          | _ => exact hr2.elim
    | _ => exact hr.elim
end

/-- a set of so many things stands at a -/
def SetN (a : Addr) (n : Nat) : HO := .ext fun h => ∃ o es ep t, h.get? a = some o ∧ o.ExactSet ∧ o.data = .set es ep t ∧ t.fits es.size = true ∧ es.size = n

section
variable {X : Cx}
theorem vals_keys : ∀ {ks : List Key} {us : List Value}, Vals (ks.map kV) us → ∀ (i : Nat) v, us[i]? = some v → ∃ k, ks[i]? = some k ∧ keyIs k v = true
  | [], _, .nil, i, v, h => by simp at h
  | k :: r, _, .cons a b, 0, v, h => by
    simp at h; subst h
    refine ⟨k, rfl, ?_⟩
    cases k with
    | inl n => obtain ⟨t, rfl⟩ := a; exact keyIs_int n t
    | inr x => obtain ⟨t, rfl⟩ := a; exact keyIs_str x t
  | k :: r, _, .cons a b, i + 1, v, h => by
    obtain ⟨k', e, q⟩ := vals_keys b i v (by simpa using h)
    exact ⟨k', by simpa using e, q⟩
/-- set(xs), the items ints and texts -/
theorem call_set (hc : X.calm = true) : CallR X (.type "set") (fun xs H Q => ∃ (p : Addr) (ks : List Key), xs = [.ref p] ∧ SqL X.K H p (ks.map kV) ∧ ks.length < 4000 ∧ ∀ n a, n ≤ ks.length → (n = ks.length ↔ ks.Nodup) → H a = none → Q (.ref a) (upd H a (SetN a n))) := by
  intro pins s σ H xs us Q I r h
  obtain ⟨p, ks, rfl, hq, hl, q⟩ := h
  obtain ⟨u, rfl, ru⟩ := vals1 r
  obtain rfl : u = Value.ref p := ru
  obtain ⟨its, rv, pl, hz⟩ := I.list hq
  have el := rv.length
  rw [List.length_map] at el
  refine call_set_keys (I.ok.hd hc) pl.isList (fun i v e => vals_keys rv i v (by simpa using e)) (by simpa using el) (by unfold scanBound; simp; omega) fun h' tk n a1 a2 a3 a4 => ?_
  refine ⟨.ref s.heap.objs.size, _, I.laid a4 (Nat.le_refl _) ?_, rfl, q n _ a2 a3 (I.hok.fresh (Nat.le_refl _))⟩
  obtain ⟨o, es, ep, t, ho, e1, e2, e3, e4, e5, e6, e7⟩ := a1
  refine ⟨⟨o, es, ep, t, ho, e1, e2, e6, e7⟩, ⟨o, ho⟩, ?_⟩
  rintro h1 h2 ⟨o1, es1, ep1, t1, b1, b2⟩ k
  exact ⟨o1, es1, ep1, t1, k _ b1, b2⟩
/-- len of such a set -/
theorem call_lenS : CallR X (.builtin "len") (fun xs H Q => ∃ a n, xs = [.ref a] ∧ H a = some (SetN a n) ∧ n < 4000 ∧ Q (.int n) H) := by
  intro pins s σ H xs us Q I r h
  obtain ⟨a, n, rfl, ha, hn, q⟩ := h
  obtain ⟨u, rfl, ru⟩ := vals1 r
  obtain rfl : u = Value.ref a := ru
  obtain ⟨⟨o, es, ep, t, e1, e2, e3, e4, e5⟩, _⟩ := I.hok a _ ha
  refine call_len_set e1 e2 e3 e4 (by omega) ?_
  exact ⟨.int n, H, I.tok _, ⟨_, by rw [e5]⟩, q⟩
end
end L3

set_option Elab.async false
set_option linter.all false
set_option maxRecDepth 100000
set_option maxHeartbeats 4000000
namespace L3
open PySem PySem.Spec PyProof.Rows L2

/-! ### sorting -/
def sortI (ns : List Int) : List Int := ns.mergeSort fun a b => decide (a ≤ b)
theorem sortI_perm (ns : List Int) : (sortI ns).Perm ns := List.mergeSort_perm _ _
theorem sortI_pw (ns : List Int) : (sortI ns).Pairwise (· ≤ ·) := by
  have h := List.pairwise_mergeSort (le := fun a b : Int => decide (a ≤ b)) (fun a b c h1 h2 => by simp at *; omega) (fun a b => by simp; omega) ns
  exact h.imp fun h => by simpa using h
theorem sortI_eq {ns ms : List Int} (hp : ms.Perm ns) (hs : ms.Pairwise (· ≤ ·)) : ms = sortI ns :=
  PySem.W.ksm_same (hp.trans (sortI_perm ns).symm) hs (sortI_pw ns)
def leS (a b : Str) : Bool := !decide (b.cps.toList < a.cps.toList)
theorem leS_trans (a b c : Str) (h1 : leS a b = true) (h2 : leS b c = true) : leS a c = true := by
  unfold leS at *
  simp only [Bool.not_eq_true', decide_eq_false_iff_not, List.not_lt] at *
  exact List.le_trans h1 h2
theorem leS_total (a b : Str) : (leS a b || leS b a) = true := by
  unfold leS
  simp only [Bool.or_eq_true, Bool.not_eq_true', decide_eq_false_iff_not, List.not_lt]
  exact List.le_total _ _
theorem leS_anti {a b : Str} (h1 : leS a b = true) (h2 : leS b a = true) : a = b := by
  unfold leS at *
  simp only [Bool.not_eq_true', decide_eq_false_iff_not, List.not_lt] at *
  have e := List.le_antisymm h1 h2
  cases a; cases b
  simp only [Str.mk.injEq]
  exact Array.toList_inj.mp e
def sortS (ss : List Str) : List Str := ss.mergeSort leS
theorem sortS_perm (ss : List Str) : (sortS ss).Perm ss := List.mergeSort_perm _ _
theorem sortS_pw (ss : List Str) : (sortS ss).Pairwise (fun a b => leS a b = true) := List.pairwise_mergeSort (le := leS) leS_trans leS_total ss
theorem sortS_eq {ss ts : List Str} (hp : ts.Perm ss) (hs : ts.Pairwise fun a b => leS a b = true) : ts = sortS ss :=
  (hp.trans (sortS_perm ss).symm).eq_of_pairwise (fun x y _ _ h1 h2 => leS_anti h1 h2) hs (sortS_pw ss)
theorem rising_pw : ∀ (l : List Str) (p : Str), risingS p l = true → (∀ y ∈ l, leS p y = true) ∧ l.Pairwise fun a b => leS a b = true
  | [], _, _ => ⟨fun _ h => (nomatch h), .nil⟩
  | x :: r, p, h => by
    have h' : (!ltCps x.cps.toList p.cps.toList && risingS x r) = true := h
    rw [Bool.and_eq_true] at h'
    have hx : leS p x = true := by
      have := h'.1
      rw [ltCps_eq] at this
      exact this
    obtain ⟨a, b⟩ := rising_pw r x h'.2
    refine ⟨fun y hy => ?_, .cons (fun y hy => a y hy) b⟩
    rcases List.mem_cons.mp hy with rfl | hy
    · exact hx
    · exact leS_trans _ _ _ hx (a y hy)
theorem sortedS_pw {l : List Str} (h : sortedS l = true) : l.Pairwise fun a b => leS a b = true := by
  cases l with
  | nil => exact .nil
  | cons x r =>
    obtain ⟨a, b⟩ := rising_pw r x h
    exact .cons a b

theorem strsAre_of : ∀ {ss : List Str} {us : List Value}, Vals (ss.map V.str) us → StrsAre us ss
  | [], _, .nil => .nil
  | x :: r, _, .cons a b => by
    obtain ⟨t, rfl⟩ := a
    exact .cons x t (strsAre_of b)
theorem vals_strs : ∀ {ss : List Str} {us : List Value}, StrsAre us ss → Vals (ss.map V.str) us
  | _, _, .nil => .nil
  | _, _, .cons y t r => .cons ⟨t, rfl⟩ (vals_strs r)
theorem vals_intsA : ∀ {ns : List Int} {us : List Value}, IntsAre us ns → Vals (ns.map V.int) us
  | _, _, .nil => .nil
  | _, _, .cons n t r => .cons ⟨t, rfl⟩ (vals_intsA r)
theorem vals_bools : ∀ {bs : List Bool} {us : List Value}, Vals (bs.map V.bl) us → ∀ (i : Nat) v, us[i]? = some v → ∃ b, bs[i]? = some b ∧ v = .bool b
  | [], _, .nil, i, v, h => by simp at h
  | b :: r, _, .cons a c, 0, v, h => by simp at h; subst h; exact ⟨b, rfl, a⟩
  | b :: r, _, .cons a c, i + 1, v, h => by
    obtain ⟨b', e, q⟩ := vals_bools c i v (by simpa using h)
    exact ⟨b', by simpa using e, q⟩

section
variable {X : Cx}
theorem call_sortedI : CallR X (.builtin "sorted") (fun xs H Q => ∃ (p : Addr) (ns : List Int), xs = [.ref p] ∧ SqL X.K H p (ns.map V.int) ∧ ns.length < 64 ∧ ∀ l, H l = none → Q (.ref l) (upd H l (.lst ((sortI ns).map V.int)))) := by
  intro pins s σ H xs us Q I r h
  obtain ⟨p, ns, rfl, hq, hl, q⟩ := h
  obtain ⟨u, rfl, ru⟩ := vals1 r
  obtain rfl : u = Value.ref p := ru
  obtain ⟨its, rv, pl, hz⟩ := I.list hq
  have el := rv.length
  rw [List.length_map] at el
  refine sorted_ints pl.isList (intsAre_of rv) (by omega) fun out ms a1 a2 a3 => ?_
  obtain rfl := sortI_eq a2 a3
  obtain ⟨e, he⟩ := sortedAll_at s.heap its out
  have hlen : ((sortI ns).map V.int).length ≤ sizeLine := by rw [List.length_map, (sortI_perm ns).length_eq, ← List.length_map (f := V.int)]; exact hz
  have ne : H (s.heap.objs.size + 1) = none := I.hok.fresh (Nat.le_succ _)
  exact ⟨.ref (s.heap.objs.size + 1), _, I.laid (o := .lst ((sortI ns).map V.int)) (t' := s.toks) (fun b o z => sortedAll_old z) (Nat.le_succ _) ⟨hlen, out.toList, e, vals_intsA a1, by simpa using he⟩, rfl, q _ ne⟩
theorem call_sortedS : CallR X (.builtin "sorted") (fun xs H Q => ∃ (p : Addr) (ss : List Str), xs = [.ref p] ∧ SqL X.K H p (ss.map V.str) ∧ ss.length < 64 ∧ ∀ l, H l = none → Q (.ref l) (upd H l (.lst ((sortS ss).map V.str)))) := by
  intro pins s σ H xs us Q I r h
  obtain ⟨p, ns, rfl, hq, hl, q⟩ := h
  obtain ⟨u, rfl, ru⟩ := vals1 r
  obtain rfl : u = Value.ref p := ru
  obtain ⟨its, rv, pl, hz⟩ := I.list hq
  have el := rv.length
  rw [List.length_map] at el
  refine sorted_strs pl.isList (strsAre_of rv) (by omega) fun out ms a1 a2 a3 => ?_
  obtain rfl := sortS_eq a2 (sortedS_pw a3)
  obtain ⟨e, he⟩ := sortedAll_at s.heap its out
  have hlen : ((sortS ns).map V.str).length ≤ sizeLine := by rw [List.length_map, (sortS_perm ns).length_eq, ← List.length_map (f := V.str)]; exact hz
  have ne : H (s.heap.objs.size + 1) = none := I.hok.fresh (Nat.le_succ _)
  exact ⟨.ref (s.heap.objs.size + 1), _, I.laid (o := .lst ((sortS ns).map V.str)) (t' := s.toks) (fun b o z => sortedAll_old z) (Nat.le_succ _) ⟨hlen, out.toList, e, vals_strs a1, by simpa using he⟩, rfl, q _ ne⟩
/-- sorted, of texts or of ints -/
def rSorted (K : PySem.W.Frag) : List V → Hp → VK → Prop := fun xs H Q => (∃ (p : Addr) (ss : List Str), xs = [.ref p] ∧ SqL K H p (ss.map V.str) ∧ ss.length < 64 ∧ ∀ l, H l = none → Q (.ref l) (upd H l (.lst ((sortS ss).map V.str)))) ∨ (∃ (p : Addr) (ns : List Int), xs = [.ref p] ∧ SqL K H p (ns.map V.int) ∧ ns.length < 64 ∧ ∀ l, H l = none → Q (.ref l) (upd H l (.lst ((sortI ns).map V.int))))
theorem call_sorted : CallR X (.builtin "sorted") (rSorted X.K) := call_sortedS.or call_sortedI

/-! ### all, any of a list of truths -/
theorem range_all {bs : List Bool} : ((List.range bs.length).all fun i => (bs[i]?).getD true) = bs.all id := by
  induction bs with
  | nil => rfl
  | cons b r ih =>
    rw [List.length_cons, List.range_succ_eq_map, List.all_cons, List.all_map, List.all_cons, ← ih]
    rfl
theorem range_any {bs : List Bool} : ((List.range bs.length).any fun i => (bs[i]?).getD false) = bs.any id := by
  induction bs with
  | nil => rfl
  | cons b r ih =>
    rw [List.length_cons, List.range_succ_eq_map, List.any_cons, List.any_map, List.any_cons, ← ih]
    rfl
theorem call_all (hc : X.calm = true) : CallR X (.builtin "all") (fun xs H Q => ∃ (p : Addr) (bs : List Bool), xs = [.ref p] ∧ SqL X.K H p (bs.map V.bl) ∧ Q (.bl (bs.all id)) H) := by
  intro pins s σ H xs us Q I r h
  obtain ⟨p, bs, rfl, hq, q⟩ := h
  obtain ⟨u, rfl, ru⟩ := vals1 r
  obtain rfl : u = Value.ref p := ru
  obtain ⟨its, rv, pl, hz⟩ := I.list hq
  have el := rv.length
  rw [List.length_map] at el
  have hlt : p < s.heap.objs.size := by obtain ⟨_, e, _⟩ := pl.isList; exact Heap.lt_size e
  refine call_all_walk (wpAny_pyIter_list pl.isList ?_)
  refine ⟨s.heap.objs.size, [s.heap.objs.size, p], [s.heap.objs.size], its.toArray.size, _, _, fun i => (bs[i]?).getD true, rfl, Walks.list (A := X.A.in1) (by simpa using I.ok.hd hc) _ p (Nat.ne_of_lt hlt) its.toArray,
    ⟨⟨_, Heap.get?_push_size _ rfl, rfl, rfl⟩, pl.isList.push _⟩, fun i v s' Q' E' hP hQ => ?_, fun h' tk hk => ?_⟩
  · obtain ⟨b, e, rfl⟩ := vals_bools rv i v (by simpa using hP)
    simp only [e, Option.getD_some] at hQ
    exact wpAny_truthy_bool hQ
  · rw [List.size_toArray, ← el, range_all]
    exact ⟨.bl _, H, I.kept fun b o e => hk b o (by simpa using Nat.ne_of_lt (Heap.lt_size e)) (Heap.get?_push_of_some _ e), rfl, q⟩
theorem call_any (hc : X.calm = true) : CallR X (.builtin "any") (fun xs H Q => ∃ (p : Addr) (bs : List Bool), xs = [.ref p] ∧ SqL X.K H p (bs.map V.bl) ∧ Q (.bl (bs.any id)) H) := by
  intro pins s σ H xs us Q I r h
  obtain ⟨p, bs, rfl, hq, q⟩ := h
  obtain ⟨u, rfl, ru⟩ := vals1 r
  obtain rfl : u = Value.ref p := ru
  obtain ⟨its, rv, pl, hz⟩ := I.list hq
  have el := rv.length
  rw [List.length_map] at el
  have hlt : p < s.heap.objs.size := by obtain ⟨_, e, _⟩ := pl.isList; exact Heap.lt_size e
  refine call_any_walk (wpAny_pyIter_list pl.isList ?_)
  refine ⟨s.heap.objs.size, [s.heap.objs.size, p], [s.heap.objs.size], its.toArray.size, _, _, fun i => (bs[i]?).getD false, rfl, Walks.list (A := X.A.in1) (by simpa using I.ok.hd hc) _ p (Nat.ne_of_lt hlt) its.toArray,
    ⟨⟨_, Heap.get?_push_size _ rfl, rfl, rfl⟩, pl.isList.push _⟩, fun i v s' Q' E' hP hQ => ?_, fun h' tk hk => ?_⟩
  · obtain ⟨b, e, rfl⟩ := vals_bools rv i v (by simpa using hP)
    simp only [e, Option.getD_some] at hQ
    exact wpAny_truthy_bool hQ
  · rw [List.size_toArray, ← el, range_any]
    exact ⟨.bl _, H, I.kept fun b o e => hk b o (by simpa using Nat.ne_of_lt (Heap.lt_size e)) (Heap.get?_push_of_some _ e), rfl, q⟩

/-! ### range(n) as a value, list(range(n)) -/
theorem call_rng : CallR X (.type "range") (fun xs H Q => ∃ j : Int, xs = [.int j] ∧ ∀ p, H p = none → Q (.ref p) (upd H p (.rng 0 j))) := by
  intro pins s σ H xs us Q I r h
  obtain ⟨j, rfl, q⟩ := h
  obtain ⟨u, rfl, ru⟩ := vals1 r
  obtain ⟨t, rfl⟩ := (show ∃ t, u = Value.int j t from ru)
  refine call_range_1 ?_
  exact ⟨.ref s.heap.objs.size, _, I.laid (o := .rng 0 j) (fun b o e => Heap.get?_push_of_some _ e) (Nat.le_refl _) ⟨_, _, _, Heap.get?_push_size _ rfl⟩, rfl, q _ (I.hok.fresh (Nat.le_refl _))⟩
def upTo (n : Int) : List Int := (List.range n.toNat).map fun (k : Nat) => (k : Int)
theorem vals_range {its : List Value} {n : Nat} {lo : Int} (h : ItemsOf (fun i v => ∃ t, v = .int (lo + i * 1) t) its.toArray n) : Vals ((List.range n).map fun (k : Nat) => V.int (lo + (k : Int))) its := by
  obtain ⟨h1, h2⟩ := h
  rw [List.size_toArray] at h1
  induction its generalizing n lo with
  | nil => simp at h1; subst h1; exact .nil
  | cons u r ih =>
    cases n with
    | zero => simp at h1
    | succ n =>
      rw [List.range_succ_eq_map, List.map_cons, List.map_map]
      obtain ⟨t, e⟩ := h2 0 u (by simp)
      refine .cons ⟨t, by rw [e]; simp⟩ ?_
      have := ih (n := n) (lo := lo + 1) (by simpa using h1) (fun j v hj => by
        obtain ⟨t, e⟩ := h2 (j + 1) v (by simpa using hj)
        exact ⟨t, by rw [e]; congr 1; push_cast; omega⟩)
      refine (show Vals _ r from ?_)
      have e2 : (List.range n).map (fun (k : Nat) => V.int (lo + 1 + (k : Int))) = (List.range n).map ((fun (k : Nat) => V.int (lo + (k : Int))) ∘ Nat.succ) := by
        apply List.map_congr_left
        intro k _
        simp only [Function.comp]
        congr 1
        push_cast
        omega
      rw [← e2]; exact this
theorem call_list_rng (hc : X.calm = true) : CallR X (.type "list") (fun xs H Q => ∃ (p : Addr) (j : Int), xs = [.ref p] ∧ H p = some (.rng 0 j) ∧ 0 ≤ j ∧ j ≤ 1000000 ∧ ∀ l, H l = none → Q (.ref l) (upd H l (.lst ((upTo j).map V.int)))) := by
  intro pins s σ H xs us Q I r h
  obtain ⟨p, j, rfl, hp, h0, h1, q⟩ := h
  obtain ⟨u, rfl, ru⟩ := vals1 r
  obtain rfl : u = Value.ref p := ru
  obtain ⟨t, u, v, e⟩ := I.hok p _ hp
  refine call_list_range (a := 0) (b := j) (c := 1) (n := j.toNat) (I.ok.hd hc) e (small_one (by omega) (by omega) (by omega) (by omega)) (by rw [rangeSize_one]; split <;> omega) (by omega) fun h' tk acc c' hk he hi => ?_
  have hv : Vals ((upTo j).map V.int) acc.toList := by
    have := vals_range (its := acc.toList) (n := j.toNat) (lo := 0) (by simpa using hi)
    unfold upTo
    rw [List.map_map]
    have e2 : (List.range j.toNat).map (fun (k : Nat) => V.int (0 + (k : Int))) = (List.range j.toNat).map (V.int ∘ fun (k : Nat) => (k : Int)) := by
      apply List.map_congr_left
      intro k _
      simp
    rw [← e2]; exact this
  have hz : ((upTo j).map V.int).length ≤ sizeLine := by unfold upTo; rw [List.length_map, List.length_map, List.length_range, sizeLine_eq]; omega
  exact ⟨.ref s.heap.objs.size, _, I.laid (o := .lst ((upTo j).map V.int)) hk (Nat.le_refl _) ⟨hz, acc.toList, c', hv, by simpa using he⟩, rfl, q _ (I.hok.fresh (Nat.le_refl _))⟩

/-! ### xs[::-1] -/
def tRev (K : PySem.W.Frag) (te : TE) (ts : TO) : TE := fun σ H Q => te σ H fun x H1 => ts σ H1 fun k H2 => ∃ a xs, x = .ref a ∧ k = some (-1) ∧ SqL K H2 a xs ∧ ∀ p, H2 p = none → Q (.ref p) (upd H2 p (.lst xs.reverse))
theorem pe_rev {e st : Expr} {te : TE} {ts : TO} {pos p2 : Pos} (he : PE X e te) (hs : PO X (some st) ts) : PE X (.Subscript e (.Slice none none (some st) p2) pos) (tRev X.K te ts) := by
  intro pins s σ H Q I h
  refine Subscript_ (thn (he pins s σ H _ I h) fun v s1 ⟨x, H1, I1, r1, q1⟩ => ?_)
  refine wpAny_Slice ?_
  rw [evalPart_none]
  refine wpAny_pure (wpAny_pure (thn (hs pins s1 σ H1 _ I1 q1) fun vk s3 ⟨k, H3, I3, pk, q3⟩ => ?_))
  obtain ⟨a, xs, rfl, rfl, hq, q⟩ := q3
  obtain rfl : v = Value.ref a := r1
  obtain ⟨its, r, ht, hz⟩ := I3.list hq
  have hlen := r.length
  have I4 : Inv X pins σ H3 { s3 with heap := s3.heap.push { cls := .type "slice", data := .fields #[.none, .none, vk] } } := I3.kept (t' := s3.toks) fun b ob q => Heap.get?_push_of_some _ q
  obtain ⟨its4, r4, ht4, hz4⟩ := I4.list hq
  have hlen4 := r4.length
  show wpAny (model X.prog X.w) X.A (subscriptTail e (.Slice none none (some st) p2) (.ref a) (.ref s3.heap.objs.size)) (EP X pins σ Q) X.xe { s3 with heap := s3.heap.push { cls := .type "slice", data := .fields #[.none, .none, vk] } }
  refine tail_any (ops := [.ref a, .ref s3.heap.objs.size]) ht4.isList.typeIs slot_list_getitem.lookup ?_ (by with_unfolding_all rfl)
  refine wpAny_getItem_list_slice ht4.isList (Heap.IsSliceOf.new ..) .none .none pk (by simp) ?_ (by rw [List.size_toArray] <;> omega)
  rw [PySem.W.krv_pick]
  refine ⟨.ref _, _, I4.laid (t' := s3.toks) (o := .lst xs.reverse) (fun b ob q => Heap.get?_push_of_some _ q) (Nat.le_refl _) ?_, rfl, q _ (I4.hok.fresh (Nat.le_refl _))⟩
  exact ⟨by rw [List.length_reverse]; exact hz, its4.reverse, 0, r4.reverse, Heap.get?_push_size _ rfl⟩
end

/-! ### == of things within things -/
mutual
inductive Dp (K : PySem.W.Frag) (H : Hp) : V → PyData → Prop
  | non : Dp K H .non .none
  | bl (b) : Dp K H (.bl b) (.bool b)
  | int (i) : Dp K H (.int i) (.int i)
  | str (x) : Dp K H (.str x) (.str x)
  | lst {a xs ds} : SqL K H a xs → DpAll K H xs ds → Dp K H (.ref a) (.list ds)
  | tup {a xs ds} : SqT K H a xs → DpAll K H xs ds → Dp K H (.ref a) (.tuple ds)
inductive DpAll (K : PySem.W.Frag) (H : Hp) : List V → List PyData → Prop
  | nil : DpAll K H [] []
  | cons {v d vs ds} : Dp K H v d → DpAll K H vs ds → DpAll K H (v :: vs) (d :: ds)
end
section
variable {X : Cx} {pins : List (Addr × Obj)} {σ : St} {H : Hp} {s : Shared}
mutual
theorem Dp.reads (I : Inv X pins σ H s) : ∀ {v : V} {d : PyData} {u : Value}, Dp X.K H v d → RelV v u → ∃ as, Reads s.heap u d as
  | _, _, u, .non, r => by cases (show u = Value.none from r); exact ⟨_, .none⟩
  | _, _, u, .bl b, r => by cases (show u = Value.bool b from r); exact ⟨_, .bool b⟩
  | _, _, u, .int i, r => by obtain ⟨t, e⟩ := (show ∃ t, u = Value.int i t from r); cases e; exact ⟨_, .int i t⟩
  | _, _, u, .str x, r => by obtain ⟨t, e⟩ := (show ∃ t, u = Value.str x t from r); cases e; exact ⟨_, .str x t⟩
  | _, _, u, .lst (a := a) h hs, r => by
    cases (show u = Value.ref a from r)
    obtain ⟨its, rv, pl, _⟩ := I.list h
    obtain ⟨o, ho, hc, n, hd⟩ := pl.isList
    obtain ⟨as, q⟩ := DpAll.reads I hs rv
    exact ⟨_, .list ho hc hd (by simpa using q)⟩
  | _, _, u, .tup (a := a) h hs, r => by
    cases (show u = Value.ref a from r)
    obtain ⟨its, rv, ⟨o, ho, hc, n, hd⟩, _⟩ := I.tuple h
    obtain ⟨as, q⟩ := DpAll.reads I hs rv
    exact ⟨_, .tuple ho hc hd (by simpa using q)⟩
theorem DpAll.reads (I : Inv X pins σ H s) : ∀ {vs : List V} {ds : List PyData} {us : List Value}, DpAll X.K H vs ds → Vals vs us → ∃ as, ReadsAll s.heap us ds as
  | _, _, _, .nil, .nil => ⟨_, .nil⟩
  | _, _, _, .cons h hs, .cons r rs => by
    obtain ⟨as, a⟩ := h.reads I r
    obtain ⟨bs, b⟩ := hs.reads I rs
    exact ⟨_, .cons a b⟩
end
inductive rEqD_R (K : PySem.W.Frag) (neg : Bool) (x : V) (y : V) (H : Hp) (Q : VK) : Prop
  | mk (d : _) (e : _) (h0 : Dp K H x d) (h1 : Dp K H y e) (h2 : d.canLay0 = true) (h3 : e.canLay0 = true) (h4 : d.depth ≤ 60) (h5 : Q (.bl (if neg then !PyData.eqv d e else PyData.eqv d e)) H) : rEqD_R K neg x y H Q
def rEqD (K : PySem.W.Frag) (neg : Bool) : R2 := fun x y H Q => rEqD_R K neg x y H Q
theorem op_eqD (hu : X.A.units + 64 < cLine) : OpR X (compareOp .Eq) (rEqD X.K false) := by
  intro pins s σ H x y u v Q I rx ry h
  obtain ⟨d, e, hx, hy, c1, c2, dp, q⟩ := h
  obtain ⟨as, a⟩ := hx.reads I rx
  obtain ⟨bs, b⟩ := hy.reads I ry
  exact SeqAt.compareEq_reads a b c1 c2 (by omega) ⟨.bl _, H, I, rfl, q⟩
theorem op_neD (hu : X.A.units + 64 < cLine) : OpR X (compareOp .NotEq) (rEqD X.K true) := by
  intro pins s σ H x y u v Q I rx ry h
  obtain ⟨d, e, hx, hy, c1, c2, dp, q⟩ := h
  obtain ⟨as, a⟩ := hx.reads I rx
  obtain ⟨bs, b⟩ := hy.reads I ry
  exact SeqAt.compareNe_reads a b c1 c2 (by omega) ⟨.bl _, H, I, rfl, q⟩

/-! ### isinstance(x, T), T built in -/
inductive rIsi_R (K : PySem.W.Frag) (T : String) (xs : List V) (H : Hp) (Q : VK) : Prop
  | mk (x : _) (t : _) (b : _) (h0 : xs = [x, .ty T]) (h1 : TyOf K H x t) (h2 : PySem.W.kitOne K t (.type T) = some b) (h3 : Q (.bl b) H) : rIsi_R K T xs H Q
def rIsi (K : PySem.W.Frag) (T : String) : List V → Hp → VK → Prop := fun xs H Q => rIsi_R K T xs H Q
theorem call_isi (T : String) : CallR X (.builtin "isinstance") (rIsi X.K T) := by
  intro pins s σ H xs us Q I r h
  obtain ⟨x, t, b, rfl, ht, hk, q⟩ := h
  obtain ⟨u, v, rfl, ru, rv⟩ := vals2 r
  obtain rfl : v = Value.type T := rv
  exact isinst_ok I ru ht hk fun tk => ⟨.bl b, H, I.tok _, rfl, q⟩
end
example (K : PySem.W.Frag) : PySem.W.kitOne K (.type "int") (.type "list") = some false := by rfl
example (K : PySem.W.Frag) : PySem.W.kitOne K (.type "bool") (.type "int") = some true := by rfl
end L3

set_option Elab.async false
set_option linter.all false
set_option maxRecDepth 100000
set_option maxHeartbeats 4000000
namespace L3
open PySem PySem.Spec PyProof.Rows L2

/-! ### heaps: what is new -/
def New (H H' : Hp) : Hp := fun b => if (H b).isSome = true then none else H' b
def hide (D : Addr) (H : Hp) : Hp := fun b => if b = D then none else H b
theorem New.of {H H' : Hp} {b : Addr} {o : HO} (h : New H H' b = some o) : H b = none ∧ H' b = some o := by
  unfold New at h
  split at h
  · cases h
  · rename_i q
    refine ⟨?_, h⟩
    cases e : H b with
    | none => rfl
    | some u => rw [e] at q; exact absurd rfl q
theorem New.mk {H H' : Hp} {b : Addr} {o : HO} (h : H b = none) (h' : H' b = some o) : New H H' b = some o := by
  unfold New
  rw [h]
  exact h'
theorem New.sub {H H' : Hp} : Same (New H H') H' := fun _ _ h => (New.of h).2
theorem New.mono {H H1 H2 H3 : Hp} (a : Same H H1) (b : Same H2 H3) : Same (New H1 H2) (New H H3) := fun c o h =>
  let ⟨h1, h2⟩ := New.of h
  New.mk (a.free h1) (b c o h2)
theorem same_upd {H : Hp} {p : Addr} {o : HO} (h : H p = none) : Same H (upd H p o) := fun b u e => by rw [upd_ne (ne_of_none e h)]; exact e
theorem hide_sub {D : Addr} {H : Hp} : Same (hide D H) H := fun b o h => by
  unfold hide at h
  split at h
  · cases h
  · exact h
theorem hide_some {D b : Addr} {H : Hp} {o : HO} (h : hide D H b = some o) : b ≠ D ∧ H b = some o := by
  unfold hide at h
  split at h
  · cases h
  · rename_i q; exact ⟨q, h⟩
theorem hide_mk {D b : Addr} {H : Hp} {o : HO} (n : b ≠ D) (h : H b = some o) : hide D H b = some o := by
  unfold hide
  rw [if_neg n]; exact h
/-- all but one address -/
def SameX (D : Addr) (H H' : Hp) : Prop := ∀ b o, b ≠ D → H b = some o → H' b = some o
theorem Same.x {D : Addr} {H H' : Hp} (h : Same H H') : SameX D H H' := fun b o _ e => h b o e
theorem SameX.trans {D : Addr} {H H1 H2 : Hp} (a : SameX D H H1) (b : SameX D H1 H2) : SameX D H H2 := fun c o n e => b c o n (a c o n e)
theorem SameX.upd {D : Addr} {H H' : Hp} {o : HO} (a : SameX D H H') : SameX D H (upd H' D o) := fun c u n e => by rw [upd_ne n]; exact a c u n e
theorem SameX.same {D : Addr} {H H' : Hp} (a : SameX D H H') (h : H D = none) : Same H H' := fun c u e => a c u (ne_of_none e h) e
/-! ### a comprehension's reading -/
theorem comp_gen {J : It} {n : Nat} {D : Addr} {g : TG} {tt : TT} {te : TE} {σ0 : St} {H0 : Hp} {Q : VK} (Pv : Nat → St → Hp → Prop) (h0 : Pv 0 σ0 (upd H0 D (.lst [])))
    (hgo : ∀ i σ H, i < n → Pv i σ H → J.go i H) (hst : ∀ σ H, Pv n σ H → J.stop n H)
    (hs : ∀ i x σ H H2, i < n → Pv i σ H → J.yld i H x H2 → ∀ (N : V → St → Hp → Prop) (N0 : St → Hp → Prop), (∀ v σ2 H5 ys, H5 D = some (.lst ys) → ys.length < sizeLine → Pv (i + 1) σ2 (upd H5 D (.lst (ys ++ [v]))) → N v σ2 H5) → (∀ σ2 H4, Pv (i + 1) σ2 H4 → N0 σ2 H4) →
      g x σ H2 fun σ2 H3 => tt σ2 H3 fun c H4 => if c = true then te σ2 H4 fun v H5 => N v σ2 H5 else N0 σ2 H4)
    (hd : ∀ σ H, Pv n σ H → Q (.ref D) H) :
    CompW J D g tt te σ0 H0 Q := by
  refine ⟨fun i m σ H => m = n - i ∧ i ≤ n ∧ Pv i σ H, ⟨n, by simp, Nat.zero_le _, h0⟩, ?_⟩
  rintro i m σ H ⟨rfl, hi, p⟩
  by_cases hlt : i < n
  · refine .inr ⟨hgo i σ H hlt p, fun v σ2 H5 => ∃ ys, H5 D = some (.lst ys) ∧ ys.length < sizeLine ∧ Pv (i + 1) σ2 (upd H5 D (.lst (ys ++ [v]))), fun σ2 H4 => Pv (i + 1) σ2 H4, ?_, ?_, ?_⟩
    · rintro v σ2 H5 ⟨ys, a, b, c⟩
      exact ⟨ys, a, b, n - (i + 1), by omega, rfl, hlt, c⟩
    · intro σ2 H4 q
      exact ⟨n - (i + 1), by omega, rfl, hlt, q⟩
    · intro x H2 y
      exact hs i x σ H H2 hlt p y _ _ (fun v σ2 H5 ys a b c => ⟨ys, a, b, c⟩) fun _ _ q => q
  · have e : i = n := by omega
    subst e
    exact .inl ⟨hst σ H p, hd σ H p⟩

/-! ### rules for a kind that is not known ahead -/
section
variable {X : Cx}
def rLen (K : PySem.W.Frag) : List V → Hp → VK → Prop := fun xs H Q => (∃ p ys, xs = [.ref p] ∧ (SqL K H p ys ∨ SqT K H p ys) ∧ Q (.int ys.length) H) ∨ ((∃ z, xs = [.str z] ∧ z.length ≤ sizeLine ∧ Q (.int z.length) H) ∨ ∃ a n, xs = [.ref a] ∧ H a = some (SetN a n) ∧ n < 4000 ∧ Q (.int n) H)
theorem call_lenA : CallR X (.builtin "len") (rLen X.K) := call_len_seq.or (call_len_str.or call_lenS)
def rListA (K : PySem.W.Frag) : List V → Hp → VK → Prop := fun xs H Q => (∃ p ys, xs = [.ref p] ∧ (SqL K H p ys ∨ SqT K H p ys) ∧ ∀ l, H l = none → Q (.ref l) (upd H l (.lst ys))) ∨ (∃ (p : Addr) (j : Int), xs = [.ref p] ∧ H p = some (.rng 0 j) ∧ 0 ≤ j ∧ j ≤ 1000000 ∧ ∀ l, H l = none → Q (.ref l) (upd H l (.lst ((upTo j).map V.int))))
theorem call_listA (hc : X.calm = true) : CallR X (.type "list") (rListA X.K) := call_list_of.or (call_list_rng hc)
/-- a global constant, a global that is a class or the like -/
theorem pe_gc {x : Str} {v : V} {pos : Pos} (hg : Gl X x) (h : ∃ u, X.mg x = some u ∧ RelV v u) (hd : (x == ("__debug__" : Str)) = false := by decide) : PE X (.Name x pos) (tC v) := by
  obtain ⟨u, hm, r⟩ := h
  exact pe_glob hg hm r hd
end
def compChk (sc : Scope) (N Nc : List Str) (ix : List (Option Nat)) (scope : Scope) : Bool :=
  decide (scope.kind = .function) && scope.names.all (fun y => decide (y.2 ≠ .cell)) && scope.names.all (fun y => decide (y.2 = .local → scope.names.lookup y.1 = some .local)) &&
  scope.names.all (fun y => decide (y.2 = .free → sc.names.lookup y.1 = some .cell ∨ sc.names.lookup y.1 = some .free)) && decide (ix.length = Nc.length) &&
  (ix.zip Nc).all fun p => match p.1 with | none => true | some j => N[j]? == some p.2 && scope.names.lookup p.2 == some .free
theorem CompOk.of {sc : Scope} {N Nc : List Str} {ix : List (Option Nat)} {scope : Scope} (h : compChk sc N Nc ix scope = true) : CompOk sc N Nc ix scope := by
  unfold compChk at h
  simp only [Bool.and_eq_true] at h
  obtain ⟨⟨⟨⟨⟨h1, h2⟩, h3⟩, h4⟩, h5⟩, h6⟩ := h
  exact ⟨of_decide_eq_true h1, fun y hy => of_decide_eq_true (List.all_eq_true.mp h2 y hy), fun y hy => of_decide_eq_true (List.all_eq_true.mp h3 y hy), fun y hy => of_decide_eq_true (List.all_eq_true.mp h4 y hy), of_decide_eq_true h5, h6⟩

/-! ### over the signs of a text -/
def Its (x : Str) : It := ⟨fun i _ => i < x.cps.size, fun i H v H' => H' = H ∧ ∃ c, x.cps[i]? = some c ∧ v = .str ⟨#[c]⟩, fun i _ => x.cps.size ≤ i⟩
theorem turn_str {P : Program} {w : World} {K : PySem.W.Frag} {tg : Expr} {it : Addr} {x : Str} {t : Tok} {ty : String}
    (hty : ["enumerate", "zip", "dict_itemiterator", "dict_reverseitemiterator", "odict_iterator", "itertools.zip_longest", "itertools.pairwise"].contains ty = false)
    (W : ∀ A' : Around, A'.handled = none → Walks P w A' it [it] [it] x.cps.size (SignAt x) (fun i h => h.IsStrIter it ty x t i))
    (self : ∀ (A : Around) (i : Nat) (s : Shared) (Q : Value → Shared → Prop) (E : Value → Shared → Prop), s.heap.IsStrIter it ty x t i → Q (.ref it) s → wpAny (model P w) A (pyIter (.ref it)) Q E s) :
    Turn P w K tg (Its x) [it] it (fun i h => i ≤ x.cps.size ∧ h.IsStrIter it ty x t i) where
  mem := by simp
  obj := fun i h st b hb => by
    have e : b = it := by simpa using hb
    subst e
    obtain ⟨_, o, e, c, d⟩ := st
    exact ⟨o, e, fun v z => by rw [d] at z; cases z⟩
  keep := fun i h h' st k => by
    obtain ⟨l, o, e, c, d⟩ := st
    exact ⟨l, o, k it (by simp) o e, c, d⟩
  item := by
    intro X hP hw hK hc i pins s σ H E I hf st hg
    subst hP hw hK
    obtain ⟨f0, f1, f2, f3, f4, f5⟩ := hf it (by simp)
    refine (W X.A (I.ok.hd hc)).item i s _ _ hg st.2 fun v h' tk hv st' kk => ?_
    obtain ⟨c, u, hcx, rfl⟩ := hv
    have I1 : L2.Inv X pins σ H { s with heap := h', toks := tk } := I.turned (fun b o hb e => kk b o (by simpa using hb) e) f0 f1 f3 f4 f5
    obtain ⟨o, e, oc, od⟩ := id st'
    exact ⟨_, rfl, go_of (s := { s with heap := h', toks := tk }) e oc od hty ⟨.str ⟨#[c]⟩, H, I1, ⟨u, rfl⟩, ⟨rfl, c, hcx, rfl⟩, ⟨hg, st'⟩, fun b hb => (hf b hb).1⟩⟩
  done := by
    intro X hP hw hK hc i pins s σ H E I hf st hg
    subst hP hw hK
    obtain ⟨f0, f1, f2, f3, f4, f5⟩ := hf it (by simp)
    have e : i = x.cps.size := Nat.le_antisymm st.1 hg
    subst e
    exact (W X.A (I.ok.hd hc)).done s _ _ st.2 fun h' tk kk => ⟨rfl, I.turned (fun b o hb e => kk b o (by simpa using hb) e) f0 f1 f3 f4 f5⟩
  self := fun A i s Q E st h => self A i s Q E st.2 h
section
variable {X : Cx} {tg : Expr}
def iStr (tl : TE) : TI := fun σ H R => tl σ H fun v H1 => ∃ x, v = .str x ∧ R (Its x) H1
theorem pi_str {l : Expr} {tl : TE} (hl : PE X l tl) : PI X tg l (iStr tl) := by
  intro pins s σ H R I h
  refine thn (hl pins s σ H _ I h) fun v s1 ⟨y, H1, I1, r1, x, e, q⟩ => ?_
  subst e
  obtain ⟨t, rfl⟩ := (show ∃ t, v = Value.str x t from r1)
  have fin : ∀ (ty : String), ["enumerate", "zip", "dict_itemiterator", "dict_reverseitemiterator", "odict_iterator", "itertools.zip_longest", "itertools.pairwise"].contains ty = false →
      (∀ A' : Around, A'.handled = none → Walks X.prog X.w A' s1.heap.objs.size [s1.heap.objs.size] [s1.heap.objs.size] x.cps.size (SignAt x) (fun i h => h.IsStrIter s1.heap.objs.size ty x t i)) →
      (∀ (A : Around) (i : Nat) (s : Shared) (Q : Value → Shared → Prop) (E : Value → Shared → Prop), s.heap.IsStrIter s1.heap.objs.size ty x t i → Q (.ref s1.heap.objs.size) s → wpAny (model X.prog X.w) A (pyIter (.ref s1.heap.objs.size)) Q E s) →
      PIE X pins σ tg R (.ref s1.heap.objs.size) { s1 with heap := s1.heap.push { cls := .type ty, data := .fields #[.str x t, .int 0 0] } } := fun ty h1 h2 h3 => by
    refine ⟨s1.heap.objs.size, [s1.heap.objs.size], _, _, H1, rfl, I1.kept (t' := s1.toks) fun b o e => Heap.get?_push_of_some _ e, turn_str h1 h2 h3, ⟨Nat.zero_le _, _, Heap.get?_push_size _ rfl, rfl, rfl⟩, fun b hb => ?_, q⟩
    have e : b = s1.heap.objs.size := by simpa using hb
    subst e
    exact I1.fpOk (Nat.le_refl _) (I1.hok.fresh (Nat.le_refl _))
  cases ha : x.cps.all (· < 128)
  · exact wpAny_pyIter_wide ha (fin "str_iterator" (by decide) (fun A' hA => Walks.strWide hA _ x t) fun _ _ _ _ _ st h => wpAny_pyIter_striter_wide st h)
  · exact wpAny_pyIter_ascii ha (fin "str_ascii_iterator" (by decide) (fun A' hA => Walks.strAscii hA _ x t) fun _ _ _ _ _ st h => wpAny_pyIter_striter_ascii st h)
end

/-! ### the same rules, the module's part named apart -/
section
variable {X : Cx} {K : PySem.W.Frag}
theorem call_lenK (hK : X.K = K) : CallR X (.builtin "len") (rLen K) := by subst hK; exact call_lenA
theorem call_sortedK (hK : X.K = K) : CallR X (.builtin "sorted") (rSorted K) := by subst hK; exact call_sorted
def rAll (K : PySem.W.Frag) : List V → Hp → VK → Prop := fun xs H Q => ∃ (p : Addr) (bs : List Bool), xs = [.ref p] ∧ SqL K H p (bs.map V.bl) ∧ Q (.bl (bs.all id)) H
def rAny (K : PySem.W.Frag) : List V → Hp → VK → Prop := fun xs H Q => ∃ (p : Addr) (bs : List Bool), xs = [.ref p] ∧ SqL K H p (bs.map V.bl) ∧ Q (.bl (bs.any id)) H
theorem call_allK (hK : X.K = K) (hc : X.calm = true) : CallR X (.builtin "all") (rAll K) := by subst hK; exact call_all hc
theorem call_anyK (hK : X.K = K) (hc : X.calm = true) : CallR X (.builtin "any") (rAny K) := by subst hK; exact call_any hc
theorem call_listK (hK : X.K = K) (hc : X.calm = true) : CallR X (.type "list") (rListA K) := by subst hK; exact call_listA hc
def rTupleA (K : PySem.W.Frag) : List V → Hp → VK → Prop := fun xs H Q => ∃ p ys, xs = [.ref p] ∧ ((SqL K H p ys ∧ ∀ l, H l = none → Q (.ref l) (upd H l (.tup ys))) ∨ (SqT K H p ys ∧ Q (.ref p) H))
theorem call_tupleK (hK : X.K = K) : CallR X (.type "tuple") (rTupleA K) := by subst hK; exact call_tuple_of
def rSetA (K : PySem.W.Frag) : List V → Hp → VK → Prop := fun xs H Q => ∃ (p : Addr) (ks : List Key), xs = [.ref p] ∧ SqL K H p (ks.map kV) ∧ ks.length < 4000 ∧ ∀ n a, n ≤ ks.length → (n = ks.length ↔ ks.Nodup) → H a = none → Q (.ref a) (upd H a (SetN a n))
theorem call_setK (hK : X.K = K) (hc : X.calm = true) : CallR X (.type "set") (rSetA K) := by subst hK; exact call_set hc
theorem call_isiK (hK : X.K = K) (T : String) : CallR X (.builtin "isinstance") (rIsi K T) := by subst hK; exact call_isi T
theorem ix_listK (hK : X.K = K) : IxR X (rIxL K) := by subst hK; exact ix_list
theorem ix_tupK (hK : X.K = K) : IxR X (rIxT K) := by subst hK; exact ix_tup
theorem sl_listK (hK : X.K = K) : SlR X (rSlL K) := by subst hK; exact sl_list
theorem op_inK (hK : X.K = K) : OpR X (compareOp .In) (rIn K false) := by subst hK; exact op_in_seq
theorem op_notInK (hK : X.K = K) : OpR X (compareOp .NotIn) (rIn K true) := by subst hK; exact op_notIn_seq
theorem op_eqDK (hK : X.K = K) (hu : X.A.units + 64 < cLine) : OpR X (compareOp .Eq) (rEqD K false) := by subst hK; exact op_eqD hu
theorem op_neDK (hK : X.K = K) (hu : X.A.units + 64 < cLine) : OpR X (compareOp .NotEq) (rEqD K true) := by subst hK; exact op_neD hu
theorem pi_listK {tg l : Expr} {tl : TE} (hK : X.K = K) (hl : PE X l tl) : PI X tg l (iList K tl) := by subst hK; exact pi_list hl
theorem pg_tupK {es : List Expr} {k : Nat} {t : TGs} {n : Nat} {pos : Pos} (hK : X.K = K) (hc : X.calm = true) (h : PGs X es t)
    (hn : (assignEach es X.env).length = n := by rfl) (hst : (assignEach es X.env).findIdx? (·.1) = none := by rfl) : PG X (.Tuple es k pos) (gTup K n t) := by subst hK; exact pg_tup hc h hn hst
theorem pe_fldK {e : Expr} {f : Str} {pos : Pos} {ta : TE} (hK : X.K = K) (he : PE X e ta) (hb : attributeBase e f X.env (eval e X.env) = eval e X.env) : PE X (.Attribute e f pos) (tFld K ta f) := by subst hK; exact pe_fld he hb
theorem pe_revK {e st : Expr} {te : TE} {ts : TO} {pos p2 : Pos} (hK : X.K = K) (he : PE X e te) (hs : PO X (some st) ts) : PE X (.Subscript e (.Slice none none (some st) p2) pos) (tRev K te ts) := by subst hK; exact pe_rev he hs
end
end L3

set_option Elab.async false
set_option linter.all false
set_option maxRecDepth 100000
set_option maxHeartbeats 4000000
namespace L3
open PySem PySem.Spec L2

/-- a thing of which isinstance is known -/
inductive Kd (H : Hp) : V → Prop
  | non : Kd H .non
  | bl (b : Bool) : Kd H (.bl b)
  | int (i : Int) : Kd H (.int i)
  | str (z : Str) (hz : z.length ≤ 1000) : Kd H (.str z)
  | lst {a : Addr} {xs : List V} (e : H a = some (.lst xs)) : Kd H (.ref a)
  | tup {a : Addr} {xs : List V} (e : H a = some (.tup xs)) : Kd H (.ref a)
  | dK {a : Addr} {kvs : List (Key × V)} (e : H a = some (.dK kvs)) : Kd H (.ref a)
theorem Kd.mono {H H' : Hp} {x : V} (s : Same H H') (h : Kd H x) : Kd H' x := by
  cases h with
  | non => exact .non
  | bl b => exact .bl b
  | int i => exact .int i
  | str z hz => exact .str z hz
  | lst e => exact .lst (s _ _ e)
  | tup e => exact .tup (s _ _ e)
  | dK e => exact .dK (s _ _ e)
def isTy (H : Hp) (T : String) : V → Bool
  | .bl _ => T == "bool" || T == "int"
  | .int _ => T == "int"
  | .str _ => T == "str"
  | .ref a => match H a with
    | some (.lst _) => T == "list"
    | some (.tup _) => T == "tuple"
    | some (.dK _) => T == "dict"
    | _ => false
  | _ => false
theorem isi_rd {K : PySem.W.Frag} {T : String} {x : V} {H : Hp} {Q : VK} (hT : T = "int" ∨ T = "bool" ∨ T = "str" ∨ T = "list" ∨ T = "tuple") (h : Kd H x) (q : Q (.bl (isTy H T x)) H) : rIsi K T [x, .ty T] H Q := by
  rcases hT with rfl | rfl | rfl | rfl | rfl
  all_goals
    cases h with
    | non => exact ⟨_, _, _, rfl, .non, rfl, q⟩
    | bl b => exact ⟨_, _, _, rfl, .bl b, rfl, q⟩
    | int i => exact ⟨_, _, _, rfl, .int i, rfl, q⟩
    | str z hz => exact ⟨_, _, _, rfl, .str z, rfl, q⟩
    | lst e => first | exact ⟨_, _, false, rfl, .lst e, rfl, by simpa [isTy, e] using q⟩ | exact ⟨_, _, true, rfl, .lst e, rfl, by simpa [isTy, e] using q⟩
    | tup e => first | exact ⟨_, _, false, rfl, .tup e, rfl, by simpa [isTy, e] using q⟩ | exact ⟨_, _, true, rfl, .tup e, rfl, by simpa [isTy, e] using q⟩
    | dK e => first | exact ⟨_, _, false, rfl, .dK e, rfl, by simpa [isTy, e] using q⟩ | exact ⟨_, _, true, rfl, .dK e, rfl, by simpa [isTy, e] using q⟩

def isLow (c : Nat) : Bool := decide (97 ≤ c ∧ c ≤ 122)
def isNameS (z : Str) : Bool := decide (1 ≤ z.length) && decide (z.length ≤ 8) && z.cps.toList.all isLow
def isNameV : V → Bool
  | .str z => isNameS z
  | _ => false
def isIntV : V → Bool
  | .int _ => true
  | _ => false
def isRoomV (n : Int) : V → Bool
  | .int i => decide (0 ≤ i) && decide (i < n)
  | _ => false
def lstOf (H : Hp) : V → Option (List V)
  | .ref a => match H a with
    | some (.lst xs) => some xs
    | _ => none
  | _ => none
theorem lstOf_ref {H : Hp} {a : Addr} {xs : List V} (h : H a = some (.lst xs)) : lstOf H (.ref a) = some xs := by simp [lstOf, h]
theorem lstOf_same {H H' : Hp} {x : V} (s : Same H H') (k : Kd H x) : lstOf H' x = lstOf H x := by
  cases k with
  | non => rfl
  | bl b => rfl
  | int i => rfl
  | str z hz => rfl
  | lst e => rw [lstOf_ref e, lstOf_ref (s _ _ e)]
  | tup e => simp [lstOf, e, s _ _ e]
  | dK e => simp [lstOf, e, s _ _ e]
def areNames (H : Hp) (x : V) : Bool := match lstOf H x with
  | some xs => xs.all isNameV && decide xs.Nodup
  | none => false
def areRooms (H : Hp) (n : Int) (x : V) : Bool := match lstOf H x with
  | some xs => xs.all (isRoomV n)
  | none => false
def someRooms (H : Hp) (n : Int) (x : V) : Bool := match lstOf H x with
  | some xs => xs.all (isRoomV n) && !xs.isEmpty && decide xs.Nodup
  | none => false
def KdL (H : Hp) (x : V) : Prop := Kd H x ∧ ∀ xs, lstOf H x = some xs → xs.length ≤ 1000 ∧ ∀ y ∈ xs, Kd H y
def KdLL (H : Hp) (x : V) : Prop := Kd H x ∧ ∀ xs, lstOf H x = some xs → xs.length ≤ 1000 ∧ ∀ y ∈ xs, KdL H y
theorem KdL.mono {H H' : Hp} {x : V} (s : Same H H') (h : KdL H x) : KdL H' x :=
  ⟨h.1.mono s, fun xs e => by
    rw [lstOf_same s h.1] at e
    exact ⟨(h.2 xs e).1, fun y hy => ((h.2 xs e).2 y hy).mono s⟩⟩
theorem areNames_same {H H' : Hp} {x : V} (s : Same H H') (k : Kd H x) : areNames H' x = areNames H x := by unfold areNames; rw [lstOf_same s k]
theorem someRooms_same {H H' : Hp} {x : V} {n : Int} (s : Same H H') (k : Kd H x) : someRooms H' n x = someRooms H n x := by unfold someRooms; rw [lstOf_same s k]
def few3 : Option (List V) → Bool
  | some fs => decide (fs.length ≤ 3)
  | none => false
def makesW (H : Hp) (s w st f : V) : Bool := match lstOf H s, lstOf H w with
  | some ss, some ws => decide (1 ≤ ss.length) && decide (ss.length ≤ 20) && decide (ws.length = ss.length) && ss.all (areNames H) && ws.all (someRooms H ss.length) && (someRooms H ss.length st && (areNames H f && few3 (lstOf H f)))
  | _, _ => false

/-! ### keys -/
theorem kV_ne {a b : Key} : kV a ≠ kV b ↔ a ≠ b := by
  constructor
  · intro h e; exact h (by rw [e])
  · intro h e
    apply h
    cases a <;> cases b <;> simp [kV] at e <;> simp [e]
theorem nodup_kV (ks : List Key) : (ks.map kV).Nodup ↔ ks.Nodup := by
  unfold List.Nodup
  rw [List.pairwise_map]
  exact ⟨fun h => h.imp fun q => kV_ne.mp q, fun h => h.imp fun q => kV_ne.mpr q⟩
theorem keys_names : ∀ {xs : List V}, xs.all isNameV = true → ∃ ks : List Key, xs = ks.map kV
  | [], _ => ⟨[], rfl⟩
  | x :: r, h => by
    rw [List.all_cons, Bool.and_eq_true] at h
    obtain ⟨ks, rfl⟩ := keys_names h.2
    cases x with
    | str z => exact ⟨.inr z :: ks, rfl⟩
    | _ => exact absurd h.1 (by simp [isNameV])
theorem keys_rooms {n : Int} : ∀ {xs : List V}, xs.all (isRoomV n) = true → ∃ ks : List Key, xs = ks.map kV
  | [], _ => ⟨[], rfl⟩
  | x :: r, h => by
    rw [List.all_cons, Bool.and_eq_true] at h
    obtain ⟨ks, rfl⟩ := keys_rooms h.2
    cases x with
    | int z => exact ⟨.inl z :: ks, rfl⟩
    | _ => exact absurd h.1 (by simp [isRoomV])
theorem dec_len {n m : Nat} {ks : List Key} (hm : m = (ks.map kV).length) (h : n = ks.length ↔ ks.Nodup) : decide (V.int (n : Nat) = V.int (m : Nat)) = decide (ks.map kV).Nodup := by
  have e : (V.int (n : Nat) = V.int (m : Nat)) ↔ (ks.map kV).Nodup := by
    rw [nodup_kV, ← h]
    constructor
    · intro q
      have q' : ((n : Nat) : Int) = ((m : Nat) : Int) := V.int.inj q
      rw [List.length_map] at hm
      omega
    · intro q
      rw [List.length_map] at hm
      rw [q, hm]
  exact decide_eq_decide.mpr e
theorem all_map_of {α : Type} {f : α → Bool} : ∀ {xs : List α} {ys : List V}, ys.length = xs.length → (∀ (i : Nat) v x, ys[i]? = some v → xs[i]? = some x → v = .bl (f x)) → ys = (xs.map f).map V.bl
  | [], ys, hl, _ => by simp at hl; subst hl; rfl
  | x :: r, [], hl, _ => by simp at hl
  | x :: r, y :: ys, hl, h => by
    have e := h 0 y x rfl rfl
    subst e
    rw [List.map_cons, List.map_cons, all_map_of (xs := r) (ys := ys) (f := f) (by simpa using hl) fun i v z h1 h2 => h (i + 1) v z (by simpa using h1) (by simpa using h2)]
theorem all_id {α : Type} (f : α → Bool) (xs : List α) : (xs.map f).all id = xs.all f := by
  rw [List.all_map]; rfl
theorem mem_letters (c : Nat) : decide (c ∈ ("abcdefghijklmnopqrstuvwxyz" : Str).cps.toList) = isLow c := by
  have e : ("abcdefghijklmnopqrstuvwxyz" : Str).cps.toList = (List.range 26).map (· + 97) := by decide +kernel
  rw [e]
  unfold isLow
  refine decide_eq_decide.mpr ?_
  rw [List.mem_map]
  constructor
  · rintro ⟨k, hk, rfl⟩
    have := List.mem_range.mp hk
    omega
  · rintro ⟨h1, h2⟩
    exact ⟨c - 97, List.mem_range.mpr (by omega), by omega⟩
theorem isi_f (K : PySem.W.Frag) {T : String} {x : V} {H : Hp} {b : Bool} (hT : T = "int" ∨ T = "bool" ∨ T = "str" ∨ T = "list" ∨ T = "tuple") (h : Kd H x) (hb : isTy H T x = b) : ∃ t, TyOf K H x t ∧ PySem.W.kitOne K t (.type T) = some b := by
  obtain ⟨y, t, c, e, h1, h2, q⟩ := isi_rd (K := K) (Q := fun v _ => v = .bl b) hT h (by rw [hb])
  have e1 : x = y := (List.cons.inj e).1
  have e2 : c = b := V.bl.inj q
  subst e1; subst e2
  exact ⟨t, h1, h2⟩
theorem kd_str {H : Hp} {x : V} (h : Kd H x) : (isTy H "str" x = true ∧ ∃ z, x = .str z ∧ z.length ≤ 1000) ∨ (isTy H "str" x = false ∧ isNameV x = false) := by
  cases h with
  | str z hz => exact .inl ⟨rfl, z, rfl, hz⟩
  | non => exact .inr ⟨rfl, rfl⟩
  | bl b => exact .inr ⟨rfl, rfl⟩
  | int i => exact .inr ⟨rfl, rfl⟩
  | lst e => exact .inr ⟨by simp [isTy, e], rfl⟩
  | tup e => exact .inr ⟨by simp [isTy, e], rfl⟩
  | dK e => exact .inr ⟨by simp [isTy, e], rfl⟩
theorem kd_list {H : Hp} {x : V} (h : Kd H x) : (isTy H "list" x = true ∧ ∃ a xs, x = .ref a ∧ H a = some (.lst xs) ∧ lstOf H x = some xs) ∨ (isTy H "list" x = false ∧ lstOf H x = none) := by
  cases h with
  | str z hz => exact .inr ⟨rfl, rfl⟩
  | non => exact .inr ⟨rfl, rfl⟩
  | bl b => exact .inr ⟨rfl, rfl⟩
  | int i => exact .inr ⟨rfl, rfl⟩
  | lst e => exact .inl ⟨by simp [isTy, e], _, _, rfl, e, lstOf_ref e⟩
  | tup e => exact .inr ⟨by simp [isTy, e], by simp [lstOf, e]⟩
  | dK e => exact .inr ⟨by simp [isTy, e], by simp [lstOf, e]⟩
end L3

set_option Elab.async false
set_option linter.all false
set_option maxRecDepth 100000
set_option maxHeartbeats 4000000
namespace L3
open PySem PySem.Spec L2

/-! ### lists and tuples of texts, of ints, of such -/
def LS (H : Hp) (v : V) (ss : List Str) : Prop := ∃ a, v = .ref a ∧ H a = some (.lst (ss.map V.str))
def LI (H : Hp) (v : V) (ns : List Int) : Prop := ∃ a, v = .ref a ∧ H a = some (.lst (ns.map V.int))
def TS (H : Hp) (v : V) (ss : List Str) : Prop := ∃ a, v = .ref a ∧ H a = some (.tup (ss.map V.str))
def TIn (H : Hp) (v : V) (ns : List Int) : Prop := ∃ a, v = .ref a ∧ H a = some (.tup (ns.map V.int))
def LL {α : Type} (r : Hp → V → α → Prop) (H : Hp) (v : V) (xs : List α) : Prop := ∃ a vs, v = .ref a ∧ H a = some (.lst vs) ∧ vs.length = xs.length ∧ ∀ (i : Nat) v x, vs[i]? = some v → xs[i]? = some x → r H v x
def LT {α : Type} (r : Hp → V → α → Prop) (H : Hp) (v : V) (xs : List α) : Prop := ∃ a vs, v = .ref a ∧ H a = some (.tup vs) ∧ vs.length = xs.length ∧ ∀ (i : Nat) v x, vs[i]? = some v → xs[i]? = some x → r H v x
def Mon {α : Type} (r : Hp → V → α → Prop) : Prop := ∀ H H' v x, Same H H' → r H v x → r H' v x
theorem LS.mono : Mon LS := fun _ _ _ _ s ⟨a, e, h⟩ => ⟨a, e, s _ _ h⟩
theorem LI.mono : Mon LI := fun _ _ _ _ s ⟨a, e, h⟩ => ⟨a, e, s _ _ h⟩
theorem TS.mono : Mon TS := fun _ _ _ _ s ⟨a, e, h⟩ => ⟨a, e, s _ _ h⟩
theorem TIn.mono : Mon TIn := fun _ _ _ _ s ⟨a, e, h⟩ => ⟨a, e, s _ _ h⟩
theorem LL.mono {α : Type} {r : Hp → V → α → Prop} (m : Mon r) : Mon (LL r) := fun _ _ _ _ s ⟨a, vs, e, h, l, q⟩ => ⟨a, vs, e, s _ _ h, l, fun i v x h1 h2 => m _ _ _ _ s (q i v x h1 h2)⟩
theorem LT.mono {α : Type} {r : Hp → V → α → Prop} (m : Mon r) : Mon (LT r) := fun _ _ _ _ s ⟨a, vs, e, h, l, q⟩ => ⟨a, vs, e, s _ _ h, l, fun i v x h1 h2 => m _ _ _ _ s (q i v x h1 h2)⟩
theorem SameX.hide {p : Addr} {H H' : Hp} (s : SameX p H H') : Same (hide p H) (hide p H') := fun b o h =>
  let ⟨n, e⟩ := hide_some h
  hide_mk n (s b o n e)

/-- what a world is made of -/
structure WD where
  signs : List (List Str)
  ways : List (List Int)
  starts : List Int
  fair : List Str
structure PartsV (H : Hp) (s w st f : V) (d : WD) : Prop where
  s : LL LS H s d.signs
  w : LL LI H w d.ways
  st : LI H st d.starts
  f : LS H f d.fair
theorem PartsV.mono {H H' : Hp} {s w st f : V} {d : WD} (e : Same H H') (h : PartsV H s w st f d) : PartsV H' s w st f d :=
  ⟨LL.mono LS.mono _ _ _ _ e h.s, LL.mono LI.mono _ _ _ _ e h.w, LI.mono _ _ _ _ e h.st, LS.mono _ _ _ _ e h.f⟩
structure Good (d : WD) : Prop where
  n1 : 1 ≤ d.signs.length
  n20 : d.signs.length ≤ 20
  wl : d.ways.length = d.signs.length
  sn : ∀ ss ∈ d.signs, ss.Nodup ∧ (∀ x ∈ ss, isNameS x = true) ∧ ss.length ≤ 30
  wn : ∀ ns ∈ d.ways, ns.Nodup ∧ ns ≠ [] ∧ (∀ x ∈ ns, 0 ≤ x ∧ x < d.signs.length) ∧ ns.length ≤ 20
  stn : d.starts.Nodup ∧ d.starts ≠ [] ∧ (∀ x ∈ d.starts, 0 ≤ x ∧ x < d.signs.length) ∧ d.starts.length ≤ 20
  fn : d.fair.Nodup ∧ (∀ x ∈ d.fair, isNameS x = true) ∧ d.fair.length ≤ 3
theorem nodup_map {α β : Type} {f : α → β} (hf : ∀ a b, f a = f b → a = b) {l : List α} (h : l.Nodup) : (l.map f).Nodup := by
  unfold List.Nodup at *
  rw [List.pairwise_map]
  exact h.imp fun q e => q (hf _ _ e)
theorem str_inj (a b : Str) (h : V.str a = V.str b) : a = b := V.str.inj h
theorem int_inj (a b : Int) (h : V.int a = V.int b) : a = b := V.int.inj h
theorem name_short {z : Str} (h : isNameS z = true) : z.length ≤ 8 := by
  unfold isNameS at h
  simp only [Bool.and_eq_true, decide_eq_true_eq] at h
  exact h.1.2
theorem LS.kd {H : Hp} {v : V} {ss : List Str} (h : LS H v ss) (hl : ss.length ≤ 1000) (hn : ∀ x ∈ ss, isNameS x = true) : KdL H v := by
  obtain ⟨a, rfl, e⟩ := h
  refine ⟨.lst e, fun xs q => ?_⟩
  rw [lstOf_ref e] at q
  cases q
  refine ⟨by rw [List.length_map]; exact hl, fun y hy => ?_⟩
  obtain ⟨z, hz, rfl⟩ := List.mem_map.mp hy
  exact .str z (Nat.le_trans (name_short (hn z hz)) (by decide))
theorem LI.kd {H : Hp} {v : V} {ns : List Int} (h : LI H v ns) (hl : ns.length ≤ 1000) : KdL H v := by
  obtain ⟨a, rfl, e⟩ := h
  refine ⟨.lst e, fun xs q => ?_⟩
  rw [lstOf_ref e] at q
  cases q
  refine ⟨by rw [List.length_map]; exact hl, fun y hy => ?_⟩
  obtain ⟨z, hz, rfl⟩ := List.mem_map.mp hy
  exact .int z
theorem LS.names {H : Hp} {v : V} {ss : List Str} (h : LS H v ss) (nd : ss.Nodup) (hn : ∀ x ∈ ss, isNameS x = true) : areNames H v = true := by
  obtain ⟨a, rfl, e⟩ := h
  unfold areNames
  rw [lstOf_ref e]
  simp only [Bool.and_eq_true, decide_eq_true_eq]
  refine ⟨List.all_eq_true.mpr fun y hy => ?_, nodup_map str_inj nd⟩
  obtain ⟨z, hz, rfl⟩ := List.mem_map.mp hy
  exact hn z hz
theorem LI.rooms {H : Hp} {v : V} {ns : List Int} {n : Nat} (h : LI H v ns) (nd : ns.Nodup) (ne : ns ≠ []) (hn : ∀ x ∈ ns, 0 ≤ x ∧ x < (n : Int)) : someRooms H n v = true := by
  obtain ⟨a, rfl, e⟩ := h
  unfold someRooms
  rw [lstOf_ref e]
  simp only [Bool.and_eq_true, decide_eq_true_eq]
  refine ⟨⟨List.all_eq_true.mpr fun y hy => ?_, ?_⟩, nodup_map int_inj nd⟩
  · obtain ⟨z, hz, rfl⟩ := List.mem_map.mp hy
    have := hn z hz
    simp [isRoomV, this.1, this.2]
  · cases ns with
    | nil => exact absurd rfl ne
    | cons y r => rfl
theorem LL.kd {α : Type} {r : Hp → V → α → Prop} {H : Hp} {v : V} {xs : List α} (h : LL r H v xs) (hl : xs.length ≤ 1000) (q : ∀ v x, r H v x → x ∈ xs → KdL H v) : KdLL H v := by
  obtain ⟨a, vs, rfl, e, l, k⟩ := h
  refine ⟨.lst e, fun ys z => ?_⟩
  rw [lstOf_ref e] at z
  cases z
  refine ⟨by omega, fun y hy => ?_⟩
  obtain ⟨i, hi, rfl⟩ := List.getElem_of_mem hy
  have hx : i < xs.length := by omega
  exact q _ xs[i] (k i _ _ (List.getElem?_eq_getElem hi) (List.getElem?_eq_getElem hx)) (List.getElem_mem hx)
theorem LL.all {α : Type} {r : Hp → V → α → Prop} {H : Hp} {vs : List V} {xs : List α} {p : V → Bool} (l : vs.length = xs.length) (k : ∀ (i : Nat) v x, vs[i]? = some v → xs[i]? = some x → r H v x) (q : ∀ v x, r H v x → x ∈ xs → p v = true) : vs.all p = true := by
  refine List.all_eq_true.mpr fun y hy => ?_
  obtain ⟨i, hi, rfl⟩ := List.getElem_of_mem hy
  have hx : i < xs.length := by omega
  exact q _ xs[i] (k i _ _ (List.getElem?_eq_getElem hi) (List.getElem?_eq_getElem hx)) (List.getElem_mem hx)
theorem PartsV.kd {H : Hp} {s w st f : V} {d : WD} (h : PartsV H s w st f d) (g : Good d) : KdLL H s ∧ KdLL H w ∧ KdL H st ∧ KdL H f := by
  refine ⟨h.s.kd (by have := g.n20; omega) fun v x r m => ?_, h.w.kd (by have := g.n20; have := g.wl; omega) fun v x r m => ?_, h.st.kd (by have := g.stn.2.2.2; omega), h.f.kd (by have := g.fn.2.2; omega) g.fn.2.1⟩
  · have := g.sn x m
    exact r.kd (by omega) this.2.1
  · have := g.wn x m
    exact r.kd (by omega)
theorem PartsV.makes {H : Hp} {s w st f : V} {d : WD} (h : PartsV H s w st f d) (g : Good d) : makesW H s w st f = true := by
  have hst := h.st.rooms (n := d.signs.length) g.stn.1 g.stn.2.1 g.stn.2.2.1
  have hf := h.f.names g.fn.1 g.fn.2.1
  obtain ⟨a, vs, rfl, e, l, k⟩ := h.s
  obtain ⟨b, ws, rfl, e2, l2, k2⟩ := h.w
  obtain ⟨c, rfl, e3⟩ := h.f
  unfold makesW
  rw [lstOf_ref e, lstOf_ref e2, lstOf_ref e3]
  dsimp only
  rw [l]
  have h1 : vs.all (areNames H) = true := LL.all l k fun v x r m => r.names (g.sn x m).1 (g.sn x m).2.1
  have h2 : ws.all (someRooms H d.signs.length) = true := LL.all l2 k2 fun v x r m => r.rooms (g.wn x m).1 (g.wn x m).2.1 (g.wn x m).2.2.1
  have := g.n1
  have := g.n20
  have := g.wl
  have := g.fn.2.2
  simp only [few3, Bool.and_eq_true, decide_eq_true_eq, List.length_map]
  refine ⟨⟨⟨⟨⟨by omega, by omega⟩, by omega⟩, h1⟩, h2⟩, hst, hf, by omega⟩

/-! ### a world as an object -/
def wfs (t1 t2 t3 t4 : V) : List (Str × V) := [("room_signs", t1), ("room_ways", t2), ("start_rooms", t3), ("fair_names", t4)]
theorem n12 : ¬ (("room_signs" : Str) = "room_ways") := by decide +kernel
theorem n13 : ¬ (("room_signs" : Str) = "start_rooms") := by decide +kernel
theorem n14 : ¬ (("room_signs" : Str) = "fair_names") := by decide +kernel
theorem n23 : ¬ (("room_ways" : Str) = "start_rooms") := by decide +kernel
theorem n24 : ¬ (("room_ways" : Str) = "fair_names") := by decide +kernel
theorem n34 : ¬ (("start_rooms" : Str) = "fair_names") := by decide +kernel
theorem put1 (t1 : V) : putF "room_signs" t1 [] = ([("room_signs", t1)] : List (Str × V)) := rfl
theorem put2 (t1 t2 : V) : putF "room_ways" t2 ([("room_signs", t1)] : List (Str × V)) = ([("room_signs", t1), ("room_ways", t2)] : List (Str × V)) := by simp only [putF, if_neg n12]
theorem put3 (t1 t2 t3 : V) : putF "start_rooms" t3 ([("room_signs", t1), ("room_ways", t2)] : List (Str × V)) = ([("room_signs", t1), ("room_ways", t2), ("start_rooms", t3)] : List (Str × V)) := by simp only [putF, if_neg n13, if_neg n23]
theorem put4 (t1 t2 t3 t4 : V) : putF "fair_names" t4 ([("room_signs", t1), ("room_ways", t2), ("start_rooms", t3)] : List (Str × V)) = wfs t1 t2 t3 t4 := by simp only [putF, if_neg n14, if_neg n24, if_neg n34, wfs]
structure WorldAt (C : Addr) (H : Hp) (p : Addr) (d : WD) : Prop where
  ex : ∃ dx t1 t2 t3 t4, H p = some (.ins C dx (wfs t1 t2 t3 t4)) ∧ LT TS H t1 (d.signs.map sortS) ∧ LT TIn H t2 (d.ways.map sortI) ∧ TIn H t3 (sortI d.starts) ∧ TS H t4 d.fair
theorem WorldAt.mono {C : Addr} {H H' : Hp} {p : Addr} {d : WD} (s : Same H H') (h : WorldAt C H p d) : WorldAt C H' p d := by
  obtain ⟨dx, t1, t2, t3, t4, e, h1, h2, h3, h4⟩ := h.ex
  exact ⟨dx, t1, t2, t3, t4, s _ _ e, LT.mono TS.mono _ _ _ _ s h1, LT.mono TIn.mono _ _ _ _ s h2, TIn.mono _ _ _ _ s h3, TS.mono _ _ _ _ s h4⟩
theorem beqF {a b : Str} (h : ¬ a = b) : (a == b) = false := by simpa using h
theorem lk_signs (t1 t2 t3 t4 : V) : (wfs t1 t2 t3 t4).lookup ("room_signs" : Str) = some t1 := by simp [wfs, List.lookup_cons]
theorem lk_ways (t1 t2 t3 t4 : V) : (wfs t1 t2 t3 t4).lookup ("room_ways" : Str) = some t2 := by simp [wfs, List.lookup_cons, beqF (fun e => n12 e.symm)]
theorem lk_no (t1 t2 t3 t4 : V) {m : Str} (h1 : ¬ m = "room_signs") (h2 : ¬ m = "room_ways") (h3 : ¬ m = "start_rooms") (h4 : ¬ m = "fair_names") : (wfs t1 t2 t3 t4).lookup m = none := by simp [wfs, List.lookup_cons, beqF h1, beqF h2, beqF h3, beqF h4]
theorem New.hidden {H H' : Hp} {p : Addr} {o : HO} (h : H p = some o) : Same (New H H') (hide p H') := fun b u e =>
  let ⟨h1, h2⟩ := New.of e
  hide_mk (fun z => by subst z; rw [h] at h1; cases h1) h2
theorem LS.hid {H : Hp} {p C dx : Addr} {fs : List (Str × V)} {v : V} {ss : List Str} (hp : H p = some (.ins C dx fs)) (h : LS H v ss) : LS (hide p H) v ss := by
  obtain ⟨a, rfl, e⟩ := h
  exact ⟨a, rfl, hide_mk (ne_of e hp (by intro z; cases z)) e⟩
theorem LI.hid {H : Hp} {p C dx : Addr} {fs : List (Str × V)} {v : V} {ss : List Int} (hp : H p = some (.ins C dx fs)) (h : LI H v ss) : LI (hide p H) v ss := by
  obtain ⟨a, rfl, e⟩ := h
  exact ⟨a, rfl, hide_mk (ne_of e hp (by intro z; cases z)) e⟩
theorem LL.hid {α : Type} {r : Hp → V → α → Prop} {H : Hp} {p C dx : Addr} {fs : List (Str × V)} {v : V} {xs : List α} (hp : H p = some (.ins C dx fs)) (m : ∀ v x, r H v x → r (hide p H) v x) (h : LL r H v xs) : LL r (hide p H) v xs := by
  obtain ⟨a, vs, rfl, e, l, q⟩ := h
  exact ⟨a, vs, rfl, hide_mk (ne_of e hp (by intro z; cases z)) e, l, fun i v x h1 h2 => m _ _ (q i v x h1 h2)⟩
theorem PartsV.hid {H : Hp} {p C dx : Addr} {fs : List (Str × V)} {s w st f : V} {d : WD} (hp : H p = some (.ins C dx fs)) (h : PartsV H s w st f d) : PartsV (hide p H) s w st f d :=
  ⟨h.s.hid hp fun _ _ r => r.hid hp, h.w.hid hp fun _ _ r => r.hid hp, h.st.hid hp, h.f.hid hp⟩
theorem lt_of_map {α β : Type} {r : Hp → V → β → Prop} {H : Hp} {f : α → β} {a : Addr} {ys : List V} {xs : List α} (h : H a = some (.tup ys)) (l : ys.length = xs.length) (q : ∀ (i : Nat) v, ys[i]? = some v → ∀ x, xs[i]? = some x → r H v (f x)) : LT r H (.ref a) (xs.map f) := by
  refine ⟨a, ys, rfl, h, by rw [List.length_map, l], fun i v x h1 h2 => ?_⟩
  rw [List.getElem?_map] at h2
  cases e : xs[i]? with
  | none => rw [e] at h2; cases h2
  | some y =>
    rw [e] at h2
    cases h2
    exact q i v h1 y e
end L3

set_option Elab.async false
set_option linter.all false
set_option maxRecDepth 100000
set_option maxHeartbeats 4000000
namespace L3
open PySem PySem.Spec L2

/-! ### things within things as data, for == -/
def dI (ns : List Int) : PyData := .list (ns.map PyData.int)
def dS (ss : List Str) : PyData := .list (ss.map PyData.str)
def Fine (n : Nat) (d : PyData) : Prop := d.canLay0 = true ∧ d.depth ≤ n
theorem fineAll {α : Type} {f : α → PyData} {n : Nat} {xs : List α} (h : ∀ x ∈ xs, Fine n (f x)) : PyData.canLayAll0 (xs.map f) = true ∧ PyData.depthAll (xs.map f) ≤ n := by
  induction xs with
  | nil => exact ⟨by simp [PyData.canLayAll0], by simp [PyData.depthAll]⟩
  | cons x r ih =>
    obtain ⟨a, b⟩ := ih fun y hy => h y (List.mem_cons_of_mem _ hy)
    obtain ⟨c, d⟩ := h x List.mem_cons_self
    rw [List.map_cons]
    exact ⟨by rw [PyData.canLayAll0, c, a]; rfl, by rw [PyData.depthAll]; exact Nat.max_le.mpr ⟨d, b⟩⟩
theorem fineL {α : Type} {f : α → PyData} {n : Nat} {xs : List α} (h : ∀ x ∈ xs, Fine n (f x)) : Fine (n + 1) (.list (xs.map f)) := by
  obtain ⟨a, b⟩ := fineAll h
  exact ⟨by rw [PyData.canLay0]; exact a, by rw [PyData.depth]; omega⟩
theorem fineI (ns : List Int) : Fine 1 (dI ns) := fineL fun x _ => ⟨by simp [PyData.canLay0], by simp [PyData.depth]⟩
theorem strOk_name {z : Str} (h : isNameS z = true) : PyData.strOk z = true := by
  unfold isNameS at h
  rw [Bool.and_eq_true] at h
  have h2 := List.all_eq_true.mp h.2
  unfold PyData.strOk
  rw [Array.all_eq_true_iff_forall_mem]
  intro x hx
  have := h2 x (Array.mem_toList_iff.mpr hx)
  unfold isLow at this
  have := of_decide_eq_true this
  exact decide_eq_true (by omega)
theorem fineS {ss : List Str} (h : ∀ x ∈ ss, isNameS x = true) : Fine 1 (dS ss) := fineL fun x hx => ⟨by simp [PyData.canLay0, strOk_name (h x hx)], by simp [PyData.depth]⟩
section
variable {K : PySem.W.Frag} {H : Hp}
theorem dpAll_map {α : Type} {g : α → V} {f : α → PyData} (h : ∀ x, Dp K H (g x) (f x)) : ∀ xs : List α, DpAll K H (xs.map g) (xs.map f)
  | [] => .nil
  | x :: r => .cons (h x) (dpAll_map h r)
theorem LI.dp {v : V} {ns : List Int} (h : LI H v ns) : Dp K H v (dI ns) := by
  obtain ⟨a, rfl, e⟩ := h
  exact .lst (SqL.of e) (dpAll_map (fun x => .int x) ns)
theorem LS.dp {v : V} {ss : List Str} (h : LS H v ss) : Dp K H v (dS ss) := by
  obtain ⟨a, rfl, e⟩ := h
  exact .lst (SqL.of e) (dpAll_map (fun x => .str x) ss)
end
theorem eqv_self {n : Nat} {d : PyData} (h : Fine n d) : PyData.eqv d d = true := SeqAt.eqv_refl d h.1
theorem neD_no {K : PySem.W.Frag} {H : Hp} {x y : V} {d : PyData} {n : Nat} {Q : VK} (f : Fine n d) (hn : n ≤ 60) (h1 : Dp K H x d) (h2 : Dp K H y d) (q : Q (.bl false) H) : rEqD K true x y H Q :=
  ⟨d, d, h1, h2, f.1, f.1, Nat.le_trans f.2 hn, by rw [eqv_self f]; exact q⟩
/-- a list of ints == []: where it is not so, there is one -/
theorem eqD_nil {K : PySem.W.Frag} {H : Hp} {a b : Addr} {ns : List Int} {Q : VK} (h1 : H a = some (.lst (ns.map V.int))) (h2 : H b = some (.lst [])) (q : ∀ c : Bool, (c = true ↔ ns = []) → Q (.bl c) H) : rEqD K false (.ref a) (.ref b) H Q := by
  refine ⟨dI ns, .list [], LI.dp ⟨a, rfl, h1⟩, .lst (SqL.of h2) .nil, (fineI ns).1, by simp [PyData.canLay0, PyData.canLayAll0], Nat.le_trans (fineI ns).2 (by decide), ?_⟩
  refine q _ ?_
  cases ns with
  | nil => simp [dI, PyData.eqv, PyData.eqvAll]
  | cons x r => simp [dI, PyData.eqv, PyData.eqvAll]
end L3

set_option Elab.async false
set_option linter.all false
set_option maxRecDepth 100000
set_option maxHeartbeats 4000000
namespace L3
open PySem PySem.Spec L2
theorem inV_str {z : Str} {ss : List Str} : inV (.str z) (ss.map V.str) = true ↔ z ∈ ss := by
  unfold inV
  rw [List.any_map, List.any_eq_true]
  constructor
  · rintro ⟨y, hy, e⟩
    have e' : (y == z) = true := e
    rw [beq_iff_eq] at e'
    exact e' ▸ hy
  · intro hz
    exact ⟨z, hz, by show (z == z) = true; simp⟩
theorem flat_strs (ss : List Str) : (ss.map V.str).all flatV = true := by
  rw [List.all_map]
  exact List.all_eq_true.mpr fun _ _ => rfl
theorem nodup_push {α : Type} {l : List α} {x : α} (h : l.Nodup) (n : x ∉ l) : (l ++ [x]).Nodup := by
  rw [List.nodup_append]
  refine ⟨h, by simp, ?_⟩
  intro a ha b hb e
  have : b = x := by simpa using hb
  subst this; subst e
  exact n ha
end L3
namespace L3
open PySem PySem.Spec L2
theorem at_mod {ts : List V} (n : Int) (h : ts ≠ []) : (0 : Int) < ts.length ∧ ∃ v, atI ts (n % (ts.length : Int)) = some v ∧ v ∈ ts := by
  have hl := List.length_pos_iff.mpr h
  have hp : (0 : Int) < ts.length := by omega
  refine ⟨hp, ?_⟩
  have h0 := Int.emod_nonneg n (Int.ne_of_gt hp)
  have h1 := Int.emod_lt_of_pos n hp
  obtain ⟨j, e⟩ := Int.eq_ofNat_of_zero_le h0
  rw [e] at h1 ⊢
  have hj : j < ts.length := by omega
  exact ⟨_, atI_nat (List.getElem?_eq_getElem hj), List.getElem_mem hj⟩
theorem ne_new {H : Hp} {p D : Addr} {o : HO} (h : H p = some o) (n : H D = none) : p ≠ D := fun e => by rw [e, n] at h; cases h
end L3
namespace L3
theorem nodup_rev {α : Type} {l : List α} (h : l.Nodup) : l.reverse.Nodup := by
  unfold List.Nodup at *
  rw [List.pairwise_reverse]
  exact h.imp fun q => Ne.symm q
end L3
namespace L3
open PySem PySem.Spec L2
theorem cut3 (xs : List V) : cutV xs none (some 3) = xs.take 3 := by
  unfold cutV
  have e1 : HT.sIx xs.length 0 none = 0 := rfl
  rw [e1]
  simp only [List.drop_zero, Nat.sub_zero]
  by_cases h : 3 ≤ xs.length
  · have e2 : HT.sIx xs.length xs.length (some 3) = 3 := by unfold HT.sIx; simp; omega
    rw [e2]
  · have e2 : HT.sIx xs.length xs.length (some 3) = xs.length := by unfold HT.sIx; simp; omega
    rw [e2, List.take_of_length_le (by omega), List.take_of_length_le (by omega)]
end L3

set_option Elab.async false
set_option linter.all false
set_option maxRecDepth 100000
set_option maxHeartbeats 4000000
namespace L3
open PySem PySem.Spec L2
theorem WorldAt.at {C : Addr} {H : Hp} {p : Addr} {d : WD} (h : WorldAt C H p d) {m : Str} (h1 : ¬ m = "room_signs") (h2 : ¬ m = "room_ways") (h3 : ¬ m = "start_rooms") (h4 : ¬ m = "fair_names") : ∃ dx fs, H p = some (.ins C dx fs) ∧ fs.lookup m = none := by
  obtain ⟨dx, t1, t2, t3, t4, e, _⟩ := h.ex
  exact ⟨dx, _, e, lk_no _ _ _ _ h1 h2 h3 h4⟩
theorem at_many {C : Addr} {H : Hp} {p : Addr} {d : WD} (h : WorldAt C H p d) : ∃ dx fs, H p = some (.ins C dx fs) ∧ fs.lookup ("many" : Str) = none := h.at (by decide +kernel) (by decide +kernel) (by decide +kernel) (by decide +kernel)
theorem at_signs_of {C : Addr} {H : Hp} {p : Addr} {d : WD} (h : WorldAt C H p d) : ∃ dx fs, H p = some (.ins C dx fs) ∧ fs.lookup ("signs_of" : Str) = none := h.at (by decide +kernel) (by decide +kernel) (by decide +kernel) (by decide +kernel)
theorem at_ways_on {C : Addr} {H : Hp} {p : Addr} {d : WD} (h : WorldAt C H p d) : ∃ dx fs, H p = some (.ins C dx fs) ∧ fs.lookup ("ways_on" : Str) = none := h.at (by decide +kernel) (by decide +kernel) (by decide +kernel) (by decide +kernel)
/-! ### some lists may change -/
end L3

set_option Elab.async false
set_option linter.all false
set_option maxRecDepth 100000
set_option maxHeartbeats 4000000
namespace L3
open PySem PySem.Spec L2
section
variable {X : Cx} {K : PySem.W.Frag}
end
/-- for, over any iterator of n turns -/
theorem for_gen {J : It} {n : Nat} {g : TG} {tb : L2.TS} {D : Ends} {σ : St} {H : Hp} (Pv : Nat → St → Hp → Prop) (h0 : Pv 0 σ H) (hgo : ∀ i σ H, i < n → Pv i σ H → J.go i H) (hst : ∀ σ H, Pv n σ H → J.stop n H)
    (hs : ∀ i x σ H H2, i < n → Pv i σ H → J.yld i H x H2 → g x σ H2 fun σ2 H3 => tb { D with nx := Pv (i + 1), ct := Pv (i + 1), bk := D.nx } σ2 H3) (hd : ∀ σ H, Pv n σ H → D.nx σ H) :
    ∃ W : Nat → Nat → St → Hp → Prop, (∃ m, W 0 m σ H) ∧ ∀ i m σ H, W i m σ H →
      (J.stop i H ∧ D.nx σ H) ∨ (J.go i H ∧ ∃ N : St → Hp → Prop, (∀ σ' H', N σ' H' → ∃ m', m' < m ∧ W (i + 1) m' σ' H') ∧ ∀ x H', J.yld i H x H' → g x σ H' fun σ2 H2 => tb { D with nx := N, ct := N, bk := D.nx } σ2 H2) := by
  refine ⟨fun i m σ H => m = n - i ∧ i ≤ n ∧ Pv i σ H, ⟨n, by simp, Nat.zero_le _, h0⟩, ?_⟩
  rintro i m σ H ⟨rfl, hi, p⟩
  by_cases hlt : i < n
  · exact .inr ⟨hgo i σ H hlt p, Pv (i + 1), fun σ' H' p' => ⟨n - (i + 1), by omega, rfl, hlt, p'⟩, fun x H' y => hs i x σ H H' hlt p y⟩
  · have e : i = n := by omega
    subst e
    exact .inl ⟨hst σ H p, hd σ H p⟩

/-! ### runs as plain functions -/
def signsI (d : WD) (r : Int) : List Str := (d.signs[r.toNat]?).getD []
def waysI (d : WD) (r : Int) : List Int := (d.ways[r.toNat]?).getD []
theorem ways_len {d : WD} (gd : Good d) (r : Int) : (waysI d r).length ≤ 20 := by
  unfold waysI
  cases e : d.ways[r.toNat]? with
  | none => simp
  | some x => exact (gd.wn x (List.mem_of_getElem? e)).2.2.2
theorem signs_len {d : WD} (gd : Good d) (r : Int) : (signsI d r).length ≤ 30 := by
  unfold signsI
  cases e : d.signs[r.toNat]? with
  | none => simp
  | some x => exact (gd.sn x (List.mem_of_getElem? e)).2.2
theorem at_of {xs : List Int} {i : Nat} (h : i < xs.length) : (xs.map V.int)[i]? = some (.int (xs.getD i 0)) := by
  simp [List.getD, h]
theorem cutV_from (xs : List V) (k : Nat) (h : k ≤ xs.length) : cutV xs (some (k : Int)) none = xs.drop k := by
  unfold cutV
  rw [HT.sIx_nat, HT.sIx_none, Nat.min_eq_left h]
  exact List.take_of_length_le (by rw [List.length_drop]; omega)
theorem cutV_to (xs : List V) (k : Nat) (h : k ≤ xs.length) : cutV xs none (some (k : Int)) = xs.take k := by
  unfold cutV
  rw [HT.sIx_nat, HT.sIx_none, Nat.min_eq_left h]
  simp
end L3
namespace L3
open PySem PySem.Spec L2
end L3

set_option Elab.async false
set_option linter.all false
set_option maxRecDepth 100000
set_option maxHeartbeats 4000000
namespace L3
open PySem PySem.Spec L2
end L3
namespace L3
open PySem PySem.Spec L2
/-- a statement, then the rest, with a word of one's own between -/
theorem pss_join {X : Cx} {st : Stmt} {rest : List Stmt} {t u : L2.TS} (h1 : PS X st t) (h2 : PSs X rest u) : PSs X (st :: rest) (fun D σ H => ∃ J : St → Hp → Prop, t { D with nx := J } σ H ∧ ∀ σ' H', J σ' H' → u D σ' H') := by
  intro pins s σ H D I h
  obtain ⟨J, h, hj⟩ := h
  refine wpAny_execs_cons (thn (h1 pins s σ H { D with nx := J } I h) fun f s1 q => ?_)
  cases f with
  | next =>
    obtain ⟨σ', H', I', q⟩ := q
    exact h2 pins s1 σ' H' D I' (hj _ _ q)
  | ret v => exact q
  | brk => exact q
  | cont => exact q
theorem cut_ints (ns : List Int) (lo hi : Option Int) : ∃ zs : List Int, cutV (ns.map V.int) lo hi = zs.map V.int ∧ zs.length ≤ ns.length := by
  unfold cutV
  refine ⟨(ns.drop (HT.sIx (ns.map V.int).length 0 lo)).take (HT.sIx (ns.map V.int).length (ns.map V.int).length hi - HT.sIx (ns.map V.int).length 0 lo), by rw [List.map_take, List.map_drop], ?_⟩
  rw [List.length_take, List.length_drop]
  omega
end L3

set_option Elab.async false
set_option linter.all false
set_option maxRecDepth 100000
set_option maxHeartbeats 4000000
namespace L3
open PySem PySem.Spec PySem.Calls PyProof.Rows PySem.W L2 Builtin Builtin.ObjectAttr Builtin.Getset_descriptor
/-! ### isinstance of a caught exception -/
section
variable {prog : Program} {w : PySem.World} {A : Around} {E : Value → Shared → Prop} {h : Heap} {g : Array GenState} {d : Drawn} {t : Nat} {os : OsState} {K : Frag} {a C : Addr}
/-- what is needed of a class of exceptions -/
structure ExcK (K : Frag) (C : Addr) : Prop where
  ga : findIn K (.ref C) "__getattribute__" = some (some (.builtin "BaseException.__getattribute__"))
  gh : findIn K (.ref C) "__getattr__" = some none
  ob : mroIn K C (.type "object") = some true
  be : mroIn K C (.type "BaseException") = some true
  cl : findIn K (.ref C) "__class__" = some (some (.builtin "object.__class__"))
  gt : specialIn K (.builtin "object.__class__") "__get__" = some (some (.builtin "getset_descriptor.__get__"))
  tk : takesIn K (.builtin "object.__class__") = some true
  hd : hasDictIn K C = true
end
section
variable {X : Cx}
end
end L3

set_option Elab.async false
set_option linter.all false
set_option maxRecDepth 100000
set_option maxHeartbeats 1000000
namespace L3
open PySem PySem.Spec PyProof.Rows L2
/-! ### displays of many constants, in one step -/
section
variable {X : Cx} {e : Expr} {es : List Expr} {v : V} {vs : List V} {t : TA}
end
/-! ### an argument, a display's item, that is no starred one: the item's own form is looked at alone -/
def starB : Expr → Bool
  | .Starred _ _ => true
  | _ => false
theorem star_c {e : Expr} {es : List Expr} {env : Env} (h : starB e = false) : starEach (e :: es) env = (false, eval e env) :: starEach es env := by
  cases e <;> first | rfl | cases h
theorem pa_c {X : Cx} {e : Expr} {es : List Expr} {te : TE} {t : TA} (ha : PE X e te) (hr : PA X es t) (h : starB e = false := by rfl) : PA X (e :: es) (tCons te t) := pa_cons ha hr (star_c h)
end L3

set_option Elab.async false
set_option linter.all false
set_option maxRecDepth 100000
set_option maxHeartbeats 4000000
namespace L3
open PySem PySem.SetTable
/-! ### a search in a small table comes to an end -/
section
variable {t : SetTable} {hashAt : Nat → Int} {h : Int}
end
theorem nodup_lenN : ∀ {l₁ l₂ : List Nat}, l₁.Nodup → (∀ x ∈ l₁, x ∈ l₂) → l₁.length ≤ l₂.length
  | [], _, _, _ => by simp
  | x :: r, l₂, nd, h => by
    obtain ⟨h1, h2⟩ := List.nodup_cons.mp nd
    have hx := h x (by simp)
    have := nodup_lenN (l₂ := l₂.erase x) h2 fun y hy => (List.mem_erase_of_ne (fun e => h1 (by rw [← e]; exact hy))).mpr (h y (List.mem_cons_of_mem _ hy))
    rw [List.length_erase_of_mem hx] at this
    have := List.length_pos_of_mem hx
    rw [List.length_cons]
    omega
end L3

set_option Elab.async false
set_option linter.all false
set_option maxRecDepth 100000
set_option maxHeartbeats 4000000
namespace L3
open PySem PySem.Spec PyProof.Rows L2
theorem newE {H : Hp} {a : Addr} {o : HO} (h : H a = none) : ∃ H1, upd H a o = H1 ∧ Same H H1 ∧ H1 a = some o := ⟨_, rfl, same_upd h, upd_same⟩
/-! ### what a text writes -/
/-! ### the texts of the law -/
end L3

set_option Elab.async false
set_option linter.all false
set_option maxRecDepth 100000
set_option maxHeartbeats 4000000
namespace L3
open PySem PySem.Spec PyProof.Rows L2
/-! ### comprehensions of any kind, with one for or two -/
abbrev TEm := St → Hp → (St → Hp → Prop) → Prop
/-- what a turn does behind its tests -/
def PEm (X : Cx) (em : Sem Unit) (t : TEm) : Prop :=
  ∀ (pins : List (Addr × Obj)) (s : Shared) (σ : St) (H : Hp) (Q : St → Hp → Prop), L2.Inv X pins σ H s → t σ H Q → wpAny (model X.prog X.w) X.A em (fun _ s' => ∃ σ' H', L2.Inv X pins σ' H' s' ∧ Q σ' H') X.xe s
/-- the turns of one for, by an invariant -/
def LoopW (J : It) (g : TG) (tt : TT) (em : TEm) (σ0 : St) (H1 : Hp) (Q : St → Hp → Prop) : Prop :=
  ∃ W : Nat → Nat → St → Hp → Prop, (∃ m, W 0 m σ0 H1) ∧ ∀ i m σ' H', W i m σ' H' → (J.stop i H' ∧ Q σ' H') ∨
    (J.go i H' ∧ ∃ N : St → Hp → Prop, (∀ σ2 H5, N σ2 H5 → ∃ m', m' < m ∧ W (i + 1) m' σ2 H5) ∧ ∀ x H2, J.yld i H' x H2 → g x σ' H2 fun σ2 H3 => tt σ2 H3 fun c H4 => if c = true then em σ2 H4 N else N σ2 H4)
def turnOf (p : Pos) (tg : Expr) (ifs : List Expr) (it : Value) (env : Env) (body : Sem Unit) (c : Code) : Sem Fin := do
  standAt p
  match ← pyNext it with
  | none => pure (.done .next)
  | some v =>
    letOwnedTupleGo tg it v
    assign tg env v
    let mut ok := true
    for c in ifs do
      if ok then ok ← isTrue c env (eval c env)
    if ok then body
    again c
theorem den_loop {prog : Program} {w : World} {e : Expr} {d : Nat} {it acc : Value} {env : Env} (h : (Code.compLoop e d it acc env).isFrame = false) :
    (model prog w).den (.compLoop e d it acc env) = (compTurn e d it acc env).onRaise (fun x => do noteFrame x env; theTreesLotGoes x) := by
  show (if (Code.compLoop e d it acc env).isFrame then (compTurn e d it acc env).onRaise (leaving env) else (compTurn e d it acc env).onRaise (fun x => do noteFrame x env; theTreesLotGoes x)) = _
  rw [h]; rfl
theorem den_start {prog : Program} {w : World} {e : Expr} {d : Nat} {it acc : Value} {env : Env} (h : (Code.compStart e d it acc env).isFrame = false) :
    (model prog w).den (.compStart e d it acc env) = (compStart e d it acc env).onRaise (fun x => do noteFrame x env; standAt theWindowsPlace) := by
  show (if (Code.compStart e d it acc env).isFrame then (compStart e d it acc env).onRaise (leaving env) else (compStart e d it acc env).onRaise (fun x => do noteFrame x env; standAt theWindowsPlace)) = _
  rw [h]; rfl
theorem start_any {prog : Program} {w : World} {A : Around} {R : Result → Shared → Prop} {s : Shared} {e tg iter : Expr} {ifs : List Expr} {d : Nat} {it acc : Value} {env : Env} (cl : (clausesOf e)[d]? = some ⟨tg, iter, ifs, 0⟩) (hf : (Code.compStart e d it acc env).isFrame = false)
    (h0 : codeAny (model prog w) A (.compLoop e d it acc env) R s)
    (h : wpAny (model prog w) A (pyIter it) (fun it' s' => codeAny (model prog w) A (.compLoop e d it' acc env) R s') (fun _ _ => False) s) (hu : A.under (.compStart e d it acc env) = A := by rfl) (hq : ∀ it', (Code.compLoop e d it' acc env).quiet = true := by intro _; rfl) :
    codeAny (model prog w) A (.compStart e d it acc env) R s := by
  refine codeAny_of_tree ?_
  rw [den_start hf, hu]
  refine wpAny_notedAt ?_
  unfold compStart
  rw [cl]
  show wpAny _ A (ask >>= _) _ _ s
  refine wpAny_bind (wpAny_askSetting (wpAny_ite ?_))
  split
  · first
      | exact wpAny_bind (wpAny_pure (wpAny_pure (And.intro (hq _) h0)))
      | exact wpAny_pure (And.intro (hq _) h0)
  · first
      | exact wpAny_bind (wpAny_rule (wpAny_bind (wpAny_standAt (wpAny_bind (thnF h fun it' s' h' => wpAny_pure (And.intro (hq _) h'))))))
      | (refine wpAny_bind (wpAny_rule ?_); show wpAny _ _ (standAt iter.pos >>= _) _ _ s; exact wpAny_bind (wpAny_standAt (wpAny_bind (thnF h fun it' s' h' => wpAny_pure (And.intro (hq _) h')))))
section
variable {Y : Cx} {pins : List (Addr × Obj)} {σ0 : St} {H1 : Hp} {s : Shared} {J : It} {fp : List Addr} {it : Addr} {tn : Nat → Heap → Prop} {tg : Expr} {ifs : List Expr} {g : TG} {tt : TT} {em : TEm} {p : Pos} {body : Sem Unit} {e : Expr} {d : Nat} {acc : Value} {Q : St → Hp → Prop} {R : Result → Shared → Prop}
theorem loop_em (hf : (Code.compLoop e d (.ref it) acc Y.env).isFrame = false) (ht : compTurn e d (.ref it) acc Y.env = turnOf p tg ifs (.ref it) Y.env body (.compLoop e d (.ref it) acc Y.env))
    (T : Turn Y.prog Y.w Y.K tg J fp it tn) (I : L2.Inv Y pins σ0 H1 s) (st : tn 0 s.heap) (hfp : ∀ b ∈ fp, FpOk Y pins H1 b) (hc : Y.calm = true) (hx : Y.xe = fun _ _ => False)
    (hg : PG Y tg g) (hT : PTs Y ifs tt) (he : PEm Y body em) (h : LoopW J g tt em σ0 H1 Q) (hR : ∀ σ' H' s', L2.Inv Y pins σ' H' s' → Q σ' H' → R (.ok .next) s')
    (hu : Y.A.under (.compLoop e d (.ref it) acc Y.env) = Y.A := by rfl) (hq : (Code.compLoop e d (.ref it) acc Y.env).quiet = true := by rfl) :
    codeAny (model Y.prog Y.w) Y.A (.compLoop e d (.ref it) acc Y.env) R s := by
  obtain ⟨W, ⟨m0, w0⟩, turn⟩ := h
  have stat : ∀ {H' : Hp}, (∀ b ∈ fp, H' b = none) → ∀ b ∈ fp, FpOk Y pins H' b := fun {H'} hn b hb => by
    obtain ⟨f0, fr⟩ := hfp b hb
    exact ⟨hn b hb, fr⟩
  unfold PG at hg
  unfold PTs at hT
  unfold PEm at he
  rw [hx] at hg hT he
  refine codeAny_loop hq (fun n s' => ∃ i σ' H', L2.Inv Y pins σ' H' s' ∧ tn i s'.heap ∧ (∀ b ∈ fp, H' b = none) ∧ W i n σ' H') ?_ m0 ⟨0, σ0, H1, I, st, fun b hb => (hfp b hb).1, w0⟩
  rintro n s5 ⟨i, σ5, H5, I5, st5, fr5, w5⟩
  rw [den_loop hf, hu, ht]
  refine wpAny_noted ?_
  unfold turnOf
  have TI := T.item Y rfl rfl rfl hc i pins s5 σ5 H5 (fun _ _ => False) I5 (stat fr5) st5
  have TD := T.done Y rfl rfl rfl hc i pins s5 σ5 H5 (fun _ _ => False) I5 (stat fr5) st5
  rcases turn i n σ5 H5 w5 with ⟨stop, qn⟩ | ⟨go, N, hN, step⟩
  · refine wpAny_bind (wpAny_standAt (wpAny_bind (thnF (TD stop) fun r s6 ⟨hr, I6⟩ => ?_)))
    subst hr
    exact wpAny_pure (hR _ _ _ I6 qn)
  · refine wpAny_bind (wpAny_standAt (wpAny_bind (thnF (TI go) fun r s6 ⟨u, hr, h6⟩ => ?_)))
    subst hr
    refine wpAny_bind (thnF h6 fun _ s7 ⟨x, H7, I7, r7, y7, st7, fr7⟩ => ?_)
    have I7' := I7.pinned (stat fr7) (T.obj _ _ st7)
    refine wpAny_bind (thnF (hg _ s7 σ5 H7 x u _ I7' r7 (step x H7 y7)) fun _ s8 ⟨σ8, H8, I8, q8⟩ => ?_)
    refine wpAny_bind (thnF (hT _ s8 σ8 H8 _ I8 q8) fun c s9 ⟨H9, I9, q9⟩ => ?_)
    have back : ∀ {σa : St} {Ha : Hp} {sa : Shared}, L2.Inv Y (pins ++ pinsAt fp s7.heap) σa Ha sa → (∃ m', m' < n ∧ W (i + 1) m' σa Ha) → ∃ m, m < n ∧ ∃ i σ' H', L2.Inv Y pins σ' H' sa ∧ tn i sa.heap ∧ (∀ b ∈ fp, H' b = none) ∧ W i m σ' H' := fun {σa Ha sa} Ia ⟨m', hm, wa⟩ => by
      refine ⟨m', hm, i + 1, σa, Ha, Ia.unpinned, T.keep _ _ _ st7 fun b hb o e => (Ia.pin (b, o) (List.mem_append_right _ (List.mem_append_right _ (mem_pinsAt hb e)))).1, fun b hb => ?_, wa⟩
      obtain ⟨o, e, d⟩ := T.obj _ _ st7 b hb
      exact (Ia.pin (b, o) (List.mem_append_right _ (List.mem_append_right _ (mem_pinsAt hb e)))).2.1
    cases c with
    | false => exact wpAny_pure ⟨rfl, back I9 (hN _ _ (by simpa using q9))⟩
    | true =>
      rw [if_pos rfl] at q9
      exact wpAny_bind (thnF (he _ s9 σ8 H9 _ I9 q9) fun _ s10 ⟨σ10, H10, I10, q10⟩ => wpAny_pure ⟨rfl, back I10 (hN _ _ q10)⟩)
end
end L3

set_option Elab.async false
set_option linter.all false
set_option maxRecDepth 100000
set_option maxHeartbeats 4000000
namespace L3
open PySem PySem.Spec PyProof.Rows L2
def tCompE (wi : TI) (ix : List (Option Nat)) (o0 : Addr → HO) (g : TG) (tt : TT) (em : Addr → TEm) : TE := fun σ H Q => wi σ H fun J H1 => ∀ D, H1 D = none → LoopW J g tt (em D) (sub ix σ) (upd H1 D (o0 D)) (fun _ H' => Q (.ref D) H')
section
variable {X : Cx} {pins : List (Addr × Obj)} {σ : St} {H : Hp} {s : Shared} {Nc : List Str} {ix : List (Option Nat)} {scope : Scope}
/-- a comprehension e of any kind; bd: what its innermost turn does, or its inner for -/
theorem comp_runE {e tg iter : Expr} {ifs : List Expr} {rest : List Comprehension} {pos2 : Pos} {nA : Sem Value} {ob : Obj} {o0 : Addr → HO} {bd : Addr → Env → Sem Unit} {wi : TI} {g : TG} {tt : TT} {em : Addr → TEm} {use : Option (Value → Sem Unit)} {QV : Value → Shared → Prop} {Q : VK}
    (I : L2.Inv X pins σ H s) (h : tCompE wi ix o0 g tt em σ H Q)
    (fin : ∀ (D C : Addr) (H' : Hp) (s' : Shared) (m : Str → Option Value), L2.Inv X pins σ H' s' → FpOk X pins H' C → s'.heap.Ns C m → Q (.ref D) H' → compPost (model X.prog X.w) X.A X.xe use QV (.ref D) C (.ok .next) s')
    (hcl : clausesOf e = ⟨tg, iter, ifs, 0⟩ :: rest) (hfr : ∀ it acc env, (Code.compLoop e 0 it acc env).isFrame = false ∧ (Code.compStart e 0 it acc env).isFrame = false)
    (htn : ∀ it D env, compTurn e 0 it (.ref D) env = turnOf iter.pos tg ifs it env (bd D env) (.compLoop e 0 it (.ref D) env))
    (hun : ∀ (A : Around) it acc env, A.under (.compLoop e 0 it acc env) = A ∧ A.under (.compStart e 0 it acc env) = A) (hqt : ∀ it acc env, (Code.compLoop e 0 it acc env).quiet = true)
    (hnA : ∀ (A : Around) (E : Value → Shared → Prop) (Q : Value → Shared → Prop) (s : Shared), Q (.ref s.heap.objs.size) { s with heap := s.heap.push ob } → wpAny (model X.prog X.w) A nA Q E s)
    (hpl : ∀ s2 : Shared, ∀ H1, L2.Inv X pins σ H1 s2 → L2.Inv X pins σ (upd H1 s2.heap.objs.size (o0 s2.heap.objs.size)) { s2 with heap := s2.heap.push ob })
    (ok : CompOk X.env.scope X.N Nc ix scope) (hc : X.calm = true) (hi : PI X tg iter wi)
    (hg : ∀ cl C s H fp, PG (cxComp X Nc scope cl C s H fp) tg g) (ht : ∀ cl C s H fp, PTs (cxComp X Nc scope cl C s H fp) ifs tt) (he : ∀ cl C s H fp D, PEm (cxComp X Nc scope cl C s H fp) (bd D (compEnvC scope cl C X.env)) (em D))
    (hs : ∀ x, foldedSetIterable iter X.env x = pure x := by intro _; rfl) : wpAny (model X.prog X.w) X.A (comprehension e scope X.env pos2 nA false (eval iter X.env) use) QV X.xe s := by
  refine wpAny_comprehension_free (use := use) (cl := closOf scope X.env) hcl hs (clos_eq (all_cells I ok)) ok.kind ok.names (thn (hi pins s σ H _ I h) fun v s1 q1 => thn q1 fun itv s2 q2 => ?_)
  obtain ⟨it, fp, tn, J, H1, e1, I2, T, st2, f2, q⟩ := q2
  subst e1
  have hD : H1 s2.heap.objs.size = none := I2.hok.fresh (Nat.le_refl _)
  have lw := q _ hD
  refine hnA _ _ _ _ ?_
  have I3 := hpl s2 H1 I2
  have hob2 := T.obj 0 _ st2
  have f3 : ∀ b ∈ fp, FpOk X pins (upd H1 s2.heap.objs.size (o0 s2.heap.objs.size)) b := fun b hb => by
    obtain ⟨o, e, _⟩ := hob2 b hb
    obtain ⟨f0, fr⟩ := f2 b hb
    exact ⟨by rw [upd_ne (Nat.ne_of_lt (Heap.lt_size e))]; exact f0, fr⟩
  have st3 : tn 0 (s2.heap.push ob) := T.keep 0 _ _ st2 fun b _ o e => Heap.get?_push_of_some _ e
  generalize hs3 : ({ s2 with heap := s2.heap.push ob } : Shared) = s3 at I3 ⊢
  have st3' : tn 0 s3.heap := by rw [← hs3]; exact st3
  refine wpAny_newFunctionEnv ok.nocell (by intro y hy; simp at hy) (fun h1 hns hsb => ?_) ok.kind
  have k1 : ∀ b o, s3.heap.get? b = some o → h1.get? b = some o := fun b o e => (hsb.2 b (Nat.ne_of_lt (Heap.lt_size e))).trans (Heap.get?_push_of_some _ e)
  have hob3 : ∀ b ∈ fp, ∃ o, s3.heap.get? b = some o := fun b hb => let ⟨o, e, _⟩ := T.obj 0 _ st3' b hb; ⟨o, e⟩
  have I4 : L2.Inv (cxComp X Nc scope (closOf scope X.env) s3.heap.objs.size s3 (upd H1 s2.heap.objs.size (o0 s2.heap.objs.size)) fp) pins (sub ix σ) (upd H1 s2.heap.objs.size (o0 s2.heap.objs.size)) { s3 with heap := h1, toks := s3.toks + ([] : List (Str × Value)).length } :=
    comp_start I3 ok f3 hob3 hns k1
  have st4 : tn 0 h1 := T.keep 0 _ _ st3' fun b _ o e => k1 b o e
  have hC : s3.heap.get? s3.heap.objs.size = none := Heap.get?_none_of_le (Nat.le_refl _)
  have f4 : ∀ b ∈ fp, FpOk (cxComp X Nc scope (closOf scope X.env) s3.heap.objs.size s3 (upd H1 s2.heap.objs.size (o0 s2.heap.objs.size)) fp) pins (upd H1 s2.heap.objs.size (o0 s2.heap.objs.size)) b := fun b hb => by
    obtain ⟨o, e⟩ := hob3 b hb
    obtain ⟨f0, f1, ff, f3', f4, f5⟩ := f3 b hb
    have nst : b ∉ frs X.stack := fun z => by
      rcases List.mem_cons.mp (I3.stkSub b z) with z | z
      · exact f1 z
      · exact ff z
    exact ⟨f0, Nat.ne_of_lt (Heap.lt_size e), nst, .inl hb, fun x c q => f4 x c (clos_some (all_cells I3 ok) q), f5⟩
  have loop := loop_em (Y := cxComp X Nc scope (closOf scope X.env) s3.heap.objs.size s3 (upd H1 s2.heap.objs.size (o0 s2.heap.objs.size)) fp) (e := e) (d := 0) (acc := .ref s2.heap.objs.size) (p := iter.pos) (R := compPost (model X.prog X.w) X.A X.xe use QV (.ref s2.heap.objs.size) s3.heap.objs.size)
    (hfr _ _ _).1 (htn _ _ _) T I4 st4 f4 hc rfl (hg _ _ _ _ _) (ht _ _ _ _ _) (he _ _ _ _ _ _) lw (fun σ' H' s' J' qq => by
      obtain ⟨m', hn', _⟩ := id J'.loc
      have hCn : H' s3.heap.objs.size = none := J'.free
      exact fin _ _ H' s' m' (comp_end (h' := s'.heap) I3 f3 hC J' (.refl ..)) (I3.fpOk (Nat.le_refl _) hCn) hn' qq) (hun _ _ _ _).1 (hqt _ _ _)
  exact start_any (by rw [hcl]; rfl) (hfr _ _ _).2 loop (T.self X.A 0 _ _ _ st4 loop) (hun _ _ _ _).2 (fun _ => hqt _ _ _)
end
end L3


set_option Elab.async false
set_option linter.all false
set_option maxRecDepth 100000
/-! THE HAND LAYER, for ints, bools, texts, own classes, DICTS (int and text keys), calls, loops. Paste it whole ahead of your own text; what your proof does not reach may be deleted. -/
namespace L2
open PySem PySem.Spec PyProof.Rows

end L2

namespace L2
open PySem PySem.Spec PyProof.Rows

section
variable (P : Program) (w : World)
end

section
variable {P : Program} {w : World} {H H' : Hp} {h h' : Heap} {a : Addr} {o : HO}
end

section
variable {P : Program} {w : World} {H : Hp} {h h' : Heap} {x e : Addr} {o' : HO}
end

/-! ### kept unless tracked; of the frames at fs (the callers') the slots may change (an exception that passes writes there); of the records at ex (iterators) nothing is said -/
section
variable {fs fs' ex ex' : List Addr} {H H1 H2 : Hp} {h h1 h2 h' : Heap} {a x e : Addr} {o : HO}
end

/-! ### the heap without what is tracked -/
/-! ### OpenK's ledger, filled with every new object but one -/
end L2

namespace L2
open PySem PySem.Spec PyProof.Rows

section
variable {X : Cx} {pins : List (Addr × Obj)} {σ : List (Option V)} {H H' : Hp} {s : Shared} {h' : Heap}

end

/-! ### the judgements -/
end L2

namespace L2
open PySem PySem.Spec PyProof.Rows
section
variable {X : Cx}

/-! ### names and constants -/
/-! ### arithmetic -/
variable {a b : Expr} {ta tb : TE} {pos : Pos}
/-! ### comparisons -/
/-! ### and, or, not -/
variable {tA tB' : TT} {rest : List Expr}
end
end L2

namespace L2
open PySem PySem.Spec PyProof.Rows

/-! ### a list, a tuple that is read: tracked, frozen, or an object of the module -/
section
variable {X : Cx} {pins : List (Addr × Obj)} {σ : St} {H : Hp} {s : Shared} {a : Addr} {xs ys : List V}
end

/-! ### another wish about exceptions -/
section
variable {X : Cx} {pins : List (Addr × Obj)} {σ : St} {H : Hp} {s : Shared} {E : Value → Shared → Prop}
end

/-! ### blocks and small statements -/
section
variable {X : Cx} {st : Stmt} {rest : List Stmt} {t u : TS} {e : Expr} {te : TE} {pos : Pos}
end

/-! ### targets -/
section
variable {X : Cx} {pos : Pos}
end

/-! ### while -/
section
variable {X : Cx} {pos : Pos}
end

/-! ### what a loop or a comprehension walks -/
end L2

namespace L2
open PySem PySem.Spec PyProof.Rows
section
variable {X : Cx} {tg : Expr}
/-! ### for -/
end

/-! ### the forms one uses -/
end L2

namespace L2
open PySem PySem.Spec PyProof.Rows

section
variable {X : Cx} {a b c : Expr} {ta tb tc : TE} {pos : Pos}

/-! ### ints -/
/-! ### bools among ints: n += (a < b) -/
end

/-! ### comparisons -/
section
variable {X : Cx} {a b c : Expr} {ta tb tc : TE} {pos : Pos}
/-! ### truth -/
/-! ### strs and bytes -/
/-! ### scalar builtins, by CallR -/
end
end L2

namespace L2
open PySem PySem.Spec PyProof.Rows

/-! ### an instance, its attributes a map -/
section
variable {prog : Program} {w : World} {A : Around} {E : Value → Shared → Prop} {s : Shared} {K : PySem.W.Frag} {x dx C f : Addr} {mA : Str → Option Value} {name : Str} {v : Value}

end

/-! ### the attributes as a list of pairs -/
section
variable {P : Program} {w : World} {H H' : Hp} {h h' : Heap} {a C dx : Addr} {fs fs' : List (Str × V)}
end

/-! ### what of the text a class must have -/
section
variable {X : Cx} {pins : List (Addr × Obj)} {σ : St} {H : Hp} {s : Shared} {a C dx : Addr} {fs : List (Str × V)} {f : Str} {v : V} {A : Around} {E : Value → Shared → Prop}

end

/-! ### readings and rules -/
section
variable {X : Cx} {o e value : Expr} {f : Str} {pos pos' tpos : Pos} {ta tv : TE}
end

/-! ### isinstance -/
section
variable {X : Cx} {pins : List (Addr × Obj)} {σ : St} {H : Hp} {s : Shared} {A : Around} {E : Value → Shared → Prop} {Q : Value → Shared → Prop} {c : Value} {b : Bool}
end
end L2

namespace L2
open PySem PySem.Spec PyProof.Rows

/-! ### room -/
/-! ### argument lists and displays -/
section
variable {X : Cx} {e : Expr} {es : List Expr} {te : TE} {t : TA} {pos : Pos}
end

/-! ### what a def promises -/
section
variable {X : Cx} {pins : List (Addr × Obj)} {σ : St} {H : Hp} {s s' : Shared}
end

/-! ### calls -/
section
variable {X : Cx} {CX : CXT} {k : Nat} {f C : Addr} {fd : FuncData} {ps : List Str} {sp : Sp} {dvs : List V} {ds : List Value} {E : XK} {x m : Str} {p pos apos : Pos} {e o : Expr} {es : List Expr} {ta : TE} {t : TA}

end

/-! ### keywords -/
section
variable {X : Cx} {CX : CXT} {k : Nat} {f C : Addr} {fd : FuncData} {ps ks : List Str} {sp : Sp} {E : XK} {x m : Str} {p pos apos kpos : Pos} {e o : Expr} {es : List Expr} {kws : List Keyword} {te ta : TE} {t tk : TA} {nm : Option Str}
variable {g : List Value → List Value → List Value} {gV : List V → List V → List V}
end

/-! ### a def's body keeps its promise -/
end L2

namespace L2
open PySem PySem.Spec PyProof.Rows
section
variable {X : Cx} {x : Str} {p pos : Pos} {e : Expr} {es : List Expr} {t : TA} {id T : String} {r : List V → Hp → VK → Prop}

end
end L2

namespace L2
open PySem PySem.Spec PyProof.Rows

/-! ### lists of pairs as tables -/
section
variable {κ : Type} [DecidableEq κ]
def valV (kvs : List (κ × V)) (k : κ) : Option V := (kvs.find? fun kv => decide (kv.1 = k)).map (·.2)
/-- in its place, or at the end -/
def putK (kvs : List (κ × V)) (k : κ) (v : V) : List (κ × V) :=
  if (kvs.any fun kv => decide (kv.1 = k)) = true then kvs.map (fun kv => if kv.1 = k then (kv.1, v) else kv) else kvs ++ [(k, v)]
theorem valV_pos {p : κ × V} {r : List (κ × V)} {k : κ} (e : p.1 = k) : valV (p :: r) k = some p.2 := by simp [valV, List.find?_cons, e]
theorem valV_neg {p : κ × V} {r : List (κ × V)} {k : κ} (e : ¬ p.1 = k) : valV (p :: r) k = valV r k := by simp [valV, List.find?_cons, e]
theorem valV_any (k : κ) : ∀ kvs : List (κ × V), (kvs.any fun kv => decide (kv.1 = k)) = (valV kvs k).isSome
  | [] => rfl
  | p :: r => by
    rw [List.any_cons]
    by_cases e : p.1 = k
    · simp only [valV_pos e, decide_eq_true e, Bool.true_or, Option.isSome_some]
    · rw [valV_neg e, decide_eq_false e, Bool.false_or]; exact valV_any k r
theorem length_putK (kvs : List (κ × V)) (k : κ) (v : V) : (putK kvs k v).length ≤ kvs.length + 1 := by
  unfold putK
  split
  · rw [List.length_map]; omega
  · rw [List.length_append, List.length_cons, List.length_nil]; omega
theorem RelO.isSome_eq {o : Option V} {u : Option Value} (r : RelO o u) : o.isSome = u.isSome := by
  cases o with
  | none => cases u with
    | none => rfl
    | some _ => exact (show False from r).elim
  | some _ => cases u with
    | none => exact (show False from r).elim
    | some _ => rfl
/-- raw tables of the same keys -/
theorem KV.val {kvs : List (κ × V)} {vs : List (κ × Value)} (r : KV kvs vs) (k : κ) : RelO (valV kvs k) (valueAt vs k) := by
  unfold KV at r
  induction r with
  | nil => exact True.intro
  | @cons p q ps qs h t ih =>
    obtain ⟨h1, h2⟩ := h
    by_cases e : p.1 = k
    · have e' : q.1 = k := h1.symm.trans e
      have b : valueAt (q :: qs) k = some q.2 := by simp [valueAt, List.find?_cons, e']
      rw [valV_pos e, b]; exact h2
    · have e' : ¬ q.1 = k := fun z => e (h1.trans z)
      have b : valueAt (q :: qs) k = valueAt qs k := by simp [valueAt, List.find?_cons, e']
      rw [valV_neg e, b]; exact ih
theorem KV.any {kvs : List (κ × V)} {vs : List (κ × Value)} (r : KV kvs vs) (k : κ) : (kvs.any fun kv => decide (kv.1 = k)) = vs.any fun kv => decide (kv.1 = k) := by
  unfold KV at r
  induction r with
  | nil => rfl
  | cons h t ih => rw [List.any_cons, List.any_cons, ih, h.1]
theorem KV.repl {kvs : List (κ × V)} {vs : List (κ × Value)} (r : KV kvs vs) (k : κ) {y : V} {u : Value} (ry : RelV y u) :
    KV (kvs.map fun kv => if kv.1 = k then (kv.1, y) else kv) (vs.map fun kv => if kv.1 = k then (kv.1, u) else kv) := by
  unfold KV at r ⊢
  induction r with
  | nil => exact .nil
  | @cons p q ps qs h t ih =>
    rw [List.map_cons, List.map_cons]
    refine .cons ?_ ih
    obtain ⟨h1, h2⟩ := h
    by_cases e : p.1 = k
    · rw [if_pos e, if_pos (h1.symm.trans e)]; exact ⟨h1, ry⟩
    · rw [if_neg e, if_neg (fun z => e (h1.trans z))]; exact ⟨h1, h2⟩
theorem KV.put {kvs : List (κ × V)} {vs : List (κ × Value)} (r : KV kvs vs) (k : κ) {y : V} {u : Value} (ry : RelV y u) : KV (putK kvs k y) (stored vs k u) := by
  unfold putK stored
  rw [r.any k]
  by_cases e : (vs.any fun kv => decide (kv.1 = k)) = true
  · rw [if_pos e, if_pos e]; exact r.repl k ry
  · rw [if_neg e, if_neg e]; exact Paired.snoc r ⟨rfl, ry⟩
theorem KV.length {kvs : List (κ × V)} {vs : List (κ × Value)} (r : KV kvs vs) : kvs.length = vs.length := Paired.length r
end


/-! ### a tracked dict, its keys ints and texts or tuples of these -/
theorem kV_is {P : Program} {w : World} {k : Key} {u : Value} (r : RelV (kV k) u) : (mixKind P w).is k u = true := by
  cases k with
  | inl i => obtain ⟨t, e⟩ := (show ∃ t, u = Value.int i t from r); subst e; exact mixKind_int P w i t
  | inr x => obtain ⟨t, e⟩ := (show ∃ t, u = Value.str x t from r); subst e; exact mixKind_str P w x t
theorem items_are {P : Program} {w : World} : ∀ {ks : List Key} {us : List Value}, Vals (ks.map kV) us → ItemsAre (mixKind P w) ks us
  | [], _, r => by rw [List.map_nil] at r; cases r; exact .nil
  | k :: ks, _, r => by
    rw [List.map_cons] at r
    cases r with
    | cons h t => exact .cons (kV_is h) (items_are t)

/-- raw entries of a dict with tuple keys -/
abbrev KT (H : Hp) : List (List Key × V) → List (List Key × Addr × Value) → Prop := Paired fun p q => p.1 = q.1 ∧ H q.2.1 = some (.tup (p.1.map kV)) ∧ RelV p.2 q.2.2
theorem KT.val {H : Hp} {kvs : List (List Key × V)} {xs : List (List Key × Addr × Value)} (r : KT H kvs xs) (k : List Key) : RelO (valV kvs k) ((atKey xs k).map (·.2)) := by
  induction r with
  | nil => exact True.intro
  | @cons p q ps qs h t ih =>
    obtain ⟨h1, _, h2⟩ := h
    by_cases e : p.1 = k
    · have e' : q.1 = k := h1.symm.trans e
      have b : atKey (q :: qs) k = some q.2 := by simp [atKey, List.find?_cons, e']
      rw [valV_pos e, b]; exact h2
    · have e' : ¬ q.1 = k := fun z => e (h1.trans z)
      have b : atKey (q :: qs) k = atKey qs k := by simp [atKey, List.find?_cons, e']
      rw [valV_neg e, b]; exact ih
theorem KT.repl {H : Hp} {kvs : List (List Key × V)} {xs : List (List Key × Addr × Value)} (r : KT H kvs xs) (k : List Key) {y : V} {u : Value} (ry : RelV y u) :
    KT H (kvs.map fun kv => if kv.1 = k then (kv.1, y) else kv) (xs.map (putAt k u)) := by
  induction r with
  | nil => exact .nil
  | @cons p q ps qs h t ih =>
    rw [List.map_cons, List.map_cons]
    refine .cons ?_ ih
    obtain ⟨h1, h2, h3⟩ := h
    unfold putAt
    by_cases e : p.1 = k
    · rw [if_pos e, if_pos (h1.symm.trans e)]; exact ⟨h1, h2, ry⟩
    · rw [if_neg e, if_neg (fun z => e (h1.trans z))]; exact ⟨h1, h2, h3⟩
theorem KT.put {H : Hp} {kvs : List (List Key × V)} {xs : List (List Key × Addr × Value)} (r : KT H kvs xs) (k : List Key) {b : Addr} {y : V} {u : Value} (hb : H b = some (.tup (k.map kV))) (ry : RelV y u) :
    KT H (putK kvs k y) (storedH xs k b u) := by
  have e : (kvs.any fun kv => decide (kv.1 = k)) = (atKey xs k).isSome := by
    rw [valV_any, (r.val k).isSome_eq, Option.isSome_map]
  unfold putK storedH
  rw [e]
  by_cases q : (atKey xs k).isSome = true
  · rw [if_pos q, if_pos q]; exact r.repl k ry
  · rw [if_neg q, if_neg q]; exact Paired.snoc r ⟨rfl, hb, ry⟩
theorem KT.keeps {H H' : Hp} {kvs : List (List Key × V)} {xs : List (List Key × Addr × Value)} (r : KT H kvs xs) (ht : ∀ b ys, H b = some (.tup ys) → H' b = some (.tup ys)) : KT H' kvs xs :=
  Paired.mapP r fun _ _ z => ⟨z.1, ht _ _ z.2.1, z.2.2⟩

section
variable {P : Program} {w : World} {H : Hp} {h : Heap} {a : Addr}
theorem rd_of {u : HO} (ok : HOk P w H h) (e : Rd H a u) : ObjOk P w H h a u := e.ok ok
theorem dk_rd {kvs : List (Key × V)} (ok : HOk P w H h) (e : Rd H a (.dK kvs)) : kvs.length ≤ sizeLine ∧ (a == sysModules) = false ∧ ∃ vs, KV kvs vs ∧ h.DictOf (mixKind P w) a vs :=
  show ObjOk P w H h a (.dK kvs) from rd_of ok e
theorem dk_of {kvs : List (Key × V)} (ok : HOk P w H h) (e : H a = some (.dK kvs)) : kvs.length ≤ sizeLine ∧ (a == sysModules) = false ∧ ∃ vs, KV kvs vs ∧ h.DictOf (mixKind P w) a vs := dk_rd ok (.inl e)
/-- a tracked tuple of ints and texts is a key -/
theorem key_of {ks : List Key} (ok : HOk P w H h) (e : H a = some (.tup (ks.map kV))) : (tupleKind (mixKind P w)).is h ks a := by
  obtain ⟨_, its, r, o, h1, h2, n, h3⟩ := (show ObjOk P w H h a (.tup (ks.map kV)) from ok a _ e)
  exact ⟨o, its.toArray, n, h1, h2, h3, by simpa using items_are r⟩
theorem dt_rd {kvs : List (List Key × V)} (ok : HOk P w H h) (e : Rd H a (.dT kvs)) : kvs.length ≤ sizeLine ∧ (a == sysModules) = false ∧
    ∃ xs, KT H kvs xs ∧ h.DictOfH (tupleKind (mixKind P w)) a xs := by
  obtain ⟨z, y, xs, r, o, es, ep, h1, h2, h3, h4, h5⟩ := (show ObjOk P w H h a (.dT kvs) from rd_of ok e)
  refine ⟨z, y, xs, r, o, es, ep, h1, h2, h3, h4, fun x hx => ?_, h5⟩
  have all : ∀ {l : List (List Key × V)} {m : List (List Key × Addr × Value)}, KT H l m → ∀ x ∈ m, (tupleKind (mixKind P w)).is h x.1 x.2.1 := by
    intro l m q
    induction q with
    | nil => intro x hx; exact nomatch hx
    | @cons p q ps qs hq t ih =>
      intro x hx
      rcases List.mem_cons.mp hx with e | hx
      · subst e
        exact key_of ok (by rw [← hq.1]; exact hq.2.1)
      · exact ih x hx
  exact all r x hx
theorem dt_of {kvs : List (List Key × V)} (ok : HOk P w H h) (e : H a = some (.dT kvs)) : kvs.length ≤ sizeLine ∧ (a == sysModules) = false ∧
    ∃ xs, KT H kvs xs ∧ h.DictOfH (tupleKind (mixKind P w)) a xs := dt_rd ok (.inl e)
end

/-- what the dict at a holds at the key y -/
def DGet (H : Hp) (a : Addr) (y : V) (r : Option V) : Prop :=
  (∃ kvs k, Rd H a (.dK kvs) ∧ y = kV k ∧ r = valV kvs k) ∨ ∃ kvs k b, Rd H a (.dT kvs) ∧ y = .ref b ∧ H b = some (.tup (k.map kV)) ∧ r = valV kvs k
/-- the heap behind a[y] = v -/
def DPut (H : Hp) (a : Addr) (y v : V) (H' : Hp) : Prop :=
  (∃ kvs k, H a = some (.dK kvs) ∧ y = kV k ∧ kvs.length < sizeLine ∧ H' = upd H a (.dK (putK kvs k v))) ∨
  ∃ kvs k b, H a = some (.dT kvs) ∧ y = .ref b ∧ H b = some (.tup (k.map kV)) ∧ kvs.length < sizeLine ∧ H' = upd H a (.dT (putK kvs k v))
theorem DGet.t {H : Hp} {a b : Addr} {kvs : List (List Key × V)} {k : List Key} (e : H a = some (.dT kvs)) (eb : H b = some (.tup (k.map kV))) : DGet H a (.ref b) (valV kvs k) := .inr ⟨kvs, k, b, .inl e, rfl, eb, rfl⟩
theorem DPut.t {H : Hp} {a b : Addr} {kvs : List (List Key × V)} {k : List Key} {v : V} (e : H a = some (.dT kvs)) (eb : H b = some (.tup (k.map kV))) (hl : kvs.length < sizeLine) :
    DPut H a (.ref b) v (upd H a (.dT (putK kvs k v))) := .inr ⟨kvs, k, b, e, rfl, eb, hl, rfl⟩


section
variable {X : Cx} {pins : List (Addr × Obj)} {σ : St} {H : Hp} {s : Shared} {a : Addr} {y v : V} {u r : Value} {o : Option V} {A : Around} {E : Value → Shared → Prop}

theorem Inv.big (I : Inv X pins σ H s) : sysModules < s.heap.objs.size := by
  have h : mainGlobals < s.heap.objs.size := (I.mod.glob.keeps I.bk).lt
  exact Nat.lt_trans (by decide) h

/-- y in d -/
theorem d_in {Q : Value → Shared → Prop} (hu : A.units + 1 < cLine) (I : Inv X pins σ H s) (g : DGet H a y o) (ry : RelV y u) (h : ∀ s', Inv X pins σ H s' → Q (.bool o.isSome) s') :
    wpAny (model X.prog X.w) A (compareOp .In u (.ref a)) Q E s := by
  rcases g with ⟨kvs, k, e, ey, l⟩ | ⟨kvs, k, b, e, ey, eb, l⟩
  · subst ey
    obtain ⟨z, hd, vs, rel, dd⟩ := dk_rd I.hok e
    refine wpAny_in_of (kV_is ry) hd dd.mapOf ?_
    rw [← (rel.val k).isSome_eq, ← l]
    exact h _ (I.tok _)
  · subst ey
    cases (show u = Value.ref b from ry)
    obtain ⟨z, hd, xs, rel, dd⟩ := dt_rd I.hok e
    refine wpAny_in_heap (tupleKind_room_in1 hu) (key_of I.hok eb) hd dd ?_
    have q := (rel.val k).isSome_eq
    rw [Option.isSome_map] at q
    rw [← q, ← l]
    exact h _ (I.tok _)
/-- a dict's object is replaced -/
theorem d_write {h' : Heap} {t' : Nat} {ob : HO} (I : Inv X pins σ H s) (mu : Mut (H a)) (hs : Heap.SameBut a s.heap h') (he : ∃ q, h'.get? a = some q) (new : ObjOk X.prog X.w (upd H a ob) h' a ob) :
    Inv X pins σ (upd H a ob) { s with heap := h', toks := t' } :=
  I.write (x := a) (e := a) mu (.inl rfl) (fun b q hb z => (hs.2 b hb).trans z) he new
theorem dk_new {P : Program} {w : World} {H' : Hp} {h' : Heap} {kvs : List (Key × V)} {vs : List (Key × Value)} (z : kvs.length ≤ sizeLine) (hd : (a == sysModules) = false) (rel : KV kvs vs) (dd : h'.DictOf (mixKind P w) a vs) :
    ObjOk P w H' h' a (.dK kvs) := ⟨z, hd, vs, rel, dd⟩
end

section
variable {X : Cx} {pins : List (Addr × Obj)} {σ : St} {H : Hp} {s : Shared} {a : Addr} {kvs : List (Key × V)} {k : Key} {u : Value} {A : Around} {E : Value → Shared → Prop}
end


/-! ### readings and rules -/
/-- y in d, y not in d -/
def tDIn (ty td : TE) : TE := fun σ H Q => ty σ H fun y H1 => td σ H1 fun x H2 => ∃ a o, x = .ref a ∧ DGet H2 a y o ∧ Q (.bl o.isSome) H2
section
variable {X : Cx} {o i e value : Expr} {pos pos' tpos : Pos} {td ty tv : TE}
theorem pc_din (hu : X.A.units + 1 < cLine) (hi : PE X i ty) (ho : PE X o td) : PC X .In i o (tDIn ty td) := by
  intro pins s σ H Q I h
  refine thn (hi pins s σ H _ I h) fun iv s1 ⟨y, H1, I1, ry, q1⟩ => thn (ho pins s1 σ H1 _ I1 q1) fun u s2 ⟨x, H2, I2, rx, a, ov, ex, g, q2⟩ => ?_
  subst ex
  obtain rfl : u = Value.ref a := rx
  exact d_in hu I2 g ry fun s3 I3 => ⟨.bl ov.isSome, H2, I3, rfl, q2⟩
end


/-! ### displays -/
theorem dk_empty {P : Program} {w : World} {H : Hp} (h : Heap) (hb : sysModules < h.objs.size) : ObjOk P w H (h.push { cls := .type "dict", data := .dict #[] }) h.objs.size (.dK []) :=
  ⟨Nat.zero_le _, beq_eq_false_iff_ne.mpr (Ne.symm (Nat.ne_of_lt hb)), [], .nil, Heap.DictOf.new h⟩
theorem dt_empty {P : Program} {w : World} {H : Hp} (h : Heap) (hb : sysModules < h.objs.size) : ObjOk P w H (h.push { cls := .type "dict", data := .dict #[] }) h.objs.size (.dT []) :=
  ⟨Nat.zero_le _, beq_eq_false_iff_ne.mpr (Ne.symm (Nat.ne_of_lt hb)), [], .nil, _, #[], 0, Heap.get?_push_size _ rfl, ⟨rfl, rfl, rfl⟩, rfl, rfl, List.nodup_nil⟩
section
variable {X : Cx} {pos : Pos}
end

/-! ### methods -/
/-- a method call o.m(e) of a built-in, with one argument: what must be seen of the text -/
structure M1 (X : Cx) (o : Expr) (m : Str) (apos : Pos) (e : Expr) (cpos : Pos) : Prop where
  base : attributeBase o m X.env (eval o X.env) = eval o X.env
  few : ((backTo cpos (starEach [e] X.env)).all (fun x => !x.1) && (backToKw cpos (keywordEach [] X.env)).all (fun x => x.1.isSome)
    && decide (([e] : List Expr).length + ([] : List Keyword).length + (if ([] : List Keyword).isEmpty then 0 else 1) < 30)) = true
  line : (apos.endLine == cpos.line) = true
  trees : backTo cpos (starEach [e] X.env) = [(false, eval e X.env)]
section
variable {X : Cx} {pins : List (Addr × Obj)} {σ : St} {H : Hp} {s : Shared} {a : Addr} {y d : V} {u r : Value} {o : Option V} {A : Around} {E : Value → Shared → Prop}
end

section
variable {X : Cx} {o e f : Expr} {apos cpos : Pos} {td ty tx : TE}
end

/-! ### dict(d): a copy -/
section
variable {X : Cx} {pins : List (Addr × Obj)} {σ : St} {H : Hp} {s : Shared} {a : Addr} {kvs : List (Key × V)} {A : Around} {E : Value → Shared → Prop}
end


section
variable {X : Cx} {pins : List (Addr × Obj)} {σ : St} {H : Hp} {s : Shared} {a : Addr} {y : V} {u : Value} {A : Around} {E : Value → Shared → Prop}
end
end L2

namespace Att
open PySem PySem.W PySem.Calls PyProof.Rows

/-! ### the script -/
/-! ### the attachment: holds_open's last premise (the goal 'hc' behind k_head) from a wpAny of the law's body -/
/-! ### rules over ANY heap (no ledger) from facts about the written part K: the library's own take a ledger (News) for what they write -/
section
variable {prog : Program} {w : World} {A : Around} {E : Value → Shared → Prop} {s : Shared} {K : Frag}

/-! the whole heap as the ledger: makes every rule that writes through a ledger a rule over any heap -/
end
end Att

namespace L2
open PySem PySem.Spec PyProof.Rows

end L2

namespace L2
open PySem PySem.Spec PyProof.Rows

end L2

/- THE LAST THEOREM (shape; LID, My.* are yours):
   My.Adr: a structure of the addresses that your layer names (classes, functions); My.Txt K t: a structure (Prop) of the equations over K;
   My.txt_mk : {K} {implicit addresses ..} (e1 : nsIn K mainGlobals "law" = some (some (.ref f))) (e2 : K.lookup f = some ⟨oc, od, .func (fnOf "law" "law" params body scope dV kV doc pm an cdv ct), sl⟩) (e3 : codeIn K cdv "law" = true) .. : ∃ t, My.Txt K t

set_option maxRecDepth 100000 in
set_option maxHeartbeats 0 in
theorem PySem.Challenge.cw_LID_holds : PySem.Challenge.rw_LID.Holds := by
  w_on; o_law; k_head; (case hw => w_witness2)
  k_fill
  refine L2.walk_of (l := PySem.Challenge.rw_LID) (n := 63) (k := 40) (x := "script") (CX := fun w => ..) (sp := fun _ => My.sp_law) rfl (by decide) rfl ⟨rfl, by decide, by decide⟩ (fun w h Y => PySem.W.kIn_of Y) ?F ?S ?C
  case F =>
    intro w mg fa h KX G hmg
    have T : ∃ t, My.Txt (L2.KOf KX) t := by
      dsimp only [L2.KOf]                          -- K must stand as «<heap const> w.params» for k_is
      refine' My.txt_mk ?e1 ?e2 ?e3 ..
      (case e1 => PySem.W.k_is)                    -- in the order: a name -> its address -> its object -> its parts
      (case e2 => PySem.W.k_is)
      ..
    obtain ⟨t, T⟩ := T
    have e0 := hmg.symm.trans (PySem.W.mg_of KX G T.law)
    cases e0                                       -- fa is the law's own address
    exact ⟨_, fun s u => .of_eq rfl, fun base kb nb => My.law_fn T kb nb⟩     -- if «.of_eq rfl» comes too early: refine' ⟨_, ?b, fun base kb nb => My.law_fn T kb nb⟩; exact fun s u => .of_eq rfl
  case S => exact fun w H a ns hl hO hS => ..
  case C => exact ..
(the tactic k_is has no namespace: write k_is) -/

/-! SHORT WORDS over the layer: a def of the text, its body, what a loop and a test want. -/
namespace L2
open PySem PySem.Spec PyProof.Rows

/-! ### the text by places -/
/-! ### no exception leaves a def -/
/-! ### a def (or method) of the text as it stands behind the top -/
section
variable {P : Program} {w : World} {K : PySem.W.Frag} {mg : Str → Option Value} {base : Heap}
end
/-! ### expressions in short: the name that stands in the i-th slot -/
section
variable {X : Cx}
end

/-! ### tests -/
/-! ### heaps -/
/-! ### a dict's pairs: keys that differ -/
section
variable {κ : Type} [DecidableEq κ]
end
end L2


set_option Elab.async false
set_option linter.all false
set_option maxRecDepth 100000
set_option maxHeartbeats 4000000
namespace L3
open PySem PySem.Spec PyProof.Rows L2
/-- a for of a comprehension that walks n things -/
theorem loop_gen {J : It} {n : Nat} {g : TG} {tt : TT} {em : TEm} {σ0 : St} {H0 : Hp} {Q : St → Hp → Prop} (Pv : Nat → St → Hp → Prop) (h0 : Pv 0 σ0 H0)
    (hgo : ∀ i σ H, i < n → Pv i σ H → J.go i H) (hst : ∀ σ H, Pv n σ H → J.stop n H)
    (hs : ∀ i x σ H H2, i < n → Pv i σ H → J.yld i H x H2 → ∀ (N : St → Hp → Prop), (∀ σ2 H4, Pv (i + 1) σ2 H4 → N σ2 H4) →
      g x σ H2 fun σ2 H3 => tt σ2 H3 fun c H4 => if c = true then em σ2 H4 N else N σ2 H4)
    (hd : ∀ σ H, Pv n σ H → Q σ H) : LoopW J g tt em σ0 H0 Q := by
  refine ⟨fun i m σ H => m = n - i ∧ i ≤ n ∧ Pv i σ H, ⟨n, by simp, Nat.zero_le _, h0⟩, ?_⟩
  rintro i m σ H ⟨rfl, hi, p⟩
  by_cases hlt : i < n
  · refine .inr ⟨hgo i σ H hlt p, fun σ2 H4 => Pv (i + 1) σ2 H4, fun σ2 H4 q => ⟨n - (i + 1), by omega, rfl, hlt, q⟩, fun x H2 y => hs i x σ H H2 hlt p y _ fun σ2 H4 q => q⟩
  · have : i = n := by omega
    subst this
    exact .inl ⟨hst σ H p, hd σ H p⟩
/-! ### what is done with the thing: a list, a set of texts, a dict -/
def emL (te : TE) (D : Addr) : TEm := fun σ H Q => te σ H fun v H5 => ∃ xs, H5 D = some (.lst xs) ∧ xs.length < sizeLine ∧ Q σ (upd H5 D (.lst (xs ++ [v])))
theorem pem_list {Y : Cx} {elt : Expr} {te : TE} {D : Addr} (h : PE Y elt te) : PEm Y (do let _ ← call (.builtin "list.append") [.ref D, ← eval elt Y.env]) (emL te D) := by
  intro pins s σ H Q I q
  refine wpAny_bind (thn (h pins s σ H _ I q) fun z s1 ⟨v, H1, I1, r1, xs, hx, hz, q1⟩ => ?_)
  have ap := mt_append (X := Y) pins s1 σ H1 (.ref D) [v] (.ref D) [z] (fun _ Hb => Q σ Hb) I1 rfl (.cons r1 .nil) ⟨_, xs, v, rfl, rfl, hx, hz, q1⟩
  exact wpAny_bind (thn ap fun _ s11 ⟨_, H11, I11, _, q11⟩ => wpAny_pure ⟨σ, H11, I11, q11⟩)
def emD (tk tv : TE) (D : Addr) : TEm := fun σ H Q => tk σ H fun y H5 => tv σ H5 fun v H6 => ∃ H7, DPut H6 D y v H7 ∧ Q σ H7
section
variable {X : Cx} {pins : List (Addr × Obj)} {σ : L2.St} {H : Hp} {s : Shared} {a : Addr} {y v : V} {u r : Value} {A : Around} {E : Value → Shared → Prop}
theorem d_put {H' : Hp} {Q : Unit → Shared → Prop} (hu : A.units < cLine) (I : L2.Inv X pins σ H s) (g : DPut H a y v H') (ry : RelV y u) (rv : RelV v r) (h : ∀ s', L2.Inv X pins σ H' s' → Q () s') :
    wpAny (model X.prog X.w) A (dictSet a u r) Q E s := by
  rcases g with ⟨kvs, k, e, ey, l, eH⟩ | ⟨kvs, k, b, e, ey, eb, l, eH⟩
  · subst ey eH
    obtain ⟨z, hd, vs, rel, dd⟩ := dk_of I.hok e
    have hz : vs.length ≤ sizeLine := by rw [← rel.length]; exact z
    have hl : (putK kvs k v).length ≤ sizeLine := by have := length_putK kvs k v; omega
    refine wpAny_dictSet_pairs (hsz := hz) (kV_is ry) dd fun h' dd' hs => h _ ?_
    have he : ∃ q, h'.get? a = some q := let ⟨q, _, _, hq, _⟩ := dd'; ⟨q, hq⟩
    exact d_write I (by rw [e]; exact True.intro) hs he (dk_new hl hd (rel.put k rv) dd')
  · subst ey eH
    cases (show u = Value.ref b from ry)
    obtain ⟨z, hd, xs, rel, dd⟩ := dt_of I.hok e
    have hz : xs.length ≤ sizeLine := by rw [← Paired.length rel]; exact z
    have hl : (putK kvs k v).length ≤ sizeLine := by have := length_putK kvs k v; omega
    refine wpAny_dictSet_heap (hsz := hz) hu (key_of I.hok eb) dd fun h' dd' hs => h _ ?_
    obtain ⟨q, es, ep, hq, h2, h3, h4, _, h5⟩ := dd'
    refine d_write I (by rw [e]; exact True.intro) hs ⟨q, hq⟩ ⟨hl, hd, _, (rel.put k eb rv).keeps fun c ys ec => ?_, q, es, ep, hq, h2, h3, h4, h5⟩
    rw [upd_ne (ne_of ec e (fun z => nomatch z))]
    exact ec
end
theorem pem_dict {Y : Cx} {kx vx : Expr} {tk tv : TE} {D : Addr} (hu : Y.A.units < cLine) (hk : PE Y kx tk) (hv : PE Y vx tv) : PEm Y (do
      let kv ← eval kx Y.env
      let vv ← holding [kv] (eval vx Y.env)
      standAt { kx.pos with endLine := vx.pos.endLine, endCol := vx.pos.endCol }
      holding [kv, vv] (dictSet D kv vv)) (emD tk tv D) := by
  intro pins s σ H Q I q
  refine wpAny_bind (thn (hk pins s σ H _ I q) fun z s1 ⟨y, H1, I1, r1, q1⟩ => ?_)
  refine wpAny_bind (wpAny_holding (thn (hv pins s1 σ H1 _ I1 q1) fun z2 s2 ⟨v, H2, I2, r2, H3, hp, q2⟩ => ?_))
  exact wpAny_bind (wpAny_standAt (wpAny_holding (d_put hu I2 hp r1 r2 fun s' I' => ⟨σ, H3, I', q2⟩)))
end L3

set_option Elab.async false
set_option linter.all false
set_option maxRecDepth 100000
set_option maxHeartbeats 4000000
namespace L3
open PySem PySem.Spec PyProof.Rows L2
section
variable {X : Cx} {pins : List (Addr × Obj)} {σ : St} {H : Hp} {s : Shared} {Nc : List Str} {ix : List (Option Nat)} {scope : Scope}
theorem laid_list {s2 : Shared} {H1 : Hp} (I2 : L2.Inv X pins σ H1 s2) : L2.Inv X pins σ (upd H1 s2.heap.objs.size (.lst [])) { s2 with heap := s2.heap.push { cls := .type "list", data := .seq ([] : List Value).toArray } } :=
  I2.laid (t' := s2.toks) (fun b u e => Heap.get?_push_of_some _ e) (Nat.le_refl _) ⟨Nat.zero_le _, [], 0, .nil, Heap.get?_push_size _ rfl⟩
/-- the name is stored, then the block's own dict goes -/
theorem assign_end {i : Nat} {x : Str} {pos' : Pos} {D : Ends} {L C : Addr} {H' : Hp} {s' : Shared} {m : Str → Option Value} (hN : X.N.Nodup) (hi : X.N[i]? = some x) (hx : X.env.kindOf x = some .local) (I' : L2.Inv X pins σ H' s') (f : FpOk X pins H' C) (hn : s'.heap.Ns C m) (qq : D.nx (σ.set i (some (.ref L))) H') :
    compPost (model X.prog X.w) X.A X.xe (some (assign (.Name x pos') X.env)) (fun _ s' => SP X pins D .next s') (.ref L) C (.ok .next) s' := by
  obtain ⟨f0, f1, f2, f3, f4, f5⟩ := f
  refine wpAny_assign_Name (store_ok2 (v := .ref L) I' hN hi (.inl hx) rfl (fun s2 I2 ⟨a, sb, ha⟩ => ?_) (.inr hx))
  have hCa : C ≠ a := by
    rintro rfl
    rcases ha with z | z
    · exact f1 z
    · exact f4 _ _ z rfl
  exact ⟨m, hn.sameBut sb hCa, fun h' sb' => ⟨_, H', I2.turned (t' := s2.toks) (fun b o hb e => (sb'.2 b hb).trans e) f0 f1 f3 f4 f5, qq⟩⟩
/-- a dict by one for: T: are its keys tuples -/
theorem pe_dcompE {kx vx tg iter : Expr} {ifs : List Expr} {pos : Pos} {wi : TI} {g : TG} {tt : TT} {tk tv : TE} {o0 : HO} (h0 : o0 = .dK [] ∨ o0 = .dT []) (ok : CompOk X.env.scope X.N Nc ix scope) (hu : X.A.units < cLine) (hc : X.calm = true) (hi : PI X tg iter wi)
    (hg : ∀ cl C s H fp, PG (cxComp X Nc scope cl C s H fp) tg g) (ht : ∀ cl C s H fp, PTs (cxComp X Nc scope cl C s H fp) ifs tt)
    (hk : ∀ cl C s H fp, PE (cxComp X Nc scope cl C s H fp) kx tk) (hv : ∀ cl C s H fp, PE (cxComp X Nc scope cl C s H fp) vx tv)
    (hs : ∀ x, foldedSetIterable iter X.env x = pure x := by intro _; rfl) : PE X (.DictComp kx vx [⟨tg, iter, ifs, 0⟩] scope pos) (tCompE wi ix (fun _ => o0) g tt (fun D => emD tk tv D)) := by
  intro pins s σ H Q I h
  rw [arm_eval_DictComp]
  refine comp_runE (e := .DictComp kx vx [⟨tg, iter, ifs, 0⟩] scope pos) (use := none) (QV := EP X pins σ Q) (ob := { cls := .type "dict", data := .dict #[] }) (bd := fun D env => do
      let kv ← eval kx env
      let vv ← holding [kv] (eval vx env)
      standAt { kx.pos with endLine := vx.pos.endLine, endCol := vx.pos.endCol }
      holding [kv, vv] (dictSet D kv vv)) I h (fun D C H' s' m I' f hn qq => ?_) rfl (fun _ _ _ => ⟨rfl, rfl⟩) (fun _ _ _ => rfl) (fun _ _ _ _ => ⟨rfl, rfl⟩) (fun _ _ _ => rfl)
    (fun _ _ _ _ q => wpAny_newObj_type q) (fun s2 H1 I2 => ?_) ok hc hi hg ht (fun cl C s H fp D => pem_dict (Y := cxComp X Nc scope cl C s H fp) hu (hk cl C s H fp) (hv cl C s H fp)) hs
  · obtain ⟨f0, f1, f2, f3, f4, f5⟩ := f
    exact ⟨m, hn, fun h' sb => ⟨.ref D, H', I'.turned (t' := s'.toks) (fun b o hb e => (sb.2 b hb).trans e) f0 f1 f3 f4 f5, rfl, qq⟩⟩
  · rcases h0 with rfl | rfl
    · exact I2.laid (t' := s2.toks) (fun b u e => Heap.get?_push_of_some _ e) (Nat.le_refl _) (dk_empty s2.heap I2.big)
    · exact I2.laid (t' := s2.toks) (fun b u e => Heap.get?_push_of_some _ e) (Nat.le_refl _) (dt_empty s2.heap I2.big)
end
end L3

set_option Elab.async false
set_option linter.all false
set_option maxRecDepth 100000
set_option maxHeartbeats 4000000
namespace L3
open PySem PySem.Spec PyProof.Rows L2
/-! ### [.. for ..] by the general rule -/
def CompL (J : It) (D : Addr) (g : TG) (tt : TT) (te : TE) (σ0 : St) (H1 : Hp) (Q : VK) : Prop := LoopW J g tt (emL te D) σ0 (upd H1 D (.lst [])) (fun _ H' => Q (.ref D) H')
def tCompL (wi : TI) (ix : List (Option Nat)) (g : TG) (tt : TT) (te : TE) : TE := fun σ H Q => wi σ H fun J H1 => ∀ D, H1 D = none → CompL J D g tt te (sub ix σ) H1 Q
section
variable {X : Cx} {pins : List (Addr × Obj)} {σ : St} {H : Hp} {s : Shared} {Nc : List Str} {ix : List (Option Nat)} {scope : Scope}
theorem comp_runL {elt tg iter : Expr} {ifs : List Expr} {pos pos2 : Pos} {wi : TI} {g : TG} {tt : TT} {te : TE} {use : Option (Value → Sem Unit)} {QV : Value → Shared → Prop} {Q : VK} (I : L2.Inv X pins σ H s) (h : tCompL wi ix g tt te σ H Q)
    (fin : ∀ (D C : Addr) (H' : Hp) (s' : Shared) (m : Str → Option Value), L2.Inv X pins σ H' s' → FpOk X pins H' C → s'.heap.Ns C m → Q (.ref D) H' → compPost (model X.prog X.w) X.A X.xe use QV (.ref D) C (.ok .next) s')
    (ok : CompOk X.env.scope X.N Nc ix scope) (hc : X.calm = true) (hi : PI X tg iter wi)
    (hg : ∀ cl C s H fp, PG (cxComp X Nc scope cl C s H fp) tg g) (ht : ∀ cl C s H fp, PTs (cxComp X Nc scope cl C s H fp) ifs tt) (he : ∀ cl C s H fp, PE (cxComp X Nc scope cl C s H fp) elt te)
    (hs : ∀ x, foldedSetIterable iter X.env x = pure x) : wpAny (model X.prog X.w) X.A (comprehension (.ListComp elt [⟨tg, iter, ifs, 0⟩] scope pos) scope X.env pos2 (newList []) false (eval iter X.env) use) QV X.xe s :=
  comp_runE (em := fun D => emL te D) (o0 := fun _ => .lst []) (ob := { cls := .type "list", data := .seq ([] : List Value).toArray }) (bd := fun D env => do let _ ← call (.builtin "list.append") [.ref D, ← eval elt env]) I h fin rfl (fun _ _ _ => ⟨rfl, rfl⟩) (fun _ _ _ => rfl) (fun _ _ _ _ => ⟨rfl, rfl⟩) (fun _ _ _ => rfl)
    (fun _ _ _ _ q => wpAny_newObj_type q) (fun _ _ I2 => laid_list I2) ok hc hi hg ht (fun cl C s H fp D => pem_list (he cl C s H fp)) hs
theorem pe_compL {elt tg iter : Expr} {ifs : List Expr} {pos : Pos} {wi : TI} {g : TG} {tt : TT} {te : TE} (ok : CompOk X.env.scope X.N Nc ix scope) (hc : X.calm = true) (hi : PI X tg iter wi)
    (hg : ∀ cl C s H fp, PG (cxComp X Nc scope cl C s H fp) tg g) (ht : ∀ cl C s H fp, PTs (cxComp X Nc scope cl C s H fp) ifs tt) (he : ∀ cl C s H fp, PE (cxComp X Nc scope cl C s H fp) elt te)
    (hs : ∀ x, foldedSetIterable iter X.env x = pure x := by intro _; rfl) : PE X (.ListComp elt [⟨tg, iter, ifs, 0⟩] scope pos) (tCompL wi ix g tt te) := by
  intro pins s σ H Q I h
  rw [eval_ListComp]
  refine comp_runL (use := none) I h (fun D C H' s' m I' f hn qq => ?_) ok hc hi hg ht he hs
  obtain ⟨f0, f1, f2, f3, f4, f5⟩ := f
  exact ⟨m, hn, fun h' sb => ⟨.ref D, H', I'.turned (t' := s'.toks) (fun b o hb e => (sb.2 b hb).trans e) f0 f1 f3 f4 f5, rfl, qq⟩⟩
theorem ps_setCompL {i : Nat} {x : Str} {elt tg iter : Expr} {ifs : List Expr} {pos spos pos' : Pos} {wi : TI} {g : TG} {tt : TT} {te : TE} (hN : X.N.Nodup) (hi : X.N[i]? = some x) (hx : X.env.kindOf x = some .local)
    (ok : CompOk X.env.scope X.N Nc ix scope) (hc : X.calm = true) (hit : PI X tg iter wi)
    (hg : ∀ cl C s H fp, PG (cxComp X Nc scope cl C s H fp) tg g) (ht : ∀ cl C s H fp, PTs (cxComp X Nc scope cl C s H fp) ifs tt) (he : ∀ cl C s H fp, PE (cxComp X Nc scope cl C s H fp) elt te)
    (hsw : swapsWith (.ListComp elt [⟨tg, iter, ifs, 0⟩] scope pos) (some (.Name x pos')) spos.line X.env = pure true := by rfl)
    (hs : ∀ x, foldedSetIterable iter X.env x = pure x := by intro _; rfl) : PS X (.Assign [.Name x pos'] (.ListComp elt [⟨tg, iter, ifs, 0⟩] scope pos) spos) (tAsg (tCompL wi ix g tt te) (gName i)) := by
  intro pins s σ H D I h
  rw [exec_Assign_Name_used _ _ _ _ hsw]
  refine wpAny_bind (wpAny_standAt (wpAny_bind ?_))
  show wpAny _ X.A (do let _ ← comprehension (.ListComp elt [⟨tg, iter, ifs, 0⟩] scope pos) scope X.env _ (newList []) false (eval iter X.env) (some (assign (.Name x pos') X.env))) _ _ s
  refine wpAny_bind (thn (comp_runL (use := some (assign (.Name x pos') X.env)) (QV := fun _ s' => SP X pins D .next s') I h (fun L C H' s' m I' f hn qq => ?_) ok hc hit hg ht he hs) fun _ s' q => wpAny_pure (wpAny_pure q))
  exact assign_end hN hi hx I' f hn qq
end
theorem comp_genL {J : It} {n : Nat} {D : Addr} {g : TG} {tt : TT} {te : TE} {σ0 : St} {H0 : Hp} {Q : VK} (Pv : Nat → St → Hp → Prop) (h0 : Pv 0 σ0 (upd H0 D (.lst [])))
    (hgo : ∀ i σ H, i < n → Pv i σ H → J.go i H) (hst : ∀ σ H, Pv n σ H → J.stop n H)
    (hs : ∀ i x σ H H2, i < n → Pv i σ H → J.yld i H x H2 → ∀ (N : V → St → Hp → Prop) (N0 : St → Hp → Prop), (∀ v σ2 H5 ys, H5 D = some (.lst ys) → ys.length < sizeLine → Pv (i + 1) σ2 (upd H5 D (.lst (ys ++ [v]))) → N v σ2 H5) → (∀ σ2 H4, Pv (i + 1) σ2 H4 → N0 σ2 H4) →
      g x σ H2 fun σ2 H3 => tt σ2 H3 fun c H4 => if c = true then te σ2 H4 fun v H5 => N v σ2 H5 else N0 σ2 H4)
    (hd : ∀ σ H, Pv n σ H → Q (.ref D) H) : CompL J D g tt te σ0 H0 Q := by
  refine loop_gen (n := n) Pv h0 hgo hst (fun i x σ H H2 hi p y N hN => ?_) hd
  exact hs i x σ H H2 hi p y (fun v σ2 H5 => ∃ ys, H5 D = some (.lst ys) ∧ ys.length < sizeLine ∧ N σ2 (upd H5 D (.lst (ys ++ [v])))) N (fun v σ2 H5 ys a b c => ⟨ys, a, b, hN _ _ c⟩) hN
theorem comp_mapL {K : PySem.W.Frag} {a D : Addr} {xs : List V} {te : TE} {τ : St} {H0 : Hp} {Q : VK} (hD : H0 D = none) (hq : SqL K H0 a xs) (hz : xs.length ≤ sizeLine) (R : Nat → V → Hp → Prop) (mono : ∀ i v H H', Same H H' → R i v H → R i v H')
    (step : ∀ i x H (N : V → Hp → Prop), xs[i]? = some x → Same H0 H → (∀ v H4, Same H H4 → R i v (New H H4) → N v H4) → te (some x :: τ) H N)
    (fin : ∀ H' ys, H' D = some (.lst ys) → Same H0 H' → ys.length = xs.length → (∀ i v, ys[i]? = some v → R i v (New H0 H')) → Q (.ref D) H') :
    CompL (Itl K a) D (gName 0) tTrue te (none :: τ) H0 Q := by
  refine comp_genL (n := xs.length) (fun i σ H => ∃ z ys, σ = z :: τ ∧ H D = some (.lst ys) ∧ ys.length = i ∧ Same H0 H ∧ ∀ j v, ys[j]? = some v → R j v (hide D (New H0 H))) ?_ ?_ ?_ ?_ ?_
  · exact ⟨none, [], rfl, upd_same, rfl, same_upd hD, fun j v e => by simp at e⟩
  · rintro i σ H hi ⟨z, ys, rfl, _, _, s, _⟩
    exact ⟨xs, xs[i], s.seq hq, by simp [hi]⟩
  · rintro σ H ⟨z, ys, rfl, _, _, s, _⟩
    exact ⟨xs, s.seq hq, Nat.le_refl _⟩
  · rintro i x σ H H2 hi ⟨z, ys, rfl, hy, hl, s, r⟩ ⟨rfl, hx⟩ N N0 hN hN0
    show te (some x :: τ) H2 _
    refine step i x H2 _ (hx xs (s.seq hq)) s fun v H4 s4 r4 => ?_
    refine hN v _ H4 ys (s4 _ _ hy) (by omega) ⟨some x, ys ++ [v], rfl, upd_same, by rw [List.length_append, List.length_singleton, hl], ?_, ?_⟩
    · exact (SameX.upd (Same.x (s.trans s4))).same hD
    · intro j w e
      by_cases hj : j < ys.length
      · rw [List.getElem?_append_left hj] at e
        refine mono j w _ _ ?_ (r j w e)
        intro b o hb
        obtain ⟨nb, hb⟩ := hide_some hb
        obtain ⟨h1, h2⟩ := New.of hb
        exact hide_mk nb (New.mk h1 (by rw [upd_ne nb]; exact s4 _ _ h2))
      · have ej : j = ys.length := by
          have := (List.getElem?_eq_some_iff.mp e).1
          rw [List.length_append, List.length_singleton] at this
          omega
        subst ej
        simp at e
        subst e
        rw [hl]
        refine mono i v _ _ ?_ r4
        intro b o hb
        obtain ⟨h1, h2⟩ := New.of hb
        have nb : b ≠ D := fun z => by subst z; rw [hy] at h1; cases h1
        exact hide_mk nb (New.mk (s.free h1) (by rw [upd_ne nb]; exact h2))
  · rintro σ H ⟨z, ys, rfl, hy, hl, s, r⟩
    exact fin H ys hy s hl fun i v e => mono i v _ _ hide_sub (r i v e)

end L3

set_option Elab.async false
set_option linter.all false
set_option maxRecDepth 100000
set_option maxHeartbeats 4000000
namespace L3
open PySem PySem.Spec PyProof.Rows L2
/-! ### machines side by side, as plain functions -/
section
variable {α : Type} [DecidableEq α]
def addU (ks : List α) (k : α) : List α := if k ∈ ks then ks else ks ++ [k]
def addUs (ks more : List α) : List α := more.foldl addU ks
theorem addUs_snoc (ks more : List α) (k : α) : addUs ks (more ++ [k]) = addU (addUs ks more) k := by unfold addUs; rw [List.foldl_append]; rfl
theorem mem_addU {ks : List α} {k x : α} : x ∈ addU ks k ↔ x ∈ ks ∨ x = k := by
  unfold addU
  split
  · rename_i h
    exact ⟨.inl, fun q => q.elim id fun e => e ▸ h⟩
  · simp
theorem mem_addUs : ∀ {more ks : List α} {x : α}, x ∈ addUs ks more ↔ x ∈ ks ∨ x ∈ more
  | [], ks, x => by simp [addUs]
  | k :: r, ks, x => by
    show x ∈ addUs (addU ks k) r ↔ _
    rw [mem_addUs, mem_addU, List.mem_cons, or_assoc]
theorem addU_len (ks : List α) (k : α) : ks.length ≤ (addU ks k).length ∧ (addU ks k).length ≤ ks.length + 1 := by
  unfold addU
  split
  · exact ⟨Nat.le_refl _, Nat.le_succ _⟩
  · rw [List.length_append]; exact ⟨Nat.le_add_right _ _, Nat.le_refl _⟩
theorem addUs_len : ∀ (more ks : List α), ks.length ≤ (addUs ks more).length ∧ (addUs ks more).length ≤ ks.length + more.length
  | [], ks => ⟨Nat.le_refl _, Nat.le_refl _⟩
  | k :: r, ks => by
    have h1 := addUs_len r (addU ks k)
    have h2 := addU_len ks k
    show ks.length ≤ (addUs (addU ks k) r).length ∧ (addUs (addU ks k) r).length ≤ _
    rw [List.length_cons]; omega
/-- a dict all of whose values are True is its keys -/
theorem put_true (ks : List α) (k : α) : putK (ks.map fun k => (k, V.bl true)) k (.bl true) = (addU ks k).map fun k => (k, V.bl true) := by
  have any : ((ks.map fun k => (k, V.bl true)).any fun kv => decide (kv.1 = k)) = decide (k ∈ ks) := by
    induction ks with
    | nil => rfl
    | cons x r ih =>
      rw [List.map_cons, List.any_cons, ih]
      show (decide (x = k) || decide (k ∈ r)) = decide (k ∈ x :: r)
      by_cases h : x = k
      · subst h; simp
      · have : ¬ k = x := fun e => h e.symm
        simp [h, this]
  unfold putK addU
  rw [any]
  by_cases h : k ∈ ks
  · rw [if_pos (decide_eq_true h), if_pos h, List.map_map]
    refine List.map_congr_left fun x _ => ?_
    show (if x = k then (x, V.bl true) else (x, V.bl true)) = (x, V.bl true)
    split <;> rfl
  · rw [if_neg (by simpa using h), if_neg h, List.map_append]; rfl
end
/-- a place as a key -/
def keyP (p : List Int) : List Key := p.map .inl
theorem keyP_inj {p q : List Int} (h : keyP p = keyP q) : p = q := by
  unfold keyP at h
  induction p generalizing q with
  | nil => cases q with
    | nil => rfl
    | cons b r => cases h
  | cons a p ih => cases q with
    | nil => cases h
    | cons b r =>
      rw [List.map_cons, List.map_cons] at h
      injection h with h1 h2
      injection h1 with h1
      rw [h1, ih h2]
theorem keyP_V (p : List Int) : (keyP p).map kV = p.map V.int := by unfold keyP; rw [List.map_map]; rfl
theorem mem_keyP {p : List Int} {ps : List (List Int)} : keyP p ∈ ps.map keyP ↔ p ∈ ps := by
  constructor
  · intro h
    obtain ⟨q, hq, e⟩ := List.mem_map.mp h
    rw [← keyP_inj e]; exact hq
  · exact fun h => List.mem_map.mpr ⟨p, h, rfl⟩
theorem addU_keyP (ps : List (List Int)) (p : List Int) : addU (ps.map keyP) (keyP p) = (addU ps p).map keyP := by
  unfold addU
  by_cases h : p ∈ ps
  · rw [if_pos (mem_keyP.mpr h), if_pos h]
  · rw [if_neg (fun q => h (mem_keyP.mp q)), if_neg h, List.map_append]; rfl
/-- the dict of these places -/
def dPl (l : List (List Int)) : List (List Key × V) := (l.map keyP).map fun k => (k, V.bl true)
theorem dPl_put (l : List (List Int)) (p : List Int) : putK (dPl l) (keyP p) (.bl true) = dPl (addU l p) := by unfold dPl; rw [put_true, addU_keyP]
theorem dPl_len (l : List (List Int)) : (dPl l).length = l.length := by unfold dPl; rw [List.length_map, List.length_map]
theorem take_one {α : Type} {l : List α} {i : Nat} (h : i < l.length) : l.take (i + 1) = l.take i ++ [l[i]] := by rw [List.take_add_one, List.getElem?_eq_getElem h]; rfl
end L3

set_option Elab.async false
set_option linter.all false
set_option maxRecDepth 100000
set_option maxHeartbeats 4000000
namespace L3
open PySem PySem.Spec PyProof.Rows L2
/-! ### places as data -/
def PlsAt (H : Hp) (vs : List V) (ps : List (List Int)) : Prop := vs.length = ps.length ∧ ∀ (i : Nat) v p, vs[i]? = some v → ps[i]? = some p → ∃ b, v = .ref b ∧ H b = some (.tup (p.map V.int))
def dPla (p : List Int) : PyData := .tuple (p.map PyData.int)
theorem dp_ints {K : PySem.W.Frag} {H : Hp} : ∀ p : List Int, DpAll K H (p.map V.int) (p.map PyData.int)
  | [] => .nil
  | x :: r => .cons (.int x) (dp_ints r)
theorem dp_pla {K : PySem.W.Frag} {H : Hp} {b : Addr} {p : List Int} (g : H b = some (.tup (p.map V.int))) : Dp K H (.ref b) (dPla p) := .tup (SqT.of g) (dp_ints p)
theorem dp_plas {K : PySem.W.Frag} {H : Hp} : ∀ {vs : List V} {ps : List (List Int)}, PlsAt H vs ps → DpAll K H vs (ps.map dPla)
  | [], [], _ => .nil
  | [], _ :: _, h => by cases h.1
  | _ :: _, [], h => by cases h.1
  | v :: vs, p :: ps, h => by
    obtain ⟨b, rfl, g⟩ := h.2 0 v p rfl rfl
    exact .cons (dp_pla g) (dp_plas ⟨by simpa using h.1, fun i v q h1 h2 => h.2 (i + 1) v q (by simpa using h1) (by simpa using h2)⟩)
theorem fine_pla (p : List Int) : Fine 1 (dPla p) := by
  have h := fineAll (f := PyData.int) (n := 0) (xs := p) fun x _ => ⟨by simp [PyData.canLay0], by simp [PyData.depth]⟩
  exact ⟨by show PyData.canLayAll0 _ = true; exact h.1, by show PyData.depthAll _ + 1 ≤ 1; omega⟩
theorem fine_plas (ps : List (List Int)) : Fine 2 (.list (ps.map dPla)) := fineL fun p _ => fine_pla p
theorem eqv_pla : ∀ p q : List Int, PyData.eqv (dPla p) (dPla q) = decide (p = q) := by
  have : ∀ p q : List Int, PyData.eqvAll (p.map PyData.int) (q.map PyData.int) = decide (p = q) := by
    intro p
    induction p with
    | nil => intro q; cases q with
      | nil => rfl
      | cons y s => rfl
    | cons x r ih => intro q; cases q with
      | nil => rfl
      | cons y s =>
        show (PyData.eqv (.int x) (.int y) && PyData.eqvAll (r.map PyData.int) (s.map PyData.int)) = _
        rw [ih]
        show ((x == y) && decide (r = s)) = _
        by_cases h : x = y
        · subst h; simp
        · have : (x == y) = false := by simpa using h
          rw [this]; simp [h]
  exact fun p q => this p q
theorem eqv_plas : ∀ ps qs : List (List Int), PyData.eqv (.list (ps.map dPla)) (.list (qs.map dPla)) = decide (ps = qs) := by
  have : ∀ ps qs : List (List Int), PyData.eqvAll (ps.map dPla) (qs.map dPla) = decide (ps = qs) := by
    intro ps
    induction ps with
    | nil => intro q; cases q with
      | nil => rfl
      | cons y s => rfl
    | cons x r ih => intro q; cases q with
      | nil => rfl
      | cons y s =>
        show (PyData.eqv (dPla x) (dPla y) && PyData.eqvAll (r.map dPla) (s.map dPla)) = _
        rw [ih, eqv_pla]
        by_cases h : x = y
        · subst h; simp
        · simp [h]
  exact fun p q => this p q
theorem any_pla (ps : List (List Int)) (q : List Int) : ((ps.map dPla).any fun z => PyData.eqv z (dPla q)) = decide (q ∈ ps) := by
  induction ps with
  | nil => rfl
  | cons x r ih =>
    rw [List.map_cons, List.any_cons, ih, eqv_pla]
    by_cases h : x = q
    · subst h; simp
    · have : ¬ q = x := fun e => h e.symm
      simp [h, this]
section
variable {X : Cx} {K : PySem.W.Frag}
end
end L3

set_option Elab.async false
set_option linter.all false
set_option maxRecDepth 100000
set_option maxHeartbeats 4000000
namespace L3
open PySem PySem.Spec PyProof.Rows L2
section
variable {X : Cx}
/-! ### is of truths; places.index(place); isinstance(x, tuple) -/
open Classical in
inductive rIsTu_R (K : PySem.W.Frag) (xs : List V) (H : Hp) (Q : VK) : Prop
  | mk (a : Addr) (ys : List V) (h0 : xs = [.ref a, .ty "tuple"]) (h1 : SqT K H a ys) (h2 : Q (.bl true) H) : rIsTu_R K xs H Q
def rIsTu (K : PySem.W.Frag) : List V → Hp → VK → Prop := fun xs H Q => rIsTu_R K xs H Q
theorem call_isTu {K : PySem.W.Frag} (hK : X.K = K) : CallR X (.builtin "isinstance") (rIsTu K) := by
  subst hK
  intro pins s σ H xs us Q I r h
  obtain ⟨a, ys, rfl, hq, q⟩ := h
  obtain ⟨u, v, rfl, ru, rv⟩ := vals2 r
  obtain rfl : v = Value.type "tuple" := rv
  obtain rfl : u = Value.ref a := ru
  obtain ⟨its, r, ⟨o, h1, h2, h3⟩, hz⟩ := I.tuple hq
  exact PySem.W.kia_one (b := true) PySem.W.kitx_tuple I.kIn ⟨o, h1, h2⟩ rfl (fun z => nomatch z) fun tk => ⟨.bl true, H, I.tok _, rfl, q⟩
end
end L3

set_option Elab.async false
set_option linter.all false
set_option maxRecDepth 100000
set_option maxHeartbeats 4000000
namespace L3
open PySem PySem.Spec PyProof.Rows L2
/-! ### (a, b) in a list of tuples of numbers; xs.remove(y) -/
section
variable {X : Cx} {K : PySem.W.Frag}
inductive rInPl_R (x y : V) (H : Hp) (Q : VK) : Prop
  | mk (b p : Addr) (q : List Int) (vs : List V) (ps : List (List Int)) (h0 : x = .ref b) (h1 : y = .ref p) (h2 : H b = some (.tup (q.map V.int))) (h3 : H p = some (.lst vs)) (h4 : PlsAt H vs ps) (h5 : Q (.bl (decide (q ∈ ps))) H) : rInPl_R x y H Q
def rInPl : R2 := fun x y H Q => rInPl_R x y H Q
theorem op_inPl (hu : X.A.units + 64 < cLine) : OpR X (compareOp .In) rInPl := by
  intro pins s σ H x y u v Q I rx ry h
  obtain ⟨b, p, q, vs, ps, rfl, rfl, hb, hp, a, qq⟩ := h
  obtain ⟨as, r1⟩ := (Dp.lst (SqL.of hp) (dp_plas a) : Dp X.K H (.ref p) (.list (ps.map dPla))).reads I ry
  obtain ⟨bs, r2⟩ := (dp_pla hb : Dp X.K H (.ref b) (dPla q)).reads I rx
  have f2 := fine_pla q
  refine SeqAt.in_list_reads r1 r2 (fine_plas ps).1 f2.1 ?_ ⟨.bl _, H, I, rfl, ?_⟩
  · have := Nat.min_le_right (PyData.depthAll (ps.map dPla)) (dPla q).depth
    have := f2.2
    omega
  · rw [any_pla]; exact qq
inductive rRemove_R (x : V) (vs : List V) (H : Hp) (Q : VK) : Prop
  | mk (l : Addr) (xs : List V) (y : V) (j : Nat) (h0 : x = .ref l) (h1 : vs = [y]) (h2 : H l = some (.lst xs)) (h3 : flatV y = true) (h4 : xs.all flatV = true) (h5 : (∃ w, xs[j]? = some w ∧ eqV w y = true)) (h6 : (∀ (m : Nat) w, m < j → xs[m]? = some w → eqV w y = false)) (h7 : Q .non (upd H l (.lst (xs.eraseIdx j)))) : rRemove_R x vs H Q
def rRemove : V → List V → Hp → VK → Prop := fun x vs H Q => rRemove_R x vs H Q
theorem mt_remove : MtM X "list.remove" rRemove := by
  intro pins s σ H x vs v us Q I rx rv h
  obtain ⟨l, xs, y, j, rfl, rfl, hH, fy, fx, ⟨w, hw, ew⟩, hno, q⟩ := h
  cases rx
  obtain ⟨u, rfl, ru⟩ := rv.one
  obtain ⟨z, its, n, r, hl, e⟩ := I.lstM hH
  have hfl : ∀ (m : Nat) (a : V), xs[m]? = some a → flatV a = true := fun m a h => List.all_eq_true.mp fx a (List.mem_of_getElem? h)
  obtain ⟨uj, huj, ruj⟩ := r.get hw
  have hjl : j < its.length := (List.getElem?_eq_some_iff.mp huj).1
  have ej : its[j] = uj := (List.getElem?_eq_some_iff.mp huj).2
  refine call_meets F.slot_list_remove ⟨_, e, rfl⟩ F.entry_list_remove (F.args_list_remove_2 _ _) (MeetsSeq.list_remove l its.toArray n u (eqU y) (fun b hb prog w A E s Q hq => mem_eqAt ru fy r fx b (by simpa using hb) prog w E Q hq) j (by simpa using hjl) ?_ ?_ (by rw [List.size_toArray, ← hl]; exact z)) ⟨e, ?_⟩
  · show eqU y its[j] = true
    rw [ej, eqU_of ruj (hfl j w hw)]
    exact ew
  · intro m hm hmj
    have hm' : m < its.length := by simpa using hm
    have hmx : m < xs.length := by omega
    have g : xs[m]? = some xs[m] := List.getElem?_eq_getElem hmx
    obtain ⟨um, hum, rum⟩ := r.get g
    have em : its[m] = um := (List.getElem?_eq_some_iff.mp hum).2
    show eqU y its[m] = false
    rw [em, eqU_of rum (hfl m _ g)]
    exact hno m _ hmj g
  · refine ⟨.non, _, I.lset (its' := its.eraseIdx j) hH e ?_ (r.eraseIdx j) ?_, rfl, q⟩
    · show its.toArray.eraseIdxIfInBounds j = (its.eraseIdx j).toArray
      rw [List.eraseIdxIfInBounds_toArray]
    · have := len_erase xs j
      omega
theorem sl_tupK {X : Cx} {K : PySem.W.Frag} (hK : X.K = K) : SlR X (rSlT K) := by subst hK; exact sl_tup
theorem op_catTK {X : Cx} {K : PySem.W.Frag} (hK : X.K = K) : OpR X (binaryOp .Add) (rCatT K) := by subst hK; exact op_catT
end
end L3

set_option Elab.async false
set_option linter.all false
set_option maxRecDepth 100000
set_option maxHeartbeats 4000000
namespace L3
open PySem PySem.Spec PyProof.Rows L2
/-! ### a comprehension some of whose own names are taken by one within it -/
theorem cf_app : ∀ (names : List (Str × NameKind)) (n : Nat) (a b : List (Str × Addr)), cellsFrom n names (a ++ b) = cellsFrom n names a ++ b
  | [], _, _, _ => rfl
  | (x, k) :: r, n, a, b => by
    unfold cellsFrom
    split
    · exact cf_app r (n + 1) ((x, n) :: a) b
    · exact cf_app r n a b
theorem cf_mem : ∀ (names : List (Str × NameKind)) (n : Nat) (acc : List (Str × Addr)) (x : Str) (c : Addr), (x, c) ∈ cellsFrom n names acc → (x, c) ∈ acc ∨ (x, NameKind.cell) ∈ names
  | [], _, _, _, _, h => .inl h
  | (y, k) :: r, n, acc, x, c, h => by
    unfold cellsFrom at h
    split at h
    · rename_i hk
      rcases cf_mem r _ _ _ _ h with q | q
      · rcases List.mem_cons.mp q with q | q
        · cases q
          have : k = .cell := by simpa using hk
          subst this
          exact .inr List.mem_cons_self
        · exact .inl q
      · exact .inr (List.mem_cons_of_mem _ q)
    · rcases cf_mem r _ _ _ _ h with q | q
      · exact .inl q
      · exact .inr (List.mem_cons_of_mem _ q)
theorem cf_has : ∀ (names : List (Str × NameKind)) (n : Nat) (acc : List (Str × Addr)) (x : Str), ((x, NameKind.cell) ∈ names ∨ ∃ c, acc.lookup x = some c) → ∃ c, (cellsFrom n names acc).lookup x = some c
  | [], _, _, _, h => by
    rcases h with h | h
    · cases h
    · exact h
  | (y, k) :: r, n, acc, x, h => by
    unfold cellsFrom
    have up : ∀ c0, (∃ c, acc.lookup x = some c) → ∃ c, List.lookup x ((y, c0) :: acc) = some c := fun c0 ⟨c, e⟩ => by
      rw [List.lookup_cons]
      cases x == y
      · exact ⟨c, e⟩
      · exact ⟨_, rfl⟩
    split
    · rename_i hk
      refine cf_has r _ _ _ ?_
      rcases h with h | h
      · rcases List.mem_cons.mp h with h | h
        · cases h
          exact .inr ⟨_, by rw [List.lookup_cons, beq_self_eq_true]⟩
        · exact .inl h
      · exact .inr (up _ h)
    · rename_i hk
      refine cf_has r _ _ _ ?_
      rcases h with h | h
      · rcases List.mem_cons.mp h with h | h
        · cases h
          exact absurd rfl hk
        · exact .inl h
      · exact .inr h
/-- the cells of such a block, L its dict's address -/
def csOf (scope : Scope) (env : Env) (L : Addr) : List (Str × Addr) := cellsFrom (L + 1) scope.names [] ++ closOf scope env
theorem csOf_split {scope : Scope} {env : Env} {L : Addr} {x : Str} {c : Addr} (h : (csOf scope env L).lookup x = some c) : (cellsFrom (L + 1) scope.names []).lookup x = some c ∨ ((cellsFrom (L + 1) scope.names []).lookup x = none ∧ (closOf scope env).lookup x = some c) := by
  unfold csOf at h
  rw [List.lookup_append] at h
  cases e : (cellsFrom (L + 1) scope.names []).lookup x with
  | none => rw [e] at h; exact .inr ⟨rfl, h⟩
  | some d => rw [e] at h; exact .inl h
theorem csOf_new {scope : Scope} {env : Env} {L : Addr} {x : Str} {c : Addr} (h : (cellsFrom (L + 1) scope.names []).lookup x = some c) : (csOf scope env L).lookup x = some c := by
  unfold csOf
  rw [List.lookup_append, h]
  rfl
theorem csOf_old {scope : Scope} {env : Env} {L : Addr} {x : Str} {c : Addr} (h0 : (cellsFrom (L + 1) scope.names []).lookup x = none) (h : (closOf scope env).lookup x = some c) : (csOf scope env L).lookup x = some c := by
  unfold csOf
  rw [List.lookup_append, h0, h]
  rfl
theorem csOf_any {scope : Scope} {env : Env} {L : Addr} {x : Str} {c : Addr} (h : (closOf scope env).lookup x = some c) : ∃ d, (csOf scope env L).lookup x = some d := by
  cases e : (cellsFrom (L + 1) scope.names []).lookup x with
  | none => exact ⟨c, csOf_old e h⟩
  | some d => exact ⟨d, csOf_new e⟩
theorem cells_new (h : Heap) (names : List (Str × NameKind)) : (pushCells (h.push { cls := .type "dict", data := .dict #[] }) names).Ns h.objs.size (fun _ => none) ∧ (∀ b o, h.get? b = some o → (pushCells (h.push { cls := .type "dict", data := .dict #[] }) names).get? b = some o) ∧
    (∀ x c, (cellsFrom (h.objs.size + 1) names []).lookup x = some c → (pushCells (h.push { cls := .type "dict", data := .dict #[] }) names).IsCell c none ∧ h.objs.size + 1 ≤ c) ∧ (cellsFrom (h.objs.size + 1) names []).Pairwise fun x y => x.2 ≠ y.2 := by
  have ok := cellsFrom_ok names (h.push { cls := .type "dict", data := .dict #[] }) (h.objs.size + 1) [] ⟨fun _ _ hm => (nomatch hm), List.Pairwise.nil⟩ (by rw [Heap.size_push]; exact Nat.le_refl _)
  rw [Heap.size_push] at ok
  exact ⟨(Heap.Ns.new h (.type "dict")).keeps (pushCells_keeps _ _), fun b o e => pushCells_keeps _ _ b o (Heap.get?_push_of_some _ e), fun n c hc => ok.empty n c (PySem.mem_of_lookup hc), ok.apart⟩
theorem newEnvC_of {M : Model} {A : Around} {E : Value → Shared → Prop} {s : Shared} {scope : Scope} {globals : Addr} {cl : List (Str × Addr)} {qual : Str} {outer : Env} {Q : Env → Shared → Prop}
    (hQ : Q (newEnv scope s.heap.objs.size globals (cellsFrom (s.heap.objs.size + 1) scope.names [] ++ cl) qual none .none (some outer) builtinsNs) { s with heap := pushCells (s.heap.push { cls := .type "dict", data := .dict #[] }) scope.names }) :
    wpAny M A (newFunctionEnv scope globals cl [] qual none .none (some outer)) Q E s := by
  simp only [newFunctionEnv, Option.isSome_some, if_true]
  refine wpAny_bind (wpAny_alloc ?_)
  refine wpAny_bind (wpAny_layCells _ (fun name kind cells => by cases hkc : kind == NameKind.cell <;> simp [hkc]) _ _ _ _ ?_)
  rw [show ({ s with heap := s.heap.push { cls := .type "dict", data := .dict #[] } } : Shared).heap.objs.size = s.heap.objs.size + 1 from Heap.size_push ..]
  rw [List.forIn_nil]
  refine wpAny_bind (wpAny_pure (wpAny_pure ?_))
  have e := cf_app scope.names (s.heap.objs.size + 1) [] cl
  rw [List.nil_append] at e
  rw [e]
  exact hQ

structure CompOkC (sc : Scope) (N Nc : List Str) (ix : List (Option Nat)) (scope : Scope) : Prop where
  kind : scope.kind = .function
  cells : ∀ y ∈ scope.names, y.2 = .cell → scope.names.lookup y.1 = some .cell
  names : ∀ y ∈ scope.names, y.2 = .local → scope.names.lookup y.1 = some .local
  free : ∀ y ∈ scope.names, y.2 = .free → sc.names.lookup y.1 = some .cell ∨ sc.names.lookup y.1 = some .free
  len : ix.length = Nc.length
  chk : ((ix.zip Nc).all fun p => match p.1 with | none => true | some j => N[j]? == some p.2 && scope.names.lookup p.2 == some .free) = true
theorem CompOkC.at_ {sc : Scope} {N Nc : List Str} {ix : List (Option Nat)} {scope : Scope} (o : CompOkC sc N Nc ix scope) {i j : Nat} {x : Str} (h1 : ix[i]? = some (some j)) (h2 : Nc[i]? = some x) : N[j]? = some x ∧ scope.names.lookup x = some .free := by
  have hm : (some j, x) ∈ ix.zip Nc := by
    refine List.mem_of_getElem? (i := i) ?_
    rw [List.getElem?_zip_eq_some]
    exact ⟨h1, h2⟩
  have q := List.all_eq_true.mp o.chk _ hm
  have q' := Bool.and_eq_true _ _ ▸ q
  exact ⟨by simpa using q'.1, by simpa using q'.2⟩
def compChkC (sc : Scope) (N Nc : List Str) (ix : List (Option Nat)) (scope : Scope) : Bool :=
  decide (scope.kind = .function) && scope.names.all (fun y => decide (y.2 = .cell → scope.names.lookup y.1 = some .cell)) && scope.names.all (fun y => decide (y.2 = .local → scope.names.lookup y.1 = some .local)) &&
  scope.names.all (fun y => decide (y.2 = .free → sc.names.lookup y.1 = some .cell ∨ sc.names.lookup y.1 = some .free)) && decide (ix.length = Nc.length) &&
  (ix.zip Nc).all fun p => match p.1 with | none => true | some j => N[j]? == some p.2 && scope.names.lookup p.2 == some .free
theorem CompOkC.of {sc : Scope} {N Nc : List Str} {ix : List (Option Nat)} {scope : Scope} (h : compChkC sc N Nc ix scope = true) : CompOkC sc N Nc ix scope := by
  unfold compChkC at h
  simp only [Bool.and_eq_true] at h
  obtain ⟨⟨⟨⟨⟨h1, h2⟩, h3⟩, h4⟩, h5⟩, h6⟩ := h
  exact ⟨of_decide_eq_true h1, fun y hy => of_decide_eq_true (List.all_eq_true.mp h2 y hy), fun y hy => of_decide_eq_true (List.all_eq_true.mp h3 y hy), fun y hy => of_decide_eq_true (List.all_eq_true.mp h4 y hy), of_decide_eq_true h5, h6⟩
/-- a comprehension within one: the names around it are the outer one's -/
def relabelS (scope sc : Scope) : Scope := { scope with names := scope.names.map fun (n, k) => if (k == .free && sc.kind == .function && sc.names.lookup n == some .cell) then (n, .cell) else (n, k) }
theorem CompOk.ofR {scO scI sc0 : Scope} {env : Env} {N Nc : List Str} {ix : List (Option Nat)} (hs : env.scope = sc0) (h : compChk (relabelS scO sc0) N Nc ix scI = true) : CompOk (relabel scO env) N Nc ix scI := by
  subst hs
  exact CompOk.of h

def cxCompC (X : Cx) (Nc : List Str) (scope : Scope) (cl : List (Str × Addr)) (C : Addr) (s : Shared) (H : Hp) (fp : List Addr) : Cx where
  prog := X.prog
  w := X.w
  K := X.K
  mg := X.mg
  base := X.base
  A := X.A
  N := Nc
  s₀ := s
  H₀ := H
  env := compEnvC scope cl C X.env
  outer := X.stack
  stack := X.stack
  ex := fp
  fn := fun x => scope.names.lookup x == some .cell
  calm := X.calm
  pn := X.pn
  xe := fun _ _ => False
section
variable {X : Cx} {pins : List (Addr × Obj)} {σ : St} {H : Hp} {s : Shared} {Nc : List Str} {ix : List (Option Nat)} {scope : Scope}
theorem all_cellsC (I : Inv X pins σ H s) (ok : CompOkC X.env.scope X.N Nc ix scope) : ∀ y ∈ scope.names, y.2 = .free → (X.env.cells.lookup y.1).isSome = true := fun y hy hf => by
  obtain ⟨c, hc⟩ := I.ok.has y.1 (ok.free y hy hf)
  rw [hc]; rfl
theorem csOf_ne {h1 : Heap} {b c : Addr} {x : Str} (I : Inv X pins σ H s) (ok : CompOkC X.env.scope X.N Nc ix scope) (hnew : ∀ x c, (cellsFrom (s.heap.objs.size + 1) scope.names []).lookup x = some c → h1.IsCell c none ∧ s.heap.objs.size + 1 ≤ c)
    (q : (csOf scope X.env s.heap.objs.size).lookup x = some c) (hb : b < s.heap.objs.size) (f : X.env.cells.lookup x = some c → c ≠ b) : c ≠ b := by
  rcases csOf_split q with q | ⟨_, q⟩
  · exact Nat.ne_of_gt (Nat.lt_of_lt_of_le hb (Nat.le_of_succ_le (hnew x c q).2))
  · exact f (clos_some (all_cellsC I ok) q)
/-- the block begins: s is the state with the new list, C the block's own dict -/
theorem comp_startC {fp : List Addr} {h1 : Heap} {t' : Nat} (I : Inv X pins σ H s) (ok : CompOkC X.env.scope X.N Nc ix scope) (hf : ∀ b ∈ fp, FpOk X pins H b) (hob : ∀ b ∈ fp, ∃ o, s.heap.get? b = some o)
    {m : Str → Option Value} (hn : h1.Ns s.heap.objs.size m) (hk : ∀ b o, s.heap.get? b = some o → h1.get? b = some o)
    (hnew : ∀ x c, (cellsFrom (s.heap.objs.size + 1) scope.names []).lookup x = some c → h1.IsCell c none ∧ s.heap.objs.size + 1 ≤ c) (hap : (cellsFrom (s.heap.objs.size + 1) scope.names []).Pairwise fun x y => x.2 ≠ y.2) :
    Inv (cxCompC X Nc scope (csOf scope X.env s.heap.objs.size) s.heap.objs.size s H fp) pins (sub ix σ) H { s with heap := h1, toks := t' } := by
  have ac := all_cellsC I ok
  have old : ∀ {b : Addr} {o : Obj}, s.heap.get? b = some o → b ≠ s.heap.objs.size := fun e => Nat.ne_of_lt (Heap.lt_size e)
  refine ⟨⟨I.ok.mod, ?_, I.ok.glob, I.ok.blt, Nat.le_refl _, ?_, ?_, ?_, I.ok.hd, I.ok.frames, .inl rfl, ?_, I.bs, Nat.le_trans I.ok.bsz I.sz, ?_, ?_, I.stack, I.stkFree⟩, rfl, I.bare, Un.kept hk, ⟨m, hn, ?_⟩, ?_, ?_, ?_, ?_, I.hok.kept hk, ?_⟩
  · exact ok.kind
  · intro x y c e1 e2
    have lo : ∀ {z : Str}, (closOf scope X.env).lookup z = some c → c < s.heap.objs.size := fun {z} e => by
      obtain ⟨v, oc, e5, _⟩ := I.cell z c (clos_some ac e)
      exact Heap.lt_size e5
    rcases csOf_split e1 with e1 | ⟨_, e1⟩
    · rcases csOf_split e2 with e2 | ⟨_, e2⟩
      · exact name_of_addr hap (PySem.mem_of_lookup e1) (PySem.mem_of_lookup e2)
      · exact absurd (lo e2) (Nat.not_lt_of_le (Nat.le_of_succ_le (hnew x c e1).2))
    · rcases csOf_split e2 with e2 | ⟨_, e2⟩
      · exact absurd (lo e1) (Nat.not_lt_of_le (Nat.le_of_succ_le (hnew y c e2).2))
      · exact I.ok.inj x y c (clos_some ac e1) (clos_some ac e2)
  · intro x hx
    have key : ∀ k, (relabel scope X.env).names.lookup x = some k → (k = .cell ∨ k = .free) → ∃ c, (csOf scope X.env s.heap.objs.size).lookup x = some c := fun k e hkk => by
      rcases relabel_kind e with q | ⟨_, q⟩
      · rcases hkk with rfl | rfl
        · obtain ⟨c, hc⟩ := cf_has scope.names (s.heap.objs.size + 1) [] x (.inl (PySem.mem_of_lookup q))
          exact ⟨c, csOf_new hc⟩
        · obtain ⟨c, hc⟩ := clos_has (env := X.env) (PySem.mem_of_lookup q)
          exact csOf_any hc
      · obtain ⟨c, hc⟩ := clos_has (env := X.env) (PySem.mem_of_lookup q)
        exact csOf_any hc
    rcases hx with e | e
    · exact key _ e (.inl rfl)
    · exact key _ e (.inr rfl)
  · intro x c hfn e
    have hfn' : scope.names.lookup x = some .cell := beq_iff_eq.mp hfn
    obtain ⟨d, hd⟩ := cf_has scope.names (s.heap.objs.size + 1) [] x (.inl (PySem.mem_of_lookup hfn'))
    have e' : (csOf scope X.env s.heap.objs.size).lookup x = some c := e
    rw [csOf_new hd] at e'
    cases e'
    exact Nat.le_of_succ_le (hnew x _ hd).2
  · intro b hb
    obtain ⟨o, e⟩ := hob b hb
    obtain ⟨f0, f1, f2, f3, f4, f5⟩ := hf b hb
    exact ⟨old e, fun x c q => csOf_ne I ok hnew q (Heap.lt_size e) (f4 x c)⟩
  · intro b o e hb
    obtain ⟨f0, f1, f2, f3, f4, f5⟩ := hf b hb
    rcases f3 with z | z
    · exact I.ok.noex b o e z
    · exact absurd (Nat.lt_of_lt_of_le (Nat.lt_of_lt_of_le (Heap.lt_size e) I.ok.bsz) z) (Nat.lt_irrefl _)
  · intro b hb hz
    obtain ⟨f0, f1, f2, f3, f4, f5⟩ := hf b hb
    rcases List.mem_cons.mp (I.stkSub b hz) with z | z
    · exact f1 z
    · exact f2 z
  · intro i x v e1 e2 e3
    have e1 : Nc[i]? = some x := e1
    unfold sub at e2
    rw [List.getElem?_map] at e2
    cases hi : ix[i]? with
    | none => rw [hi] at e2; cases e2
    | some o =>
      cases o with
      | none => rw [hi] at e2; cases e2
      | some j =>
        obtain ⟨hN, hfree⟩ := ok.at_ hi e1
        have e4 : σ[j]? = some (some v) := by
          rw [hi] at e2
          have e2' : some ((σ[j]?).join) = some (some v) := e2
          have e5 := Option.some.inj e2'
          cases hj : σ[j]? with
          | none => rw [hj] at e5; cases e5
          | some z => rw [hj] at e5; exact congrArg some e5
        have hvis : Vis X.env.scope x := by
          rcases ok.free (x, .free) (PySem.mem_of_lookup hfree) rfl with q | q
          · exact .inr (.inl q)
          · exact .inr (.inr q)
        obtain ⟨m0, hn0, hl⟩ := I.loc
        obtain ⟨u, r, lk⟩ := hl j x v hN e4 hvis
        refine ⟨u, r, .inr ⟨relabel_free hfree, ?_⟩⟩
        rcases lk with ⟨q, _⟩ | ⟨_, c, hc, z⟩
        · rcases ok.free (x, .free) (PySem.mem_of_lookup hfree) rfl with q2 | q2
          · exact absurd (q.symm.trans q2) (by decide)
          · exact absurd (q.symm.trans q2) (by decide)
        · obtain ⟨d, hd⟩ := clos_has (env := X.env) (PySem.mem_of_lookup hfree)
          have := clos_some ac hd
          rw [hc] at this; cases this
          obtain ⟨oc, e5, e6⟩ := z
          have h0 : (cellsFrom (s.heap.objs.size + 1) scope.names []).lookup x = none := by
            cases hz : (cellsFrom (s.heap.objs.size + 1) scope.names []).lookup x with
            | none => rfl
            | some d2 =>
              rcases cf_mem _ _ _ _ _ (PySem.mem_of_lookup hz) with q | q
              · cases q
              · have := ok.cells _ q rfl
                rw [hfree] at this
                cases this
          exact ⟨c, csOf_old h0 hd, oc, hk c oc e5, e6⟩
  · intro x c e
    rcases csOf_split e with e | ⟨_, e⟩
    · exact ⟨none, (hnew x c e).1⟩
    · obtain ⟨v, oc, e5, e6⟩ := I.cell x c (clos_some ac e)
      exact ⟨v, oc, hk c oc e5, e6⟩
  · exact I.hok.fresh (Nat.le_refl _)
  · intro x c e
    rcases csOf_split e with e | ⟨_, e⟩
    · exact I.hok.fresh (Nat.le_of_succ_le (hnew x c e).2)
    · exact I.freeC x c (clos_some ac e)
  · intro p hp
    obtain ⟨e, n, ne, nf, d⟩ := I.pin p hp
    refine ⟨hk _ _ e, n, old e, fun z => ?_, d⟩
    rcases List.mem_cons.mp (I.stkSub p.1 z) with q | q
    · exact ne q
    · exact nf q
  · unfold sub
    rw [List.length_map]
    exact ok.len
/-- the block has ended -/
theorem comp_endC {fp : List Addr} {cl : List (Str × Addr)} {C : Addr} {σ' : St} {H' : Hp} {s' : Shared} {h' : Heap} (I : Inv X pins σ H s) (hf : ∀ b ∈ fp, FpOk X pins H b) (hC : s.heap.get? C = none)
    (J : Inv (cxCompC X Nc scope cl C s H fp) pins σ' H' s') (sb : Heap.SameBut C s'.heap h') : Inv X pins σ H' { s' with heap := h' } := by
  have u : Un (frs X.stack) fp H H' s.heap s'.heap := J.base
  have hCf : H' C = none := J.free
  have hCn : ∀ {b : Addr} {o : Obj}, s.heap.get? b = some o → b ≠ C := fun e z => by rw [z, hC] at e; cases e
  refine I.call' (s' := { s' with heap := h' }) (ch := fp) J.os ⟨fun b o e n h1 h2 => ?_, fun b o e n h1 h2 => ?_, u.free, fun b o e h2 => ?_, u.tups, u.frzs, u.tbls⟩ ?_ J.bare fun b hb => ?_
  · exact (sb.2 b (hCn e)).trans (u.keep b o e n h1 h2)
  · obtain ⟨sl, q⟩ := u.slot b o e n h1 h2
    exact ⟨sl, (sb.2 b (hCn e)).trans q⟩
  · obtain ⟨o', q⟩ := u.there b o e h2
    exact ⟨o', (sb.2 b (hCn e)).trans q⟩
  · intro b o e
    refine (J.hok b o e).stay (fun c v hc q => (sb.2 c ?_).trans q) (fun _ q => q) fun _ _ q => q
    rintro rfl
    rcases hc with z | z
    · rw [← z, hCf] at e; cases e
    · rw [hCf] at z; cases z
  · obtain ⟨f0, f1, f2, f3, f4, f5⟩ := hf b hb
    exact ⟨f3, f1, f4, f5⟩

theorem comp_runC {elt tg iter : Expr} {ifs : List Expr} {pos pos2 : Pos} {wi : TI} {g : TG} {tt : TT} {te : TE} {use : Option (Value → Sem Unit)} {QV : Value → Shared → Prop} {Q : VK} (I : L2.Inv X pins σ H s) (h : tComp wi ix g tt te σ H Q)
    (fin : ∀ (D C : Addr) (H' : Hp) (s' : Shared) (m : Str → Option Value), L2.Inv X pins σ H' s' → FpOk X pins H' C → s'.heap.Ns C m → Q (.ref D) H' → compPost (model X.prog X.w) X.A X.xe use QV (.ref D) C (.ok .next) s')
    (ok : CompOkC X.env.scope X.N Nc ix scope) (hc : X.calm = true) (hi : PI X tg iter wi)
    (hg : ∀ cl C s H fp, PG (cxCompC X Nc scope cl C s H fp) tg g) (ht : ∀ cl C s H fp, PTs (cxCompC X Nc scope cl C s H fp) ifs tt) (he : ∀ cl C s H fp, PE (cxCompC X Nc scope cl C s H fp) elt te)
    (hs : ∀ x, foldedSetIterable iter X.env x = pure x := by intro _; rfl) : wpAny (model X.prog X.w) X.A (comprehension (.ListComp elt [⟨tg, iter, ifs, 0⟩] scope pos) scope X.env pos2 (newList []) false (eval iter X.env) use) QV X.xe s := by
  refine wpAny_comprehension_free (use := use) (cl := closOf scope X.env) rfl hs (clos_eq (all_cellsC I ok)) ok.kind ok.names (thn (hi pins s σ H _ I h) fun v s1 q1 => thn q1 fun itv s2 q2 => ?_)
  obtain ⟨it, fp, tn, J, H1, e, I2, T, st2, f2, q⟩ := q2
  subst e
  have hD : H1 s2.heap.objs.size = none := I2.hok.fresh (Nat.le_refl _)
  obtain ⟨W, ⟨m0, w0⟩, turn⟩ := q _ hD
  refine wpAny_newObj_type ?_
  have I3 : Inv X pins σ (upd H1 s2.heap.objs.size (.lst [])) { s2 with heap := s2.heap.push { cls := .type "list", data := .seq ([] : List Value).toArray } } :=
    I2.laid (t' := s2.toks) (fun b u e => Heap.get?_push_of_some _ e) (Nat.le_refl _) ⟨Nat.zero_le _, [], 0, .nil, Heap.get?_push_size _ rfl⟩
  have hob2 := T.obj 0 _ st2
  have f3 : ∀ b ∈ fp, FpOk X pins (upd H1 s2.heap.objs.size (.lst [])) b := fun b hb => by
    obtain ⟨o, e, _⟩ := hob2 b hb
    obtain ⟨f0, fr⟩ := f2 b hb
    exact ⟨by rw [upd_ne (Nat.ne_of_lt (Heap.lt_size e))]; exact f0, fr⟩
  have st3 : tn 0 (s2.heap.push { cls := .type "list", data := .seq ([] : List Value).toArray }) := T.keep 0 _ _ st2 fun b _ o e => Heap.get?_push_of_some _ e
  generalize hs3 : ({ s2 with heap := s2.heap.push { cls := .type "list", data := .seq ([] : List Value).toArray } } : Shared) = s3 at I3 ⊢
  have st3' : tn 0 s3.heap := by rw [← hs3]; exact st3
  refine newEnvC_of ?_
  obtain ⟨hns, k1, hnew, hap⟩ := cells_new s3.heap scope.names
  generalize hh1 : pushCells (s3.heap.push { cls := .type "dict", data := .dict #[] }) scope.names = h1 at hns k1 hnew ⊢
  have hob3 : ∀ b ∈ fp, ∃ o, s3.heap.get? b = some o := fun b hb => let ⟨o, e, _⟩ := T.obj 0 _ st3' b hb; ⟨o, e⟩
  have I4 : Inv (cxCompC X Nc scope (csOf scope X.env s3.heap.objs.size) s3.heap.objs.size s3 (upd H1 s2.heap.objs.size (.lst [])) fp) pins (sub ix σ) (upd H1 s2.heap.objs.size (.lst [])) { s3 with heap := h1 } :=
    comp_startC (t' := s3.toks) I3 ok f3 hob3 hns k1 hnew hap
  have st4 : tn 0 h1 := T.keep 0 _ _ st3' fun b _ o e => k1 b o e
  have hC : s3.heap.get? s3.heap.objs.size = none := Heap.get?_none_of_le (Nat.le_refl _)
  generalize hX : cxCompC X Nc scope (csOf scope X.env s3.heap.objs.size) s3.heap.objs.size s3 (upd H1 s2.heap.objs.size (.lst [])) fp = Y at I4
  have stat : ∀ {H' : Hp}, (∀ b ∈ fp, H' b = none) → ∀ b ∈ fp, FpOk Y pins H' b := fun {H'} hn b hb => by
    obtain ⟨o, e⟩ := hob3 b hb
    obtain ⟨f0, f1, ff, f3', f4, f5⟩ := f3 b hb
    have nst : b ∉ frs X.stack := fun z => by
      rcases List.mem_cons.mp (I3.stkSub b z) with z | z
      · exact f1 z
      · exact ff z
    subst hX
    exact ⟨hn b hb, Nat.ne_of_lt (Heap.lt_size e), nst, .inl hb, fun x c q => csOf_ne I3 ok hnew q (Heap.lt_size e) (fun q' => f4 x c q'), f5⟩
  have fin' : ∀ {σ' : St} {H' : Hp} {s' : Shared}, L2.Inv Y pins σ' H' s' → Q (.ref s2.heap.objs.size) H' → compPost (model X.prog X.w) X.A X.xe use QV (.ref s2.heap.objs.size) s3.heap.objs.size (.ok .next) s' := fun {σ' H' s'} J' qq => by
    subst hX
    obtain ⟨m', hn', _⟩ := id J'.loc
    have hCn : H' s3.heap.objs.size = none := J'.free
    exact fin _ _ H' s' m' (comp_endC (h' := s'.heap) I3 f3 hC J' (.refl ..)) (I3.fpOk (Nat.le_refl _) hCn) hn' qq
  have loop : codeAny (model X.prog X.w) X.A (.compLoop (.ListComp elt [⟨tg, iter, ifs, 0⟩] scope pos) 0 (.ref it) (.ref s2.heap.objs.size) Y.env)
      (compPost (model X.prog X.w) X.A X.xe use QV (.ref s2.heap.objs.size) s3.heap.objs.size) { s3 with heap := h1 } := by
    have eP : Y.prog = X.prog := by subst hX; rfl
    have eW : Y.w = X.w := by subst hX; rfl
    have eK : Y.K = X.K := by subst hX; rfl
    have eA : Y.A = X.A := by subst hX; rfl
    have eE : Y.xe = fun _ _ => False := by subst hX; rfl
    have eC : Y.calm = true := by subst hX; exact hc
    have hgY : PG Y tg g := by subst hX; exact hg _ _ _ _ _
    have htY : PTs Y ifs tt := by subst hX; exact ht _ _ _ _ _
    have heY : PE Y elt te := by subst hX; exact he _ _ _ _ _
    unfold PG at hgY
    unfold PTs at htY
    unfold PE at heY
    rw [eP, eW, eA, eE] at hgY htY heY
    refine loop_of (fun n s' => ∃ i σ' H', Inv Y pins σ' H' s' ∧ tn i s'.heap ∧ (∀ b ∈ fp, H' b = none) ∧ W i n σ' H') ?_ m0 ⟨0, sub ix σ, _, I4, st4, fun b hb => (f3 b hb).1, w0⟩
    rintro n s5 ⟨i, σ5, H5, I5, st5, fr5, w5⟩
    have TI := T.item Y eP eW eK eC i pins s5 σ5 H5 (fun _ _ => False) I5 (stat fr5) st5
    have TD := T.done Y eP eW eK eC i pins s5 σ5 H5 (fun _ _ => False) I5 (stat fr5) st5
    rw [eA] at TI TD
    rcases turn i n σ5 H5 w5 with ⟨stop, qn⟩ | ⟨go, N, N0, hN, hN0, step⟩
    · refine thn (TD stop) fun r s6 ⟨hr, I6⟩ => ?_
      subst hr
      exact fin' I6 qn
    · refine thn (TI go) fun r s6 ⟨u, hr, h6⟩ => ?_
      subst hr
      refine thn h6 fun _ s7 ⟨x, H7, I7, r7, y7, st7, fr7⟩ => ?_
      have I7' := I7.pinned (stat fr7) (T.obj _ _ st7)
      refine thn (hgY _ s7 σ5 H7 x u _ I7' r7 (step x H7 y7)) fun _ s8 ⟨σ8, H8, I8, q8⟩ => ?_
      refine thn (htY _ s8 σ8 H8 _ I8 q8) fun c s9 ⟨H9, I9, q9⟩ => ?_
      have back : ∀ {σa : St} {Ha : Hp} {sa : Shared}, Inv Y (pins ++ pinsAt fp s7.heap) σa Ha sa → (∃ m', m' < n ∧ W (i + 1) m' σa Ha) → ∃ m, m < n ∧ ∃ i σ' H', Inv Y pins σ' H' sa ∧ tn i sa.heap ∧ (∀ b ∈ fp, H' b = none) ∧ W i m σ' H' := fun {σa Ha sa} Ia ⟨m', hm, wa⟩ => by
        refine ⟨m', hm, i + 1, σa, Ha, Ia.unpinned, T.keep _ _ _ st7 fun b hb o e => (Ia.pin (b, o) (List.mem_append_right _ (List.mem_append_right _ (mem_pinsAt hb e)))).1, fun b hb => ?_, wa⟩
        obtain ⟨o, e, d⟩ := T.obj _ _ st7 b hb
        exact (Ia.pin (b, o) (List.mem_append_right _ (List.mem_append_right _ (mem_pinsAt hb e)))).2.1
      cases c with
      | false => exact back I9 (hN0 _ _ (by simpa using q9))
      | true =>
        rw [if_pos rfl] at q9 ⊢
        refine thn (heY _ s9 σ8 H9 _ I9 q9) fun z s10 ⟨v10, H10, I10, r10, q10⟩ => ?_
        obtain ⟨xs, hx, hz, q10⟩ := hN _ _ _ q10
        have ap := mt_append (X := Y) (pins ++ pinsAt fp s7.heap) s10 σ8 H10 (.ref s2.heap.objs.size) [v10] (.ref s2.heap.objs.size) [z] (fun _ Hb => ∃ m', m' < n ∧ W (i + 1) m' σ8 Hb) I10 rfl (.cons r10 .nil) ⟨_, xs, v10, rfl, rfl, hx, hz, q10⟩
        rw [eP, eW, eA, eE] at ap
        exact thn ap fun _ s11 ⟨_, H11, I11, _, q11⟩ => back I11 q11
  have eenv : Y.env = compEnvC scope (csOf scope X.env s3.heap.objs.size) s3.heap.objs.size X.env := by subst hX; rfl
  rw [eenv] at loop
  exact codeAny_compStart_list loop (T.self X.A 0 _ _ _ st4 loop)
theorem pe_compC {elt tg iter : Expr} {ifs : List Expr} {pos : Pos} {wi : TI} {g : TG} {tt : TT} {te : TE} (ok : CompOkC X.env.scope X.N Nc ix scope) (hc : X.calm = true) (hi : PI X tg iter wi)
    (hg : ∀ cl C s H fp, PG (cxCompC X Nc scope cl C s H fp) tg g) (ht : ∀ cl C s H fp, PTs (cxCompC X Nc scope cl C s H fp) ifs tt) (he : ∀ cl C s H fp, PE (cxCompC X Nc scope cl C s H fp) elt te)
    (hs : ∀ x, foldedSetIterable iter X.env x = pure x := by intro _; rfl) : PE X (.ListComp elt [⟨tg, iter, ifs, 0⟩] scope pos) (tComp wi ix g tt te) := by
  intro pins s σ H Q I h
  rw [eval_ListComp]
  refine comp_runC (use := none) I h (fun D C H' s' m I' f hn qq => ?_) ok hc hi hg ht he hs
  obtain ⟨f0, f1, f2, f3, f4, f5⟩ := f
  exact ⟨m, hn, fun h' sb => ⟨.ref D, H', I'.turned (t' := s'.toks) (fun b o hb e => (sb.2 b hb).trans e) f0 f1 f3 f4 f5, rfl, qq⟩⟩
end
end L3

set_option Elab.async false
set_option linter.all false
set_option maxRecDepth 100000
set_option maxHeartbeats 4000000
namespace L3
open PySem PySem.Spec PyProof.Rows L2
/-! ### [f(x) for x in xs if p(x)], elements that are plain -/
theorem tTrue_if {te : TE} {σ : St} {H : Hp} {N : V → Hp → Prop} {N0 : Hp → Prop} (h : te σ H N) : tTrue σ H fun c H4 => if c = true then te σ H4 N else N0 H4 := by
  show (if true = true then te σ H N else N0 H)
  rw [if_pos rfl]; exact h
theorem comp_sel {α : Type} {J : It} {D : Addr} {tt : TT} {te : TE} {τ : St} {H0 : Hp} {Q : VK} (l : List α) (φ : α → V) (p : α → Bool) (f : α → V) (hD : H0 D = none) (hz : l.length ≤ sizeLine)
    (hgo : ∀ i H, i < l.length → Same H0 H → J.go i H) (hst : ∀ H, Same H0 H → J.stop l.length H) (hy : ∀ i x H H2 (h : i < l.length), Same H0 H → J.yld i H x H2 → H2 = H ∧ x = φ l[i])
    (step : ∀ x ∈ l, ∀ H (N : V → Hp → Prop) (N0 : Hp → Prop), Same H0 H → (∀ H4, Same H H4 → p x = true → N (f x) H4) → (∀ H4, Same H H4 → p x = false → N0 H4) → tt (some (φ x) :: τ) H fun c H4 => if c = true then te (some (φ x) :: τ) H4 N else N0 H4)
    (fin : ∀ H', H' D = some (.lst ((l.filter p).map f)) → Same H0 H' → Q (.ref D) H') : CompL J D (gName 0) tt te (none :: τ) H0 Q := by
  refine comp_genL (n := l.length) (fun i σ H => ∃ z, σ = z :: τ ∧ H D = some (.lst (((l.take i).filter p).map f)) ∧ Same H0 H) ?_ ?_ ?_ ?_ ?_
  · exact ⟨none, rfl, upd_same, same_upd hD⟩
  · rintro i σ H hi ⟨z, rfl, _, s⟩
    exact hgo i H hi s
  · rintro σ H ⟨z, rfl, _, s⟩
    exact hst H s
  · rintro i x σ H H2 hi ⟨z, rfl, hd, s⟩ hyl N N0 hN hN0
    obtain ⟨rfl, rfl⟩ := hy i x H H2 hi s hyl
    have tk : (l.take (i + 1)).filter p = (l.take i).filter p ++ [l[i]].filter p := by rw [List.take_succ_eq_append_getElem hi, List.filter_append]
    have le : (((l.take i).filter p).map f).length < sizeLine := by
      rw [List.length_map]
      have := List.length_filter_le p (l.take i)
      rw [List.length_take] at this
      omega
    refine step _ (List.getElem_mem hi) H2 (fun v H5 => N v (some (φ l[i]) :: τ) H5) (fun H4 => N0 (some (φ l[i]) :: τ) H4) s (fun H4 s4 hp => ?_) (fun H4 s4 hp => ?_)
    · refine hN _ _ H4 _ (s4 _ _ hd) le ⟨_, rfl, ?_, (SameX.upd (Same.x (s.trans s4))).same hD⟩
      rw [upd_same, tk, List.filter_cons_of_pos hp, List.map_append]
      rfl
    · refine hN0 _ H4 ⟨_, rfl, ?_, s.trans s4⟩
      rw [s4 _ _ hd, tk, List.filter_cons_of_neg (by rw [hp]; exact Bool.false_ne_true), List.filter_nil, List.append_nil]
  · rintro σ H ⟨z, rfl, hd, s⟩
    rw [List.take_length] at hd
    exact fin H hd s
theorem comp_selL {α : Type} {K : PySem.W.Frag} {a D : Addr} {tt : TT} {te : TE} {τ : St} {H0 : Hp} {Q : VK} (l : List α) (φ : α → V) (p : α → Bool) (f : α → V) (hD : H0 D = none) (hq : SqL K H0 a (l.map φ)) (hz : l.length ≤ sizeLine)
    (step : ∀ x ∈ l, ∀ H (N : V → Hp → Prop) (N0 : Hp → Prop), Same H0 H → (∀ H4, Same H H4 → p x = true → N (f x) H4) → (∀ H4, Same H H4 → p x = false → N0 H4) → tt (some (φ x) :: τ) H fun c H4 => if c = true then te (some (φ x) :: τ) H4 N else N0 H4)
    (fin : ∀ H', H' D = some (.lst ((l.filter p).map f)) → Same H0 H' → Q (.ref D) H') : CompL (Itl K a) D (gName 0) tt te (none :: τ) H0 Q := by
  refine comp_sel l φ p f hD hz (fun i H hi s => ⟨_, φ l[i], s.seq hq, by rw [List.getElem?_map, List.getElem?_eq_getElem hi]; rfl⟩) (fun H s => ⟨_, s.seq hq, by rw [List.length_map]; exact Nat.le_refl _⟩) (fun i x H H2 hi s hyl => ?_) step fin
  obtain ⟨rfl, hx⟩ := hyl
  have e := hx _ (s.seq hq)
  rw [List.getElem?_map, List.getElem?_eq_getElem hi] at e
  exact ⟨rfl, (Option.some.inj e).symm⟩
theorem comp_selR {n : Nat} {D : Addr} {tt : TT} {te : TE} {τ : St} {H0 : Hp} {Q : VK} (p : Nat → Bool) (f : Nat → V) (hD : H0 D = none) (hz : n ≤ sizeLine)
    (step : ∀ k, k < n → ∀ H (N : V → Hp → Prop) (N0 : Hp → Prop), Same H0 H → (∀ H4, Same H H4 → p k = true → N (f k) H4) → (∀ H4, Same H H4 → p k = false → N0 H4) → tt (some (.int (k : Nat)) :: τ) H fun c H4 => if c = true then te (some (.int (k : Nat)) :: τ) H4 N else N0 H4)
    (fin : ∀ H', H' D = some (.lst (((List.range n).filter p).map f)) → Same H0 H' → Q (.ref D) H') : CompL (Itr 0 n) D (gName 0) tt te (none :: τ) H0 Q := by
  refine comp_sel (List.range n) (fun k => .int (k : Nat)) p f hD (by rw [List.length_range]; exact hz) (fun i H hi _ => by rw [List.length_range] at hi; exact hi) (fun H _ => by rw [List.length_range]; exact Nat.le_refl _) (fun i x H H2 hi s hyl => ?_) (fun x hx => step x (List.mem_range.mp hx)) fin
  obtain ⟨rfl, rfl⟩ := hyl
  refine ⟨rfl, ?_⟩
  rw [List.getElem_range, Int.zero_add]
theorem comp_selW {α : Type} {J : It} {D : Addr} {tt : TT} {te : TE} {τ : St} {H0 : Hp} {Q : VK} (l : List α) (φ : α → V) (p : α → Bool) (f : α → V) (hD : H0 D = none) (hz : l.length ≤ sizeLine)
    (hgo : ∀ i H, i < l.length → Same H0 H → J.go i H) (hst : ∀ H, Same H0 H → J.stop l.length H) (hy : ∀ i x H H2 (h : i < l.length), Same H0 H → J.yld i H x H2 → H2 = H ∧ x = φ l[i])
    (step : ∀ x ∈ l, ∀ H (N : V → Hp → Prop) (N0 : Hp → Prop), Same H0 H → (∀ H4, Same H H4 → p x = true → N (f x) H4) → (∀ H4, Same H H4 → p x = false → N0 H4) → tt (some (φ x) :: τ) H fun c H4 => if c = true then te (some (φ x) :: τ) H4 N else N0 H4)
    (fin : ∀ H', H' D = some (.lst ((l.filter p).map f)) → Same H0 H' → Q (.ref D) H') : CompW J D (gName 0) tt te (none :: τ) H0 Q := by
  refine comp_gen (n := l.length) (fun i σ H => ∃ z, σ = z :: τ ∧ H D = some (.lst (((l.take i).filter p).map f)) ∧ Same H0 H) ?_ ?_ ?_ ?_ ?_
  · exact ⟨none, rfl, upd_same, same_upd hD⟩
  · rintro i σ H hi ⟨z, rfl, _, s⟩
    exact hgo i H hi s
  · rintro σ H ⟨z, rfl, _, s⟩
    exact hst H s
  · rintro i x σ H H2 hi ⟨z, rfl, hd, s⟩ hyl N N0 hN hN0
    obtain ⟨rfl, rfl⟩ := hy i x H H2 hi s hyl
    have tk : (l.take (i + 1)).filter p = (l.take i).filter p ++ [l[i]].filter p := by rw [List.take_succ_eq_append_getElem hi, List.filter_append]
    have le : (((l.take i).filter p).map f).length < sizeLine := by
      rw [List.length_map]
      have := List.length_filter_le p (l.take i)
      rw [List.length_take] at this
      omega
    refine step _ (List.getElem_mem hi) H2 (fun v H5 => N v (some (φ l[i]) :: τ) H5) (fun H4 => N0 (some (φ l[i]) :: τ) H4) s (fun H4 s4 hp => ?_) (fun H4 s4 hp => ?_)
    · refine hN _ _ H4 _ (s4 _ _ hd) le ⟨_, rfl, ?_, (SameX.upd (Same.x (s.trans s4))).same hD⟩
      rw [upd_same, tk, List.filter_cons_of_pos hp, List.map_append]
      rfl
    · refine hN0 _ H4 ⟨_, rfl, ?_, s.trans s4⟩
      rw [s4 _ _ hd, tk, List.filter_cons_of_neg (by rw [hp]; exact Bool.false_ne_true), List.filter_nil, List.append_nil]
  · rintro σ H ⟨z, rfl, hd, s⟩
    rw [List.take_length] at hd
    exact fin H hd s
theorem comp_selWL {α : Type} {K : PySem.W.Frag} {a D : Addr} {tt : TT} {te : TE} {τ : St} {H0 : Hp} {Q : VK} (l : List α) (φ : α → V) (p : α → Bool) (f : α → V) (hD : H0 D = none) (hq : SqL K H0 a (l.map φ)) (hz : l.length ≤ sizeLine)
    (step : ∀ x ∈ l, ∀ H (N : V → Hp → Prop) (N0 : Hp → Prop), Same H0 H → (∀ H4, Same H H4 → p x = true → N (f x) H4) → (∀ H4, Same H H4 → p x = false → N0 H4) → tt (some (φ x) :: τ) H fun c H4 => if c = true then te (some (φ x) :: τ) H4 N else N0 H4)
    (fin : ∀ H', H' D = some (.lst ((l.filter p).map f)) → Same H0 H' → Q (.ref D) H') : CompW (Itl K a) D (gName 0) tt te (none :: τ) H0 Q := by
  refine comp_selW l φ p f hD hz (fun i H hi s => ⟨_, φ l[i], s.seq hq, by rw [List.getElem?_map, List.getElem?_eq_getElem hi]; rfl⟩) (fun H s => ⟨_, s.seq hq, by rw [List.length_map]; exact Nat.le_refl _⟩) (fun i x H H2 hi s hyl => ?_) step fin
  obtain ⟨rfl, hx⟩ := hyl
  have e := hx _ (s.seq hq)
  rw [List.getElem?_map, List.getElem?_eq_getElem hi] at e
  exact ⟨rfl, (Option.some.inj e).symm⟩
theorem comp_selML {α : Type} {K : PySem.W.Frag} {a D : Addr} {te : TE} {τ : St} {H0 : Hp} {Q : VK} (l : List α) (φ : α → V) (f : α → V) (hD : H0 D = none) (hq : SqL K H0 a (l.map φ)) (hz : l.length ≤ sizeLine)
    (step : ∀ x ∈ l, ∀ H (N : V → Hp → Prop), Same H0 H → (∀ H4, Same H H4 → N (f x) H4) → te (some (φ x) :: τ) H N)
    (fin : ∀ H', H' D = some (.lst (l.map f)) → Same H0 H' → Q (.ref D) H') : CompL (Itl K a) D (gName 0) tTrue te (none :: τ) H0 Q := by
  refine comp_selL l φ (fun _ => true) f hD hq hz (fun x hx H N N0 s h1 _ => ?_) (fun H' h s => fin H' (by rw [h, List.filter_eq_self.mpr (fun _ _ => rfl)]) s)
  exact tTrue_if (step x hx H N s fun H4 s4 => h1 H4 s4 rfl)
theorem comp_selMR {n : Nat} {D : Addr} {te : TE} {τ : St} {H0 : Hp} {Q : VK} (f : Nat → V) (hD : H0 D = none) (hz : n ≤ sizeLine)
    (step : ∀ k, k < n → ∀ H (N : V → Hp → Prop), Same H0 H → (∀ H4, Same H H4 → N (f k) H4) → te (some (.int (k : Nat)) :: τ) H N)
    (fin : ∀ H', H' D = some (.lst ((List.range n).map f)) → Same H0 H' → Q (.ref D) H') : CompL (Itr 0 n) D (gName 0) tTrue te (none :: τ) H0 Q := by
  refine comp_selR (fun _ => true) f hD hz (fun x hx H N N0 s h1 _ => ?_) (fun H' h s => fin H' (by rw [h, List.filter_eq_self.mpr (fun _ _ => rfl)]) s)
  exact tTrue_if (step x hx H N s fun H4 s4 => h1 H4 s4 rfl)
theorem comp_selWML {α : Type} {K : PySem.W.Frag} {a D : Addr} {te : TE} {τ : St} {H0 : Hp} {Q : VK} (l : List α) (φ : α → V) (f : α → V) (hD : H0 D = none) (hq : SqL K H0 a (l.map φ)) (hz : l.length ≤ sizeLine)
    (step : ∀ x ∈ l, ∀ H (N : V → Hp → Prop), Same H0 H → (∀ H4, Same H H4 → N (f x) H4) → te (some (φ x) :: τ) H N)
    (fin : ∀ H', H' D = some (.lst (l.map f)) → Same H0 H' → Q (.ref D) H') : CompW (Itl K a) D (gName 0) tTrue te (none :: τ) H0 Q := by
  refine comp_selWL l φ (fun _ => true) f hD hq hz (fun x hx H N N0 s h1 _ => ?_) (fun H' h s => fin H' (by rw [h, List.filter_eq_self.mpr (fun _ _ => rfl)]) s)
  exact tTrue_if (step x hx H N s fun H4 s4 => h1 H4 s4 rfl)
end L3

set_option Elab.async false
set_option linter.all false
set_option maxRecDepth 100000
set_option maxHeartbeats 4000000
namespace L3
open PySem PySem.Spec PyProof.Rows L2
/-! ### ties as plain functions -/
def goesB (d e : WD) (ps : List (List Int)) (i j : Int) : Bool := ((waysI d i).all fun x => (waysI e j).any fun y => decide ([x, y] ∈ ps)) && ((waysI e j).all fun y => (waysI d i).any fun x => decide ([x, y] ∈ ps))
def pairB (d e : WD) (ps : List (List Int)) : List Int → Bool
  | [i, j] => decide (sortS (signsI d i) = sortS (signsI e j)) && goesB d e ps i j
  | _ => false
def tieB (d e : WD) (ps : List (List Int)) : Bool := ps.all (pairB d e ps)
def TwOk (n m : Nat) (p : List Int) : Prop := ∃ i j : Nat, p = [(i : Int), (j : Int)] ∧ i < n ∧ j < m
def swapP : List Int → List Int
  | [i, j] => [j, i]
  | p => p
theorem TwOk.swap {n m : Nat} {p : List Int} (h : TwOk n m p) : TwOk m n (swapP p) := by
  obtain ⟨i, j, rfl, a, b⟩ := h
  exact ⟨j, i, rfl, b, a⟩
theorem mem_swap {n m : Nat} {ps : List (List Int)} (h : ∀ p ∈ ps, TwOk n m p) (x y : Int) : [y, x] ∈ ps.map swapP ↔ [x, y] ∈ ps := by
  rw [List.mem_map]
  constructor
  · rintro ⟨p, hp, e⟩
    obtain ⟨i, j, rfl, _, _⟩ := h p hp
    have e' : [(j : Int), (i : Int)] = [y, x] := e
    injection e' with e1 e2
    injection e2 with e2 _
    rw [← e1, ← e2]; exact hp
  · exact fun q => ⟨[x, y], q, rfl⟩
theorem goesB_swap {n m : Nat} {d e : WD} {ps : List (List Int)} (h : ∀ p ∈ ps, TwOk n m p) (i j : Int) : goesB e d (ps.map swapP) j i = goesB d e ps i j := by
  unfold goesB
  rw [Bool.and_comm]
  simp only [mem_swap h]
theorem tieB_swap {n m : Nat} {d e : WD} {ps : List (List Int)} (h : ∀ p ∈ ps, TwOk n m p) : tieB e d (ps.map swapP) = tieB d e ps := by
  unfold tieB
  rw [List.all_map]
  rw [Bool.eq_iff_iff, List.all_eq_true, List.all_eq_true]
  have one : ∀ p ∈ ps, (pairB e d (ps.map swapP) ∘ swapP) p = pairB d e ps p := fun p hp => by
    obtain ⟨i, j, rfl, _, _⟩ := h p hp
    show (decide (sortS (signsI e j) = sortS (signsI d i)) && goesB e d (ps.map swapP) j i) = (decide (sortS (signsI d i) = sortS (signsI e j)) && goesB d e ps i j)
    rw [goesB_swap h]
    congr 1
    exact decide_eq_decide.mpr ⟨Eq.symm, Eq.symm⟩
  exact ⟨fun q p hp => (one p hp) ▸ q p hp, fun q p hp => (one p hp).symm ▸ q p hp⟩
theorem all_sortI (ws : List Int) (f : Int → Bool) : (sortI ws).all f = ws.all f := by
  rw [Bool.eq_iff_iff, List.all_eq_true, List.all_eq_true]
  exact ⟨fun h x hx => h x ((sortI_perm ws).mem_iff.mpr hx), fun h x hx => h x ((sortI_perm ws).mem_iff.mp hx)⟩
theorem any_sortI (ws : List Int) (f : Int → Bool) : (sortI ws).any f = ws.any f := by
  rw [Bool.eq_iff_iff, List.any_eq_true, List.any_eq_true]
  exact ⟨fun ⟨x, hx, h⟩ => ⟨x, (sortI_perm ws).mem_iff.mp hx, h⟩, fun ⟨x, hx, h⟩ => ⟨x, (sortI_perm ws).mem_iff.mpr hx, h⟩⟩
theorem dPl_has (ps : List (List Int)) (p : List Int) : (valV (dPl ps) (keyP p)).isSome = decide (p ∈ ps) := by
  rw [← valV_any]
  unfold dPl
  induction ps with
  | nil => rfl
  | cons x r ih =>
    rw [List.map_cons, List.map_cons, List.any_cons, ih]
    by_cases h : x = p
    · subst h; simp
    · have h1 : ¬ keyP x = keyP p := fun e => h (keyP_inj e)
      have h2 : ¬ p = x := fun e => h e.symm
      simp [h1, h2]
theorem eqv_dS : ∀ a b : List Str, PyData.eqv (dS a) (dS b) = decide (a = b) := by
  have : ∀ p q : List Str, PyData.eqvAll (p.map PyData.str) (q.map PyData.str) = decide (p = q) := by
    intro p
    induction p with
    | nil => intro q; cases q with
      | nil => rfl
      | cons y s => rfl
    | cons x r ih => intro q; cases q with
      | nil => rfl
      | cons y s =>
        show (PyData.eqv (.str x) (.str y) && PyData.eqvAll (r.map PyData.str) (s.map PyData.str)) = _
        rw [ih]
        show ((x == y) && decide (r = s)) = _
        by_cases h : x = y
        · subst h; simp
        · have : (x == y) = false := by simpa using h
          rw [this]; simp [h]
  exact fun p q => this p q
/-- a pair's filter: what goes on -/
def keepB (d e : WD) (ps : List (List Int)) : List Int → Bool
  | [i, j] => goesB d e ps i j
  | _ => false
/-- the pairs of a list, each with what it is -/
def PZ (H : Hp) (z : List (V × List Int)) : Prop := ∀ x ∈ z, ∃ b, x.1 = .ref b ∧ H b = some (.tup (x.2.map V.int))
theorem PZ.mono {H H' : Hp} {z : List (V × List Int)} (s : ∀ b xs, H b = some (.tup xs) → H' b = some (.tup xs)) (h : PZ H z) : PZ H' z := fun x hx => let ⟨b, e, g⟩ := h x hx; ⟨b, e, s _ _ g⟩
theorem PZ.same {H H' : Hp} {z : List (V × List Int)} (s : Same H H') (h : PZ H z) : PZ H' z := h.mono fun b xs e => s _ _ e
theorem PZ.at {H : Hp} {z : List (V × List Int)} (h : PZ H z) : PlsAt H (z.map Prod.fst) (z.map Prod.snd) := by
  refine ⟨by rw [List.length_map, List.length_map], fun i v p h1 h2 => ?_⟩
  rw [List.getElem?_map] at h1 h2
  cases e : z[i]? with
  | none => rw [e] at h1; cases h1
  | some x =>
    rw [e] at h1 h2
    cases h1; cases h2
    exact h x (List.mem_of_getElem? e)
theorem PZ.sub {H : Hp} {z y : List (V × List Int)} (h : PZ H z) (s : ∀ x ∈ y, x ∈ z) : PZ H y := fun x hx => h x (s x hx)
theorem PZ.app {H : Hp} {z y : List (V × List Int)} (h : PZ H z) (g : PZ H y) : PZ H (z ++ y) := fun x hx => (List.mem_append.mp hx).elim (h x) (g x)
theorem PZ.one {H : Hp} {b : Addr} {p : List Int} (g : H b = some (.tup (p.map V.int))) : PZ H [(.ref b, p)] := fun x hx => by
  cases List.mem_singleton.mp hx; exact ⟨b, rfl, g⟩
theorem PZ.nil {H : Hp} : PZ H [] := fun x hx => by cases hx
theorem goesB_congr {d e : WD} {ps qs : List (List Int)} (h : ∀ p, p ∈ ps ↔ p ∈ qs) (i j : Int) : goesB d e ps i j = goesB d e qs i j := by
  unfold goesB; simp only [h]
theorem pairB_congr {d e : WD} {ps qs : List (List Int)} (h : ∀ p, p ∈ ps ↔ p ∈ qs) (p : List Int) : pairB d e ps p = pairB d e qs p := by
  unfold pairB
  split
  · rw [goesB_congr h]
  · rfl
end L3

set_option Elab.async false
set_option linter.all false
set_option maxRecDepth 100000
set_option maxHeartbeats 4000000
namespace L3
open PySem PySem.Spec PyProof.Rows L2
/-! ### lists of lists, each with what it is; two lists that grow side by side -/
def ZL {α : Type} (r : Hp → V → α → Prop) (H : Hp) (z : List (V × α)) : Prop := ∀ x ∈ z, r H x.1 x.2
theorem ZL.ll {α : Type} {r : Hp → V → α → Prop} {H : Hp} {a : Addr} {z : List (V × α)} (h : H a = some (.lst (z.map Prod.fst))) (q : ZL r H z) : LL r H (.ref a) (z.map Prod.snd) := by
  refine ⟨a, _, rfl, h, by rw [List.length_map, List.length_map], fun i v p h1 h2 => ?_⟩
  rw [List.getElem?_map] at h1 h2
  cases e : z[i]? with
  | none => rw [e] at h1; cases h1
  | some x =>
    rw [e] at h1 h2
    cases h1; cases h2
    exact q x (List.mem_of_getElem? e)
theorem LL.z {α : Type} {r : Hp → V → α → Prop} {H : Hp} {v : V} {xs : List α} (h : LL r H v xs) : ∃ a z, v = .ref a ∧ H a = some (.lst (z.map Prod.fst)) ∧ z.map Prod.snd = xs ∧ ZL r H z := by
  obtain ⟨a, vs, rfl, e, l, q⟩ := h
  refine ⟨a, vs.zip xs, rfl, by rw [e, List.map_fst_zip (by omega)], List.map_snd_zip (by omega), fun x hx => ?_⟩
  obtain ⟨i, hi, rfl⟩ := List.getElem_of_mem hx
  rw [List.length_zip] at hi
  rw [List.getElem_zip]
  exact q i _ _ (List.getElem?_eq_getElem (by omega)) (List.getElem?_eq_getElem (by omega))
theorem ZL.mono {α : Type} {r : Hp → V → α → Prop} (m : Mon r) {H H' : Hp} {z : List (V × α)} (s : Same H H') (q : ZL r H z) : ZL r H' z := fun x hx => m _ _ _ _ s (q x hx)
theorem ZL.app {α : Type} {r : Hp → V → α → Prop} {H : Hp} {z y : List (V × α)} (h : ZL r H z) (g : ZL r H y) : ZL r H (z ++ y) := fun x hx => (List.mem_append.mp hx).elim (h x) (g x)
theorem ZL.one {α : Type} {r : Hp → V → α → Prop} {H : Hp} {v : V} {x : α} (g : r H v x) : ZL r H [(v, x)] := fun y hy => by cases List.mem_singleton.mp hy; exact g
theorem ZL.nil {α : Type} {r : Hp → V → α → Prop} {H : Hp} : ZL r H ([] : List (V × α)) := fun x hx => by cases hx
def Same2 (S W : Addr) (G G' : Hp) : Prop := ∀ b o, b ≠ S → b ≠ W → G b = some o → G' b = some o
theorem Same2.trans {S W : Addr} {G G1 G2 : Hp} (a : Same2 S W G G1) (b : Same2 S W G1 G2) : Same2 S W G G2 := fun c o n m e => b c o n m (a c o n m e)
theorem Same.two {S W : Addr} {G G' : Hp} (h : Same G G') : Same2 S W G G' := fun b o _ _ e => h b o e
theorem Same2.upd1 {S W : Addr} {G G' : Hp} {o : HO} (h : Same2 S W G G') : Same2 S W G (upd G' S o) := fun b u n m e => by rw [upd_ne n]; exact h b u n m e
theorem Same2.upd2 {S W : Addr} {G G' : Hp} {o : HO} (h : Same2 S W G G') : Same2 S W G (upd G' W o) := fun b u n m e => by rw [upd_ne m]; exact h b u n m e
theorem Same2.same {S W : Addr} {G G' : Hp} (h : Same2 S W G G') (hS : G S = none) (hW : G W = none) : Same G G' := fun b o e => h b o (ne_of_none e hS) (ne_of_none e hW) e
def hid2 (S W : Addr) (H : Hp) : Hp := hide S (hide W H)
theorem hid2_sub {S W : Addr} {H : Hp} : Same (hid2 S W H) H := fun b o h => hide_sub _ _ (hide_sub _ _ h)
theorem hid2_mk {S W b : Addr} {H : Hp} {o : HO} (n : b ≠ S) (m : b ≠ W) (h : H b = some o) : hid2 S W H b = some o := hide_mk n (hide_mk m h)
theorem Same2.new {S W : Addr} {H G G' : Hp} (h : Same2 S W G G') : Same (hid2 S W (New H G)) (hid2 S W (New H G')) := fun b o e => by
  obtain ⟨n, e⟩ := hide_some e
  obtain ⟨m, e⟩ := hide_some e
  obtain ⟨h1, h2⟩ := New.of e
  exact hid2_mk n m (New.mk h1 (h b o n m h2))
theorem cutV_upto (xs : List V) (k : Nat) : cutV xs none (some (k : Int)) = xs.take k := by
  by_cases h : k ≤ xs.length
  · exact cutV_to xs k h
  · unfold cutV
    rw [HT.sIx_nat, HT.sIx_none, Nat.min_eq_right (by omega), List.take_of_length_le (by omega : xs.length ≤ k)]
    simp
theorem pick3 (p : Nat → Bool) : ∃ ss : List Str, ((List.range 3).filter p).map (fun j => V.str ((["zeta", "b", "am"] : List Str).getD j "")) = ss.map V.str ∧ ss.Sublist ["zeta", "b", "am"] := by
  refine ⟨((List.range 3).filter p).map (fun j => (["zeta", "b", "am"] : List Str).getD j ""), by rw [List.map_map]; rfl, ?_⟩
  exact (List.filter_sublist (l := List.range 3) (p := p)).map (fun j => (["zeta", "b", "am"] : List Str).getD j "")
theorem names3 : (∀ x ∈ (["zeta", "b", "am"] : List Str), isNameS x = true) ∧ (["zeta", "b", "am"] : List Str).Nodup := by decide +kernel
theorem nodup_len_le {l : List Int} {M : Nat} (nd : l.Nodup) (h : ∀ y ∈ l, 0 ≤ y ∧ y < (M : Nat)) : l.length ≤ M := by
  have h1 : (l.map Int.toNat).Nodup := by
    unfold List.Nodup
    rw [List.pairwise_map]
    refine List.Pairwise.imp_of_mem (fun {a b} ha hb n e => n ?_) nd
    have := h a ha
    have := h b hb
    omega
  have h2 := nodup_lenN (l₂ := List.range M) h1 fun x hx => by
    obtain ⟨y, hy, rfl⟩ := List.mem_map.mp hx
    have := h y hy
    exact List.mem_range.mpr (by omega)
  rw [List.length_map, List.length_range] at h2
  exact h2
/-- small: what these laws make -/
structure Small (n m : Nat) (d : WD) : Prop where
  g : Good d
  n : d.signs.length ≤ n
  s : ∀ ss ∈ d.signs, ss.length ≤ m
end L3

set_option Elab.async false
set_option linter.all false
set_option maxRecDepth 100000
set_option maxHeartbeats 8000000
namespace KK
open PySem PySem.Spec L2 L3
def top (i : Nat) : Stmt := PySem.Challenge.pw_timecourt_k66_ties_looked_at.main.body.getD i (.Pass ⟨0, 0, 0, 0⟩)
abbrev s_is_whole : Stmt := top 4
abbrev s_is_name : Stmt := top 5
abbrev s_is_room : Stmt := top 6
abbrev s_are_names : Stmt := top 7
abbrev s_are_rooms : Stmt := top 8
abbrev s_is_tie : Stmt := top 13
abbrev s_is_pair : Stmt := top 14
abbrev s_is_tied : Stmt := top 15
abbrev s_World_init : Stmt := inClass (top 19) 0
abbrev s_World_many : Stmt := inClass (top 19) 1
abbrev s_World_signs_of : Stmt := inClass (top 19) 2
abbrev s_World_ways_on : Stmt := inClass (top 19) 3
abbrev s_World_begins : Stmt := inClass (top 19) 4
abbrev s_World_fair_signs : Stmt := inClass (top 19) 5
abbrev s_makes_world : Stmt := top 20
abbrev s_are_some_rooms : Stmt := top 21
abbrev s__law_cell_at : Stmt := top 23
abbrev s__law_stream : Stmt := top 24
abbrev s__law_some : Stmt := top 25
abbrev s__law_lists : Stmt := top 26
abbrev s__law_twin : Stmt := top 27
abbrev s__law_made : Stmt := top 28
abbrev s__law_turned : Stmt := top 29
abbrev s__law_two : Stmt := top 30
abbrev s__law_tied : Stmt := top 31
abbrev s__law_goes_on : Stmt := top 32
abbrev s__law_pairs : Stmt := top 33
abbrev s__law_is_tie : Stmt := top 34
abbrev s__law_each_alone : Stmt := top 35
abbrev s_law : Stmt := top 36
theorem sc_is_whole : FnScope ["thing"] ["thing"] (defScope s_is_whole) := ⟨rfl, rfl, rfl, by decide +kernel, rfl, by decide +kernel, by decide +kernel⟩
theorem sc_is_name : FnScope ["thing"] ["thing"] (defScope s_is_name) := ⟨rfl, rfl, rfl, by decide +kernel, rfl, by decide +kernel, by decide +kernel⟩
theorem sc_is_room : FnScope ["thing", "many"] ["thing", "many"] (defScope s_is_room) := ⟨rfl, rfl, rfl, by decide +kernel, rfl, by decide +kernel, by decide +kernel⟩
theorem sc_are_names : FnScope ["thing"] ["thing"] (defScope s_are_names) := ⟨rfl, rfl, rfl, by decide +kernel, rfl, by decide +kernel, by decide +kernel⟩
theorem sc_are_rooms : FnScope ["thing", "many"] ["thing", "many"] (defScope s_are_rooms) := ⟨rfl, rfl, rfl, by decide +kernel, rfl, by decide +kernel, by decide +kernel⟩
theorem sc_is_tie : FnScope ["one", "other", "pairs", "tied"] ["one", "other", "pairs"] (defScope s_is_tie) := ⟨rfl, rfl, rfl, by decide +kernel, rfl, by decide +kernel, by decide +kernel⟩
theorem sc_is_pair : FnScope ["one", "other", "thing"] ["one", "other", "thing"] (defScope s_is_pair) := ⟨rfl, rfl, rfl, by decide +kernel, rfl, by decide +kernel, by decide +kernel⟩
theorem sc_is_tied : FnScope ["one", "other", "tied", "pair", "here", "there", "mine", "yours"] ["one", "other", "tied", "pair"] (defScope s_is_tied) := ⟨rfl, rfl, rfl, by decide +kernel, rfl, by decide +kernel, by decide +kernel⟩
theorem sc_World_init : FnScope ["self", "signs", "ways", "starts", "fair"] ["self", "signs", "ways", "starts", "fair"] (defScope s_World_init) := ⟨rfl, rfl, rfl, by decide +kernel, rfl, by decide +kernel, by decide +kernel⟩
theorem sc_World_many : FnScope ["self"] ["self"] (defScope s_World_many) := ⟨rfl, rfl, rfl, by decide +kernel, rfl, by decide +kernel, by decide +kernel⟩
theorem sc_World_signs_of : FnScope ["self", "room"] ["self", "room"] (defScope s_World_signs_of) := ⟨rfl, rfl, rfl, by decide +kernel, rfl, by decide +kernel, by decide +kernel⟩
theorem sc_World_ways_on : FnScope ["self", "room"] ["self", "room"] (defScope s_World_ways_on) := ⟨rfl, rfl, rfl, by decide +kernel, rfl, by decide +kernel, by decide +kernel⟩
theorem sc_World_begins : FnScope ["self"] ["self"] (defScope s_World_begins) := ⟨rfl, rfl, rfl, by decide +kernel, rfl, by decide +kernel, by decide +kernel⟩
theorem sc_World_fair_signs : FnScope ["self"] ["self"] (defScope s_World_fair_signs) := ⟨rfl, rfl, rfl, by decide +kernel, rfl, by decide +kernel, by decide +kernel⟩
theorem sc_makes_world : FnScope ["signs", "ways", "starts", "fair", "many"] ["signs", "ways", "starts", "fair"] (defScope s_makes_world) := ⟨rfl, rfl, rfl, by decide +kernel, rfl, by decide +kernel, by decide +kernel⟩
theorem sc_are_some_rooms : FnScope ["thing", "many"] ["thing", "many"] (defScope s_are_some_rooms) := ⟨rfl, rfl, rfl, by decide +kernel, rfl, by decide +kernel, by decide +kernel⟩
theorem sc__law_cell_at : FnScope ["_law_script", "_law_k"] ["_law_script", "_law_k"] (defScope s__law_cell_at) := ⟨rfl, rfl, rfl, by decide +kernel, rfl, by decide +kernel, by decide +kernel⟩
theorem sc__law_stream : FnScope ["_law_cell", "_law_many", "_law_found", "_law_rest", "_law_number", "_law_other", "_law_k"] ["_law_cell", "_law_many"] (defScope s__law_stream) := ⟨rfl, rfl, rfl, by decide +kernel, rfl, by decide +kernel, by decide +kernel⟩
theorem sc__law_some : FnScope ["_law_xs", "_law_most", "_law_found"] ["_law_xs", "_law_most"] (defScope s__law_some) := ⟨rfl, rfl, rfl, by decide +kernel, rfl, by decide +kernel, by decide +kernel⟩
theorem sc__law_lists : FnScope ["_law_cell", "_law_most", "_law_names", "_law_xs", "_law_many", "_law_signs", "_law_ways", "_law_k", "_law_first", "_law_more", "_law_starts", "_law_fair"] ["_law_cell", "_law_most"] (defScope s__law_lists) := ⟨rfl, rfl, rfl, by decide +kernel, rfl, by decide +kernel, by decide +kernel⟩
theorem sc__law_twin : FnScope ["_law_lists_here", "_law_cell", "_law_more", "_law_signs", "_law_ways", "_law_starts", "_law_fair", "_law_many", "_law_xs", "_law_rooms", "_law_cut", "_law_copies", "_law_found", "_law_at", "_law_room", "_law_after", "_law_other", "_law_picks", "_law_begins", "_law_start"] ["_law_lists_here", "_law_cell", "_law_more"] (defScope s__law_twin) := ⟨rfl, rfl, rfl, by decide +kernel, rfl, by decide +kernel, by decide +kernel⟩
theorem sc__law_made : FnScope ["_law_lists_here", "_law_signs", "_law_ways", "_law_starts", "_law_fair"] ["_law_lists_here"] (defScope s__law_made) := ⟨rfl, rfl, rfl, by decide +kernel, rfl, by decide +kernel, by decide +kernel⟩
theorem sc__law_turned : FnScope ["_law_lists_here", "_law_cell", "_law_signs", "_law_ways", "_law_starts", "_law_fair", "_law_room", "_law_name", "_law_far"] ["_law_lists_here", "_law_cell"] (defScope s__law_turned) := ⟨rfl, rfl, rfl, by decide +kernel, rfl, by decide +kernel, by decide +kernel⟩
theorem sc__law_two : FnScope ["_law_script", "_law_most", "_law_more", "_law_one", "_law_way", "_law_other"] ["_law_script", "_law_most", "_law_more"] (defScope s__law_two) := ⟨rfl, rfl, rfl, by decide +kernel, rfl, by decide +kernel, by decide +kernel⟩
theorem sc__law_tied : FnScope ["_law_one", "_law_other", "_law_pairs_here", "_law_room", "_law_far", "_law_left"] ["_law_one", "_law_other"] (defScope s__law_tied) := ⟨rfl, rfl, rfl, by decide +kernel, rfl, by decide +kernel, by decide +kernel⟩
theorem sc__law_goes_on : FnScope ["_law_one", "_law_other", "_law_pair", "_law_pairs_here", "_law_room", "_law_far", "_law_after", "_law_later"] ["_law_one", "_law_other", "_law_pair", "_law_pairs_here"] (defScope s__law_goes_on) := ⟨rfl, rfl, rfl, by decide +kernel, rfl, by decide +kernel, by decide +kernel⟩
theorem sc__law_pairs : FnScope ["_law_one", "_law_other", "_law_cell", "_law_xs", "_law_pairs_here", "_law_way", "_law_every", "_law_room"] ["_law_one", "_law_other", "_law_cell"] (defScope s__law_pairs) := ⟨rfl, rfl, rfl, by decide +kernel, rfl, by decide +kernel, by decide +kernel⟩
theorem sc__law_is_tie : FnScope ["_law_one", "_law_other", "_law_pairs_here", "_law_room", "_law_far"] ["_law_one", "_law_other", "_law_pairs_here"] (defScope s__law_is_tie) := ⟨rfl, rfl, rfl, by decide +kernel, rfl, by decide +kernel, by decide +kernel⟩
theorem sc__law_each_alone : FnScope ["_law_one", "_law_cell", "_law_signs", "_law_ways", "_law_other", "_law_pairs_here", "_law_found"] ["_law_one", "_law_cell"] (defScope s__law_each_alone) := ⟨rfl, rfl, rfl, by decide +kernel, rfl, by decide +kernel, by decide +kernel⟩
theorem sc_law : FnScope ["_law_script", "_law_one", "_law_other", "_law_first", "_law_second", "_law_cell", "_law_pairs_here", "_law_handed", "_law_found", "_law_back"] ["_law_script"] (defScope s_law) := ⟨rfl, rfl, rfl, by decide +kernel, rfl, by decide +kernel, by decide +kernel⟩
structure Adr where
  is_whole : Addr
  is_whole_fd : FuncData
  is_name : Addr
  is_name_fd : FuncData
  is_room : Addr
  is_room_fd : FuncData
  are_names : Addr
  are_names_fd : FuncData
  are_rooms : Addr
  are_rooms_fd : FuncData
  is_tie : Addr
  is_tie_fd : FuncData
  is_pair : Addr
  is_pair_fd : FuncData
  is_tied : Addr
  is_tied_fd : FuncData
  World_init : Addr
  World_init_fd : FuncData
  World_many : Addr
  World_many_fd : FuncData
  World_signs_of : Addr
  World_signs_of_fd : FuncData
  World_ways_on : Addr
  World_ways_on_fd : FuncData
  World_begins : Addr
  World_begins_fd : FuncData
  World_fair_signs : Addr
  World_fair_signs_fd : FuncData
  makes_world : Addr
  makes_world_fd : FuncData
  are_some_rooms : Addr
  are_some_rooms_fd : FuncData
  _law_cell_at : Addr
  _law_cell_at_fd : FuncData
  _law_stream : Addr
  _law_stream_fd : FuncData
  _law_some : Addr
  _law_some_fd : FuncData
  _law_lists : Addr
  _law_lists_fd : FuncData
  _law_twin : Addr
  _law_twin_fd : FuncData
  _law_made : Addr
  _law_made_fd : FuncData
  _law_turned : Addr
  _law_turned_fd : FuncData
  _law_two : Addr
  _law_two_fd : FuncData
  _law_tied : Addr
  _law_tied_fd : FuncData
  _law_goes_on : Addr
  _law_goes_on_fd : FuncData
  _law_pairs : Addr
  _law_pairs_fd : FuncData
  _law_is_tie : Addr
  _law_is_tie_fd : FuncData
  _law_each_alone : Addr
  _law_each_alone_fd : FuncData
  law : Addr
  law_fd : FuncData
  C_TimeError : Addr
  C_BadWorld : Addr
  C_World : Addr
  Pm : Params
structure Txt (K : PySem.W.Frag) (mg : Str → Option Value) (a : Adr) : Prop where
  f_is_whole : Fun K "is_whole" "is_whole" s_is_whole a.is_whole a.is_whole_fd
  n_is_whole : Binds K a.is_whole_fd ["thing"] []
  g_is_whole : mg "is_whole" = some (.ref a.is_whole)
  f_is_name : Fun K "is_name" "is_name" s_is_name a.is_name a.is_name_fd
  n_is_name : Binds K a.is_name_fd ["thing"] []
  g_is_name : mg "is_name" = some (.ref a.is_name)
  f_is_room : Fun K "is_room" "is_room" s_is_room a.is_room a.is_room_fd
  n_is_room : Binds K a.is_room_fd ["thing", "many"] []
  g_is_room : mg "is_room" = some (.ref a.is_room)
  f_are_names : Fun K "are_names" "are_names" s_are_names a.are_names a.are_names_fd
  n_are_names : Binds K a.are_names_fd ["thing"] []
  g_are_names : mg "are_names" = some (.ref a.are_names)
  f_are_rooms : Fun K "are_rooms" "are_rooms" s_are_rooms a.are_rooms a.are_rooms_fd
  n_are_rooms : Binds K a.are_rooms_fd ["thing", "many"] []
  g_are_rooms : mg "are_rooms" = some (.ref a.are_rooms)
  f_is_tie : Fun K "is_tie" "is_tie" s_is_tie a.is_tie a.is_tie_fd
  n_is_tie : Binds K a.is_tie_fd ["one", "other", "pairs"] []
  g_is_tie : mg "is_tie" = some (.ref a.is_tie)
  f_is_pair : Fun K "is_pair" "is_pair" s_is_pair a.is_pair a.is_pair_fd
  n_is_pair : Binds K a.is_pair_fd ["one", "other", "thing"] []
  g_is_pair : mg "is_pair" = some (.ref a.is_pair)
  f_is_tied : Fun K "is_tied" "is_tied" s_is_tied a.is_tied a.is_tied_fd
  n_is_tied : Binds K a.is_tied_fd ["one", "other", "tied", "pair"] []
  g_is_tied : mg "is_tied" = some (.ref a.is_tied)
  f_World_init : Fun K "__init__" "World.__init__" s_World_init a.World_init a.World_init_fd
  n_World_init : Binds K a.World_init_fd ["self", "signs", "ways", "starts", "fair"] []
  m_World_init : Meth K a.C_World "__init__" a.World_init
  f_World_many : Fun K "many" "World.many" s_World_many a.World_many a.World_many_fd
  n_World_many : Binds K a.World_many_fd ["self"] []
  m_World_many : Meth K a.C_World "many" a.World_many
  f_World_signs_of : Fun K "signs_of" "World.signs_of" s_World_signs_of a.World_signs_of a.World_signs_of_fd
  n_World_signs_of : Binds K a.World_signs_of_fd ["self", "room"] []
  m_World_signs_of : Meth K a.C_World "signs_of" a.World_signs_of
  f_World_ways_on : Fun K "ways_on" "World.ways_on" s_World_ways_on a.World_ways_on a.World_ways_on_fd
  n_World_ways_on : Binds K a.World_ways_on_fd ["self", "room"] []
  m_World_ways_on : Meth K a.C_World "ways_on" a.World_ways_on
  f_World_begins : Fun K "begins" "World.begins" s_World_begins a.World_begins a.World_begins_fd
  n_World_begins : Binds K a.World_begins_fd ["self"] []
  m_World_begins : Meth K a.C_World "begins" a.World_begins
  f_World_fair_signs : Fun K "fair_signs" "World.fair_signs" s_World_fair_signs a.World_fair_signs a.World_fair_signs_fd
  n_World_fair_signs : Binds K a.World_fair_signs_fd ["self"] []
  m_World_fair_signs : Meth K a.C_World "fair_signs" a.World_fair_signs
  f_makes_world : Fun K "makes_world" "makes_world" s_makes_world a.makes_world a.makes_world_fd
  n_makes_world : Binds K a.makes_world_fd ["signs", "ways", "starts", "fair"] []
  g_makes_world : mg "makes_world" = some (.ref a.makes_world)
  f_are_some_rooms : Fun K "are_some_rooms" "are_some_rooms" s_are_some_rooms a.are_some_rooms a.are_some_rooms_fd
  n_are_some_rooms : Binds K a.are_some_rooms_fd ["thing", "many"] []
  g_are_some_rooms : mg "are_some_rooms" = some (.ref a.are_some_rooms)
  f__law_cell_at : Fun K "_law_cell_at" "_law_cell_at" s__law_cell_at a._law_cell_at a._law_cell_at_fd
  n__law_cell_at : Binds K a._law_cell_at_fd ["_law_script", "_law_k"] []
  g__law_cell_at : mg "_law_cell_at" = some (.ref a._law_cell_at)
  f__law_stream : Fun K "_law_stream" "_law_stream" s__law_stream a._law_stream a._law_stream_fd
  n__law_stream : Binds K a._law_stream_fd ["_law_cell", "_law_many"] []
  g__law_stream : mg "_law_stream" = some (.ref a._law_stream)
  f__law_some : Fun K "_law_some" "_law_some" s__law_some a._law_some a._law_some_fd
  n__law_some : Binds K a._law_some_fd ["_law_xs", "_law_most"] []
  g__law_some : mg "_law_some" = some (.ref a._law_some)
  f__law_lists : Fun K "_law_lists" "_law_lists" s__law_lists a._law_lists a._law_lists_fd
  n__law_lists : Binds K a._law_lists_fd ["_law_cell", "_law_most"] []
  g__law_lists : mg "_law_lists" = some (.ref a._law_lists)
  f__law_twin : Fun K "_law_twin" "_law_twin" s__law_twin a._law_twin a._law_twin_fd
  n__law_twin : Binds K a._law_twin_fd ["_law_lists_here", "_law_cell", "_law_more"] []
  g__law_twin : mg "_law_twin" = some (.ref a._law_twin)
  f__law_made : Fun K "_law_made" "_law_made" s__law_made a._law_made a._law_made_fd
  n__law_made : Binds K a._law_made_fd ["_law_lists_here"] []
  g__law_made : mg "_law_made" = some (.ref a._law_made)
  f__law_turned : Fun K "_law_turned" "_law_turned" s__law_turned a._law_turned a._law_turned_fd
  n__law_turned : Binds K a._law_turned_fd ["_law_lists_here", "_law_cell"] []
  g__law_turned : mg "_law_turned" = some (.ref a._law_turned)
  f__law_two : Fun K "_law_two" "_law_two" s__law_two a._law_two a._law_two_fd
  n__law_two : Binds K a._law_two_fd ["_law_script", "_law_most", "_law_more"] []
  g__law_two : mg "_law_two" = some (.ref a._law_two)
  f__law_tied : Fun K "_law_tied" "_law_tied" s__law_tied a._law_tied a._law_tied_fd
  n__law_tied : Binds K a._law_tied_fd ["_law_one", "_law_other"] []
  g__law_tied : mg "_law_tied" = some (.ref a._law_tied)
  f__law_goes_on : Fun K "_law_goes_on" "_law_goes_on" s__law_goes_on a._law_goes_on a._law_goes_on_fd
  n__law_goes_on : Binds K a._law_goes_on_fd ["_law_one", "_law_other", "_law_pair", "_law_pairs_here"] []
  g__law_goes_on : mg "_law_goes_on" = some (.ref a._law_goes_on)
  f__law_pairs : Fun K "_law_pairs" "_law_pairs" s__law_pairs a._law_pairs a._law_pairs_fd
  n__law_pairs : Binds K a._law_pairs_fd ["_law_one", "_law_other", "_law_cell"] []
  g__law_pairs : mg "_law_pairs" = some (.ref a._law_pairs)
  f__law_is_tie : Fun K "_law_is_tie" "_law_is_tie" s__law_is_tie a._law_is_tie a._law_is_tie_fd
  n__law_is_tie : Binds K a._law_is_tie_fd ["_law_one", "_law_other", "_law_pairs_here"] []
  g__law_is_tie : mg "_law_is_tie" = some (.ref a._law_is_tie)
  f__law_each_alone : Fun K "_law_each_alone" "_law_each_alone" s__law_each_alone a._law_each_alone a._law_each_alone_fd
  n__law_each_alone : Binds K a._law_each_alone_fd ["_law_one", "_law_cell"] []
  g__law_each_alone : mg "_law_each_alone" = some (.ref a._law_each_alone)
  f_law : Fun K "law" "law" s_law a.law a.law_fd
  n_law : Binds K a.law_fd ["_law_script"] []
  g_law : mg "law" = some (.ref a.law)
  b_ValueError : mg "ValueError" = none
  b_all : mg "all" = none
  b_len : mg "len" = none
  b_range : mg "range" = none
  b_isinstance : mg "isinstance" = none
  b_int : mg "int" = none
  b_list : mg "list" = none
  b_tuple : mg "tuple" = none
  b_bool : mg "bool" = none
  b_str : mg "str" = none
  b_set : mg "set" = none
  b_any : mg "any" = none
  b_sorted : mg "sorted" = none
  c_LETTERS : ∃ u, mg "LETTERS" = some u ∧ RelV (.str "abcdefghijklmnopqrstuvwxyz") u
  c_MOST_LETTERS : ∃ u, mg "MOST_LETTERS" = some u ∧ RelV (.int 8) u
  c_MOST_ROOMS : ∃ u, mg "MOST_ROOMS" = some u ∧ RelV (.int 20) u
  c_MOST_FAIR : ∃ u, mg "MOST_FAIR" = some u ∧ RelV (.int 3) u
  g_TimeError : mg "TimeError" = some (.ref a.C_TimeError)
  x_TimeError : PySem.W.excIn K a.C_TimeError [.type "ValueError", .type "Exception", .type "BaseException", .type "object"] "ValueError.__new__" = true
  g_BadWorld : mg "BadWorld" = some (.ref a.C_BadWorld)
  x_BadWorld : PySem.W.excIn K a.C_BadWorld [.type "ValueError", .type "Exception", .type "BaseException", .type "object"] "ValueError.__new__" = true
  k_BadWorld : ExcK K a.C_BadWorld
  cl_World : Cls K a.C_World
  g_World : mg "World" = some (.ref a.C_World)
  mk_World : Mk K a.C_World a.World_init
  na_World_room_signs : NoAttr K a.C_World "room_signs"
  na_World_room_ways : NoAttr K a.C_World "room_ways"
  na_World_start_rooms : NoAttr K a.C_World "start_rooms"
  na_World_fair_names : NoAttr K a.C_World "fair_names"
end KK

set_option Elab.async false
set_option linter.all false
set_option maxRecDepth 100000
set_option maxHeartbeats 8000000
namespace KK
open PySem PySem.Spec L2 L3
def sp_is_whole (K : PySem.W.Frag) (a : Adr) : Sp := fun vs H Q _ => ∃ x, vs = [x] ∧ Kd H x ∧ Q (.bl (isIntV x)) H
theorem ok_is_whole {P : Program} {w : World} {K : PySem.W.Frag} {mg : Str → Option Value} {base : Heap} {a : Adr} (T : Txt K mg a) (hw : w.params = a.Pm) : FnOk P w K mg base CX0 1 a.is_whole a.is_whole_fd ["thing"] (sp_is_whole K a) := by
  refine T.f_is_whole.ok sc_is_whole (fun vs H Q E h => ?_) (fun cdv A outer s H vs Q E hr h => ?_)
  · obtain ⟨x, rfl, _⟩ := h
    rfl
  · obtain ⟨x, rfl, hk, k⟩ := h
    refine ⟨_, (@pss_one _ _ _ (@ps_ret _ _ _ _ (pe_and (pe_callB (call_isiK (K := K) rfl "int") rfl T.b_isinstance PyProof.Rows.Boot.«isinstance» (@pa_cons _ _ _ _ _ (pv 0)
      (@pa_cons _ _ _ _ _ (pe_bltn (v := .ty "int") rfl T.b_int PyProof.Rows.Boot.«int» rfl)
      pa_nil
      (by rfl))
      (by rfl))) (pe_one (pe_not (pe_callB (call_isiK (K := K) rfl "bool") rfl T.b_isinstance PyProof.Rows.Boot.«isinstance» (@pa_cons _ _ _ _ _ (pv 0)
      (@pa_cons _ _ _ _ _ (pe_bltn (v := .ty "bool") rfl T.b_bool PyProof.Rows.Boot.«bool» rfl)
      pa_nil
      (by rfl))
      (by rfl)))))))), ?_⟩
    cases hb : isTy H "int" x with
    | false =>
      obtain ⟨t, h1, h2⟩ := isi_f K (by simp) hk hb
      have e : isIntV x = false := by cases hk <;> first | rfl | (simp [isTy] at hb)
      rw [e] at k
      exact ⟨_, rfl, _, t, _, rfl, h1, h2, _, rfl, iteF k⟩
    | true =>
      obtain ⟨t, h1, h2⟩ := isi_f K (by simp) hk hb
      obtain ⟨u, h3, h4⟩ := isi_f K (T := "bool") (by simp) hk rfl
      have e : isIntV x = !isTy H "bool" x := by
        cases hk with
        | lst e => simp [isTy, e] at hb
        | tup e => simp [isTy, e] at hb
        | dK e => simp [isTy, e] at hb
        | non => simp [isTy] at hb
        | str z hz => simp [isTy] at hb
        | bl b => rfl
        | int i => rfl
      rw [e] at k
      exact ⟨_, rfl, _, t, _, rfl, h1, h2, _, rfl, iteT ⟨_, rfl, _, u, _, rfl, h3, h4, _, rfl, k⟩⟩
def sp_is_name (K : PySem.W.Frag) (a : Adr) : Sp := fun vs H Q _ => ∃ x, vs = [x] ∧ Kd H x ∧ ∀ H', Same H H' → Q (.bl (isNameV x)) H'
theorem ok_is_name {P : Program} {w : World} {K : PySem.W.Frag} {mg : Str → Option Value} {base : Heap} {a : Adr} (T : Txt K mg a) (hw : w.params = a.Pm) : FnOk P w K mg base CX0 1 a.is_name a.is_name_fd ["thing"] (sp_is_name K a) := by
  refine T.f_is_name.ok sc_is_name (fun vs H Q E h => ?_) (fun cdv A outer s H vs Q E hr h => ?_)
  · obtain ⟨x, rfl, _⟩ := h
    rfl
  · obtain ⟨x, rfl, hk, k⟩ := h
    refine ⟨_, (@pss_cons _ _ _ _ _ (@ps_if _ _ _ _ _ _ _ _ (PW.pt (pw_or (@pt_not _ _ _ _ (pt_val (pe_callB (call_isiK (K := K) rfl "str") rfl T.b_isinstance PyProof.Rows.Boot.«isinstance» (@pa_cons _ _ _ _ _ (pv 0)
      (@pa_cons _ _ _ _ _ (pe_bltn (v := .ty "str") rfl T.b_str PyProof.Rows.Boot.«str» rfl)
      pa_nil
      (by rfl))
      (by rfl))))) (pw_or1 (@pt_not _ _ _ _ (pt_chain op_le op_le pe_int (pe_callB (call_lenK (K := K) rfl) rfl T.b_len PyProof.Rows.Boot.«len» (@pa_cons _ _ _ _ _ (pv 0)
      pa_nil
      (by rfl))) (pe_gc rfl T.c_MOST_LETTERS))))))
      (@pss_one _ _ _ (@ps_ret _ _ _ _ pe_bl))
      pss_nil)
      (@pss_one _ _ _ (@ps_ret _ _ _ _ (pe_callB (call_allK (K := K) rfl rfl) rfl T.b_all PyProof.Rows.Boot.«all» (@pa_cons _ _ _ _ _ (pe_compL (Nc := ["letter"]) (ix := [none]) (CompOk.of (by decide +kernel : compChk (defScope s_is_name) ["thing"] ["letter"] [none] _ = true)) rfl (pi_str (pv 0)) (fun _ _ _ _ _ => (pg_name (i := 0) (show List.Nodup (["letter"] : List Str) by decide +kernel) rfl (Or.inl rfl))) (fun _ _ _ _ _ => pts_nil) (fun _ _ _ _ _ => (@pe_cmpR _ _ _ _ _ _ _ _ op_in_str
      (pv 0)
      (pe_gc rfl T.c_LETTERS)
      (by with_unfolding_all rfl))))
      pa_nil
      (by rfl)))))), ?_⟩
    rcases kd_str hk with ⟨hb, z, rfl, hz⟩ | ⟨hb, e⟩
    · obtain ⟨t, h1, h2⟩ := isi_f K (by simp) hk hb
      refine ⟨_, rfl, _, t, _, rfl, h1, h2, _, rfl, iteF ?_⟩
      refine ⟨_, rfl, .inr (.inl ⟨z, rfl, by rw [sizeLine_eq]; omega, _, _, rfl, rfl, _, rfl, ?_⟩)⟩
      have fin : decide (1 ≤ (z.length : Int)) = true → decide ((z.length : Int) ≤ 8) = true → isNameV (.str z) = z.cps.toList.all isLow := fun a b => by
        have a' := of_decide_eq_true a
        have b' := of_decide_eq_true b
        have a2 : 1 ≤ z.length := by omega
        have b2 : z.length ≤ 8 := by omega
        simp [isNameV, isNameS, a2, b2]
      have nof : ¬ ((1 : Int) ≤ z.length ∧ (z.length : Int) ≤ 8) → isNameV (.str z) = false := fun q => by
        have : ¬ (1 ≤ z.length ∧ z.length ≤ 8) := by omega
        simp only [isNameV, isNameS]
        by_cases h1 : 1 ≤ z.length
        · have h2 : ¬ z.length ≤ 8 := fun h2 => this ⟨h1, h2⟩
          simp [h1, h2]
        · simp [h1]
      refine ite2 (fun c1 => ?_) (fun c1 => ?_)
      · refine ⟨_, _, rfl, rfl, _, rfl, ?_⟩
        cases c2 : decide ((z.length : Int) ≤ 8) with
        | false =>
          refine iteT ?_
          have q := k H (.refl H)
          rw [nof (fun q => by have := of_decide_eq_false c2; omega)] at q
          exact q
        | true =>
          refine iteF ⟨_, rfl, z, rfl, fun D hD => ?_⟩
          refine comp_genL (J := Its z) (n := z.cps.size) (fun i σ H' => Same H H' ∧ H' D = some (.lst ((z.cps.toList.take i).map fun c => V.bl (isLow c))) ∧ ∃ y, σ = [y]) ?_ (fun i σ H' hi _ => hi) (fun σ H' _ => Nat.le_refl _) ?_ ?_
          · exact ⟨same_upd hD, upd_same, _, rfl⟩
          · rintro i x σ H' H2 hi ⟨sm, hl, y, rfl⟩ ⟨rfl, c, hc, rfl⟩ N N0 hN hN0
            refine ⟨_, rfl, _, _, rfl, rfl, ?_⟩
            have el := PySem.StrLaws.found_one ("abcdefghijklmnopqrstuvwxyz" : Str) c
            refine hN _ _ _ _ hl (by rw [List.length_map, List.length_take, sizeLine_eq]; have : z.cps.size = z.length := rfl; omega) ⟨(SameX.upd (Same.x sm)).same hD, ?_, _, rfl⟩
            have hc' : z.cps.toList[i]? = some c := by rw [Array.getElem?_toList]; exact hc
            rw [upd_same, List.take_add_one, hc', List.map_append]
            refine congrArg (fun b => some (HO.lst (_ ++ [V.bl b]))) ?_
            rw [← mem_letters]
            exact el
          · rintro σ H' ⟨sm, hl, y, rfl⟩
            have et : z.cps.toList.take z.cps.size = z.cps.toList := by rw [← Array.length_toList]; exact List.take_length
            rw [et] at hl
            have q := k H' sm
            rw [fin c1 c2, ← all_id] at q
            exact ⟨D, z.cps.toList.map isLow, rfl, SqL.of (by rw [hl, List.map_map]; rfl), q⟩
      · refine ⟨_, rfl, iteT ?_⟩
        have q := k H (.refl H)
        rw [nof (fun q => c1 (decide_eq_true q.1))] at q
        exact q
    · obtain ⟨t, h1, h2⟩ := isi_f K (by simp) hk hb
      have q := k H (.refl H)
      rw [e] at q
      exact ⟨_, rfl, _, t, _, rfl, h1, h2, _, rfl, iteT (iteT q)⟩
def sp_is_room (K : PySem.W.Frag) (a : Adr) : Sp := fun vs H Q _ => ∃ x n, vs = [x, .int n] ∧ Kd H x ∧ Q (.bl (isRoomV n x)) H
theorem ok_is_room {P : Program} {w : World} {K : PySem.W.Frag} {mg : Str → Option Value} {base : Heap} {a : Adr} (T : Txt K mg a) (hw : w.params = a.Pm) : FnOk P w K mg base CX0 2 a.is_room a.is_room_fd ["thing", "many"] (sp_is_room K a) := by
  have G_is_whole := ok_is_whole (P := P) (w := w) (base := base) T hw
  refine T.f_is_room.ok sc_is_room (fun vs H Q E h => ?_) (fun cdv A outer s H vs Q E hr h => ?_)
  · obtain ⟨x, n, rfl, _⟩ := h
    rfl
  · obtain ⟨x, n, rfl, hk, k⟩ := h
    refine ⟨_, (@pss_one _ _ _ (@ps_ret _ _ _ _ (pe_and (pe_call G_is_whole (hr.mono (by decide)) rfl T.g_is_whole T.f_is_whole.kp T.n_is_whole .nil pass0 (@pa_cons _ _ _ _ _ (pv 0)
      pa_nil
      (by rfl))) (pe_one (pe_chain op_le op_lt pe_int (pv 0) (pv 1)))))), ?_⟩
    refine ⟨_, rfl, x, rfl, hk, _, rfl, ?_⟩
    cases x with
    | int i =>
      refine iteT ⟨_, rfl, _, _, rfl, rfl, _, rfl, ?_⟩
      cases c1 : decide (0 ≤ i) with
      | true =>
        refine iteT ⟨_, rfl, _, _, rfl, rfl, ?_⟩
        have e : isRoomV n (.int i) = decide (i < n) := by simp only [isRoomV, c1, Bool.true_and]
        rw [e] at k
        exact k
      | false =>
        have e : isRoomV n (.int i) = false := by simp only [isRoomV, c1, Bool.false_and]
        rw [e] at k
        exact iteF k
    | _ => exact iteF k
end KK

set_option Elab.async false
set_option linter.all false
set_option maxRecDepth 100000
set_option maxHeartbeats 8000000
namespace KK
open PySem PySem.Spec L2 L3
def sp_are_names (K : PySem.W.Frag) (a : Adr) : Sp := fun vs H Q _ => ∃ x, vs = [x] ∧ KdL H x ∧ ∀ H', Same H H' → Q (.bl (areNames H x)) H'
theorem ok_are_names {P : Program} {w : World} {K : PySem.W.Frag} {mg : Str → Option Value} {base : Heap} {a : Adr} (T : Txt K mg a) (hw : w.params = a.Pm) : FnOk P w K mg base CX0 2 a.are_names a.are_names_fd ["thing"] (sp_are_names K a) := by
  have G_is_name := ok_is_name (P := P) (w := w) (base := base) T hw
  refine T.f_are_names.ok sc_are_names (fun vs H Q E h => ?_) (fun cdv A outer s H vs Q E hr h => ?_)
  · obtain ⟨x, rfl, _⟩ := h
    rfl
  · obtain ⟨x, rfl, hk, k⟩ := h
    refine ⟨_, (@pss_cons _ _ _ _ _ (@ps_if _ _ _ _ _ _ _ _ (PW.pt (pw_or (@pt_not _ _ _ _ (pt_val (pe_callB (call_isiK (K := K) rfl "list") rfl T.b_isinstance PyProof.Rows.Boot.«isinstance» (@pa_cons _ _ _ _ _ (pv 0)
      (@pa_cons _ _ _ _ _ (pe_bltn (v := .ty "list") rfl T.b_list PyProof.Rows.Boot.«list» rfl)
      pa_nil
      (by rfl))
      (by rfl))))) (pw_or1 (@pt_not _ _ _ _ (pt_val (pe_callB (call_allK (K := K) rfl rfl) rfl T.b_all PyProof.Rows.Boot.«all» (@pa_cons _ _ _ _ _ (pe_compL (Nc := ["name"]) (ix := [none]) (CompOk.of (by decide +kernel : compChk (defScope s_are_names) ["thing"] ["name"] [none] _ = true)) rfl (pi_listK (K := K) rfl (pv 0)) (fun _ _ _ _ _ => (pg_name (i := 0) (show List.Nodup (["name"] : List Str) by decide +kernel) rfl (Or.inl rfl))) (fun _ _ _ _ _ => pts_nil) (fun _ _ _ _ _ => (pe_call G_is_name (hr.mono (by decide)) rfl T.g_is_name T.f_is_name.kp T.n_is_name .nil pass0 (@pa_cons _ _ _ _ _ (pv 0)
      pa_nil
      (by rfl)))))
      pa_nil
      (by rfl))))))))
      (@pss_one _ _ _ (@ps_ret _ _ _ _ pe_bl))
      pss_nil)
      (@pss_one _ _ _ (@ps_ret _ _ _ _ (@pe_cmpR _ _ _ _ _ _ _ _ op_eq
      (pe_callB (call_lenK (K := K) rfl) rfl T.b_len PyProof.Rows.Boot.«len» (@pa_cons _ _ _ _ _ (pe_callTy (call_setK (K := K) rfl rfl) rfl T.b_set PyProof.Rows.Boot.«set» (@pa_cons _ _ _ _ _ (pv 0)
      pa_nil
      (by rfl)))
      pa_nil
      (by rfl)))
      (pe_callB (call_lenK (K := K) rfl) rfl T.b_len PyProof.Rows.Boot.«len» (@pa_cons _ _ _ _ _ (pv 0)
      pa_nil
      (by rfl)))
      (nomark _))))), ?_⟩
    rcases kd_list hk.1 with ⟨hb, p, xs, rfl, hp, hl⟩ | ⟨hb, e⟩
    · obtain ⟨t, h1, h2⟩ := isi_f K (by simp) hk.1 hb
      obtain ⟨hz, hy⟩ := hk.2 xs hl
      have hS : xs.length ≤ sizeLine := by rw [sizeLine_eq]; omega
      have ev : areNames H (.ref p) = (xs.all isNameV && decide xs.Nodup) := by unfold areNames; rw [hl]
      rw [ev] at k
      refine ⟨_, rfl, _, t, _, rfl, h1, h2, _, rfl, iteF ?_⟩
      refine ⟨_, rfl, p, rfl, ⟨xs, SqL.of hp⟩, fun D hD => ?_⟩
      refine comp_mapL (K := K) hD (SqL.of hp) hS (fun i v _ => ∀ x, xs[i]? = some x → v = .bl (isNameV x)) (fun _ _ _ _ _ q => q) ?_ ?_
      · intro i x H2 N hx sm hN
        refine ⟨_, rfl, x, rfl, (hy x (List.mem_of_getElem? hx)).mono sm, fun H3 s3 => hN _ _ s3 fun x' hx' => ?_⟩
        rw [hx] at hx'; cases hx'; rfl
      · intro H2 ys hD2 sm hlen hr
        have ey := all_map_of (f := isNameV) hlen fun i v x h1 h2 => hr i v h1 x h2
        refine ⟨D, _, rfl, SqL.of (by rw [hD2, ey]), _, rfl, ?_⟩
        rw [all_id]
        cases hall : xs.all isNameV with
        | false =>
          rw [hall] at k
          exact iteT (k H2 sm)
        | true =>
          rw [hall] at k
          obtain ⟨ks, rfl⟩ := keys_names hall
          rw [List.length_map] at hz
          refine iteF ⟨_, rfl, p, ks, rfl, SqL.of (sm _ _ hp), by omega, fun n c a1 a2 hc => ?_⟩
          have s3 : Same H (upd H2 c (SetN c n)) := sm.trans (same_upd hc)
          refine .inr (.inr ⟨c, n, rfl, upd_same, by omega, _, rfl, .inl ⟨p, _, rfl, .inl (SqL.of (s3 _ _ hp)), rfl, ?_⟩⟩)
          rw [dec_len rfl a2]
          exact k _ s3
    · obtain ⟨t, h1, h2⟩ := isi_f K (by simp) hk.1 hb
      have q := k H (.refl H)
      have e2 : areNames H x = false := by unfold areNames; rw [e]
      rw [e2] at q
      exact ⟨_, rfl, _, t, _, rfl, h1, h2, _, rfl, iteT (iteT q)⟩
def sp_are_rooms (K : PySem.W.Frag) (a : Adr) : Sp := fun vs H Q _ => ∃ x n, vs = [x, .int n] ∧ KdL H x ∧ ∀ H', Same H H' → Q (.bl (areRooms H n x)) H'
theorem ok_are_rooms {P : Program} {w : World} {K : PySem.W.Frag} {mg : Str → Option Value} {base : Heap} {a : Adr} (T : Txt K mg a) (hw : w.params = a.Pm) : FnOk P w K mg base CX0 3 a.are_rooms a.are_rooms_fd ["thing", "many"] (sp_are_rooms K a) := by
  have G_is_room := ok_is_room (P := P) (w := w) (base := base) T hw
  refine T.f_are_rooms.ok sc_are_rooms (fun vs H Q E h => ?_) (fun cdv A outer s H vs Q E hr h => ?_)
  · obtain ⟨x, n, rfl, _⟩ := h
    rfl
  · obtain ⟨x, n, rfl, hk, k⟩ := h
    refine ⟨_, (@pss_one _ _ _ (@ps_ret _ _ _ _ (pe_and (pe_callB (call_isiK (K := K) rfl "list") rfl T.b_isinstance PyProof.Rows.Boot.«isinstance» (@pa_cons _ _ _ _ _ (pv 0)
      (@pa_cons _ _ _ _ _ (pe_bltn (v := .ty "list") rfl T.b_list PyProof.Rows.Boot.«list» rfl)
      pa_nil
      (by rfl))
      (by rfl))) (pe_one (pe_callB (call_allK (K := K) rfl rfl) rfl T.b_all PyProof.Rows.Boot.«all» (@pa_cons _ _ _ _ _ (pe_compL (Nc := ["room", "many"]) (ix := [none, some 1]) (CompOk.of (by decide +kernel : compChk (defScope s_are_rooms) ["thing", "many"] ["room", "many"] [none, some 1] _ = true)) rfl (pi_listK (K := K) rfl (pv 0)) (fun _ _ _ _ _ => (pg_name (i := 0) (show List.Nodup (["room", "many"] : List Str) by decide +kernel) rfl (Or.inl rfl))) (fun _ _ _ _ _ => pts_nil) (fun _ _ _ _ _ => (pe_call G_is_room (hr.mono (by decide)) rfl T.g_is_room T.f_is_room.kp T.n_is_room .nil pass0 (@pa_cons _ _ _ _ _ (pv 0)
      (@pa_cons _ _ _ _ _ (pv 1)
      pa_nil
      (by rfl))
      (by rfl)))))
      pa_nil
      (by rfl))))))), ?_⟩
    rcases kd_list hk.1 with ⟨hb, p, xs, rfl, hp, hl⟩ | ⟨hb, e⟩
    · obtain ⟨t, h1, h2⟩ := isi_f K (by simp) hk.1 hb
      obtain ⟨hz, hy⟩ := hk.2 xs hl
      have hS : xs.length ≤ sizeLine := by rw [sizeLine_eq]; omega
      have ev : areRooms H n (.ref p) = xs.all (isRoomV n) := by unfold areRooms; rw [hl]
      rw [ev] at k
      refine ⟨_, rfl, _, t, _, rfl, h1, h2, _, rfl, iteT ?_⟩
      refine ⟨_, rfl, p, rfl, ⟨xs, SqL.of hp⟩, fun D hD => ?_⟩
      refine comp_mapL (K := K) hD (SqL.of hp) hS (fun i v _ => ∀ x, xs[i]? = some x → v = .bl (isRoomV n x)) (fun _ _ _ _ _ q => q) ?_ ?_
      · intro i x H2 N hx sm hN
        refine ⟨_, rfl, _, rfl, x, n, rfl, (hy x (List.mem_of_getElem? hx)).mono sm, hN _ _ (.refl _) fun x' hx' => ?_⟩
        rw [hx] at hx'; cases hx'; rfl
      · intro H2 ys hD2 sm hlen hr
        have ey := all_map_of (f := isRoomV n) hlen fun i v x h1 h2 => hr i v h1 x h2
        refine ⟨D, _, rfl, SqL.of (by rw [hD2, ey]), ?_⟩
        rw [all_id]
        exact k H2 sm
    · obtain ⟨t, h1, h2⟩ := isi_f K (by simp) hk.1 hb
      have q := k H (.refl H)
      have e2 : areRooms H n x = false := by unfold areRooms; rw [e]
      rw [e2] at q
      exact ⟨_, rfl, _, t, _, rfl, h1, h2, _, rfl, iteF q⟩
def sp_are_some_rooms (K : PySem.W.Frag) (a : Adr) : Sp := fun vs H Q _ => ∃ x n, vs = [x, .int n] ∧ KdL H x ∧ ∀ H', Same H H' → Q (.bl (someRooms H n x)) H'
theorem ok_are_some_rooms {P : Program} {w : World} {K : PySem.W.Frag} {mg : Str → Option Value} {base : Heap} {a : Adr} (T : Txt K mg a) (hw : w.params = a.Pm) : FnOk P w K mg base CX0 4 a.are_some_rooms a.are_some_rooms_fd ["thing", "many"] (sp_are_some_rooms K a) := by
  have G_are_rooms := ok_are_rooms (P := P) (w := w) (base := base) T hw
  refine T.f_are_some_rooms.ok sc_are_some_rooms (fun vs H Q E h => ?_) (fun cdv A outer s H vs Q E hr h => ?_)
  · obtain ⟨x, n, rfl, _⟩ := h
    rfl
  · obtain ⟨x, n, rfl, hk, k⟩ := h
    refine ⟨_, (@pss_cons _ _ _ _ _ (@ps_if _ _ _ _ _ _ _ _ (PW.pt (pw_or (@pt_not _ _ _ _ (pt_val (pe_call G_are_rooms (hr.mono (by decide)) rfl T.g_are_rooms T.f_are_rooms.kp T.n_are_rooms .nil pass0 (@pa_cons _ _ _ _ _ (pv 0)
      (@pa_cons _ _ _ _ _ (pv 1)
      pa_nil
      (by rfl))
      (by rfl))))) (pw_or1 (@pt_cmpR _ _ _ _ _ _ _ _ op_eq
      (pe_callB (call_lenK (K := K) rfl) rfl T.b_len PyProof.Rows.Boot.«len» (@pa_cons _ _ _ _ _ (pv 0)
      pa_nil
      (by rfl)))
      pe_int
      (nomark _)))))
      (@pss_one _ _ _ (@ps_ret _ _ _ _ pe_bl))
      pss_nil)
      (@pss_one _ _ _ (@ps_ret _ _ _ _ (@pe_cmpR _ _ _ _ _ _ _ _ op_eq
      (pe_callB (call_lenK (K := K) rfl) rfl T.b_len PyProof.Rows.Boot.«len» (@pa_cons _ _ _ _ _ (pe_callTy (call_setK (K := K) rfl rfl) rfl T.b_set PyProof.Rows.Boot.«set» (@pa_cons _ _ _ _ _ (pv 0)
      pa_nil
      (by rfl)))
      pa_nil
      (by rfl)))
      (pe_callB (call_lenK (K := K) rfl) rfl T.b_len PyProof.Rows.Boot.«len» (@pa_cons _ _ _ _ _ (pv 0)
      pa_nil
      (by rfl)))
      (nomark _))))), ?_⟩
    refine ⟨_, rfl, _, rfl, x, n, rfl, hk, fun H1 s1 => ⟨_, rfl, ?_⟩⟩
    rcases kd_list hk.1 with ⟨hb, p, xs, rfl, hp, hl⟩ | ⟨hb, e⟩
    · obtain ⟨hz, hy⟩ := hk.2 xs hl
      have ev : areRooms H n (.ref p) = xs.all (isRoomV n) := by unfold areRooms; rw [hl]
      have ew : someRooms H n (.ref p) = (xs.all (isRoomV n) && !xs.isEmpty && decide xs.Nodup) := by unfold someRooms; rw [hl]
      rw [ew] at k
      rw [ev]
      cases hall : xs.all (isRoomV n) with
      | false =>
        rw [hall] at k
        exact iteT (iteT (k H1 s1))
      | true =>
        rw [hall] at k
        refine iteF ⟨_, rfl, .inl ⟨p, xs, rfl, .inl (SqL.of (s1 _ _ hp)), rfl, _, rfl, ?_⟩⟩
        cases xs with
        | nil =>
          exact iteT (k H1 s1)
        | cons y r =>
          have e0 : decide (V.int (((y :: r).length : Nat) : Int) = V.int 0) = false := by
            refine decide_eq_false fun q => ?_
            have q' := V.int.inj q
            rw [List.length_cons] at q'
            omega
          rw [e0]
          obtain ⟨ks, eks⟩ := keys_rooms hall
          rw [eks] at hp k hz
          rw [List.length_map] at hz
          refine iteF ⟨_, rfl, p, ks, rfl, SqL.of (s1 _ _ hp), by omega, fun m c a1 a2 hc => ?_⟩
          have s3 : Same H (upd H1 c (SetN c m)) := s1.trans (same_upd hc)
          refine .inr (.inr ⟨c, m, rfl, upd_same, by omega, _, rfl, .inl ⟨p, _, rfl, .inl (SqL.of (s3 _ _ hp)), rfl, ?_⟩⟩)
          rw [dec_len rfl a2]
          have q := k _ s3
          have ne : (!(ks.map kV).isEmpty) = true := by rw [← eks]; rfl
          rw [ne] at q
          exact q
    · have ev : areRooms H n x = false := by unfold areRooms; rw [e]
      have ew : someRooms H n x = false := by unfold someRooms; rw [e]
      rw [ew] at k
      rw [ev]
      exact iteT (iteT (k H1 s1))
end KK

set_option Elab.async false
set_option linter.all false
set_option maxRecDepth 100000
set_option maxHeartbeats 8000000
namespace KK
open PySem PySem.Spec L2 L3
def sp_makes_world (K : PySem.W.Frag) (a : Adr) : Sp := fun vs H Q _ => ∃ x y z u, vs = [x, y, z, u] ∧ KdLL H x ∧ KdLL H y ∧ KdL H z ∧ KdL H u ∧ ∀ H', Same H H' → Q (.bl (makesW H x y z u)) H'
theorem ok_makes_world {P : Program} {w : World} {K : PySem.W.Frag} {mg : Str → Option Value} {base : Heap} {a : Adr} (T : Txt K mg a) (hw : w.params = a.Pm) : FnOk P w K mg base CX0 5 a.makes_world a.makes_world_fd ["signs", "ways", "starts", "fair"] (sp_makes_world K a) := by
  have G_are_names := ok_are_names (P := P) (w := w) (base := base) T hw
  have G_are_some_rooms := ok_are_some_rooms (P := P) (w := w) (base := base) T hw
  refine T.f_makes_world.ok sc_makes_world (fun vs H Q E h => ?_) (fun cdv A outer s H vs Q E hr h => ?_)
  · obtain ⟨x, y, z, u, rfl, _⟩ := h
    rfl
  · obtain ⟨x, y, z, u, rfl, kx, ky, kz, ku, k⟩ := h
    refine ⟨_, (@pss_cons _ _ _ _ _ (@ps_if _ _ _ _ _ _ _ _ (PW.pt (pw_or (@pt_not _ _ _ _ (pt_val (pe_callB (call_isiK (K := K) rfl "list") rfl T.b_isinstance PyProof.Rows.Boot.«isinstance» (@pa_cons _ _ _ _ _ (pv 0)
      (@pa_cons _ _ _ _ _ (pe_bltn (v := .ty "list") rfl T.b_list PyProof.Rows.Boot.«list» rfl)
      pa_nil
      (by rfl))
      (by rfl))))) (pw_or1 (@pt_not _ _ _ _ (pt_val (pe_callB (call_isiK (K := K) rfl "list") rfl T.b_isinstance PyProof.Rows.Boot.«isinstance» (@pa_cons _ _ _ _ _ (pv 1)
      (@pa_cons _ _ _ _ _ (pe_bltn (v := .ty "list") rfl T.b_list PyProof.Rows.Boot.«list» rfl)
      pa_nil
      (by rfl))
      (by rfl))))))))
      (@pss_one _ _ _ (@ps_ret _ _ _ _ pe_bl))
      pss_nil)
      (@pss_cons _ _ _ _ _ (@ps_set _ _ (4) _ _ _ _ sc_makes_world.nd
      rfl
      (Or.inr rfl)
      (pe_callB (call_lenK (K := K) rfl) rfl T.b_len PyProof.Rows.Boot.«len» (@pa_cons _ _ _ _ _ (pv 0)
      pa_nil
      (by rfl)))
      (by rfl)
      (by first | exact .inl rfl | exact .inr rfl | assumption))
      (@pss_cons _ _ _ _ _ (@ps_if _ _ _ _ _ _ _ _ (PW.pt (pw_or (@pt_not _ _ _ _ (pt_chain op_le op_le pe_int (pv 4) (pe_gc rfl T.c_MOST_ROOMS))) (pw_or1 (@pt_cmpR _ _ _ _ _ _ _ _ op_ne
      (pe_callB (call_lenK (K := K) rfl) rfl T.b_len PyProof.Rows.Boot.«len» (@pa_cons _ _ _ _ _ (pv 1)
      pa_nil
      (by rfl)))
      (pv 4)
      (nomark _)))))
      (@pss_one _ _ _ (@ps_ret _ _ _ _ pe_bl))
      pss_nil)
      (@pss_cons _ _ _ _ _ (@ps_if _ _ _ _ _ _ _ _ (@pt_not _ _ _ _ (pt_val (pe_callB (call_allK (K := K) rfl rfl) rfl T.b_all PyProof.Rows.Boot.«all» (@pa_cons _ _ _ _ _ (pe_compL (Nc := ["names"]) (ix := [none]) (CompOk.of (by decide +kernel : compChk (defScope s_makes_world) ["signs", "ways", "starts", "fair", "many"] ["names"] [none] _ = true)) rfl (pi_listK (K := K) rfl (pv 0)) (fun _ _ _ _ _ => (pg_name (i := 0) (show List.Nodup (["names"] : List Str) by decide +kernel) rfl (Or.inl rfl))) (fun _ _ _ _ _ => pts_nil) (fun _ _ _ _ _ => (pe_call G_are_names (hr.mono (by decide)) rfl T.g_are_names T.f_are_names.kp T.n_are_names .nil pass0 (@pa_cons _ _ _ _ _ (pv 0)
      pa_nil
      (by rfl)))))
      pa_nil
      (by rfl)))))
      (@pss_one _ _ _ (@ps_ret _ _ _ _ pe_bl))
      pss_nil)
      (@pss_cons _ _ _ _ _ (@ps_if _ _ _ _ _ _ _ _ (@pt_not _ _ _ _ (pt_val (pe_callB (call_allK (K := K) rfl rfl) rfl T.b_all PyProof.Rows.Boot.«all» (@pa_cons _ _ _ _ _ (pe_compL (Nc := ["rooms", "many"]) (ix := [none, some 4]) (CompOk.of (by decide +kernel : compChk (defScope s_makes_world) ["signs", "ways", "starts", "fair", "many"] ["rooms", "many"] [none, some 4] _ = true)) rfl (pi_listK (K := K) rfl (pv 1)) (fun _ _ _ _ _ => (pg_name (i := 0) (show List.Nodup (["rooms", "many"] : List Str) by decide +kernel) rfl (Or.inl rfl))) (fun _ _ _ _ _ => pts_nil) (fun _ _ _ _ _ => (pe_call G_are_some_rooms (hr.mono (by decide)) rfl T.g_are_some_rooms T.f_are_some_rooms.kp T.n_are_some_rooms .nil pass0 (@pa_cons _ _ _ _ _ (pv 0)
      (@pa_cons _ _ _ _ _ (pv 1)
      pa_nil
      (by rfl))
      (by rfl)))))
      pa_nil
      (by rfl)))))
      (@pss_one _ _ _ (@ps_ret _ _ _ _ pe_bl))
      pss_nil)
      (@pss_one _ _ _ (@ps_ret _ _ _ _ (pe_and (pe_call G_are_some_rooms (hr.mono (by decide)) rfl T.g_are_some_rooms T.f_are_some_rooms.kp T.n_are_some_rooms .nil pass0 (@pa_cons _ _ _ _ _ (pv 2)
      (@pa_cons _ _ _ _ _ (pv 4)
      pa_nil
      (by rfl))
      (by rfl))) (pe_and (pe_call G_are_names (hr.mono (by decide)) rfl T.g_are_names T.f_are_names.kp T.n_are_names .nil pass0 (@pa_cons _ _ _ _ _ (pv 3)
      pa_nil
      (by rfl))) (pe_one (@pe_cmpR _ _ _ _ _ _ _ _ op_le
      (pe_callB (call_lenK (K := K) rfl) rfl T.b_len PyProof.Rows.Boot.«len» (@pa_cons _ _ _ _ _ (pv 3)
      pa_nil
      (by rfl)))
      (pe_gc rfl T.c_MOST_FAIR)
      (nomark _)))))))))))), ?_⟩
    rcases kd_list kx.1 with ⟨hb, p, xs, rfl, hp, hl⟩ | ⟨hb, e⟩
    case inr =>
      obtain ⟨t, h1, h2⟩ := isi_f K (by simp) kx.1 hb
      have q := k H (.refl H)
      have e2 : makesW H x y z u = false := by unfold makesW; rw [e]
      rw [e2] at q
      exact ⟨_, rfl, _, t, _, rfl, h1, h2, _, rfl, iteT (iteT q)⟩
    obtain ⟨t, h1, h2⟩ := isi_f K (by simp) kx.1 hb
    refine ⟨_, rfl, _, t, _, rfl, h1, h2, _, rfl, iteF ?_⟩
    rcases kd_list ky.1 with ⟨hb2, p2, ys, rfl, hp2, hl2⟩ | ⟨hb2, e⟩
    case inr =>
      obtain ⟨t, h1, h2⟩ := isi_f K (by simp) ky.1 hb2
      have q := k H (.refl H)
      have e2 : makesW H (.ref p) y z u = false := by unfold makesW; rw [hl, e]
      rw [e2] at q
      exact ⟨_, rfl, _, t, _, rfl, h1, h2, _, rfl, iteT q⟩
    obtain ⟨t2, h3, h4⟩ := isi_f K (by simp) ky.1 hb2
    refine ⟨_, rfl, _, t2, _, rfl, h3, h4, _, rfl, iteF ?_⟩
    obtain ⟨hz, hy⟩ := kx.2 xs hl
    obtain ⟨hz2, hy2⟩ := ky.2 ys hl2
    have hS : xs.length ≤ sizeLine := by rw [sizeLine_eq]; omega
    have hS2 : ys.length ≤ sizeLine := by rw [sizeLine_eq]; omega
    have ev : makesW H (.ref p) (.ref p2) z u = (decide (1 ≤ xs.length) && decide (xs.length ≤ 20) && decide (ys.length = xs.length) && xs.all (areNames H) && ys.all (someRooms H xs.length) && (someRooms H xs.length z && (areNames H u && few3 (lstOf H u)))) := by unfold makesW; rw [hl, hl2]
    rw [ev] at k
    refine ⟨_, rfl, .inl ⟨p, xs, rfl, .inl (SqL.of hp), ?_⟩⟩
    refine ⟨_, rfl, _, _, rfl, rfl, _, rfl, ?_⟩
    cases c1 : decide ((1 : Int) ≤ xs.length) with
    | false =>
      have e1 : decide (1 ≤ xs.length) = false := decide_eq_false fun q => absurd (of_decide_eq_false c1) (by omega)
      rw [e1] at k
      exact iteF ⟨_, rfl, iteT (iteT (k H (.refl H)))⟩
    | true =>
    have e1 : decide (1 ≤ xs.length) = true := decide_eq_true (by have := of_decide_eq_true c1; omega)
    rw [e1] at k
    refine iteT ⟨_, _, rfl, rfl, _, rfl, ?_⟩
    cases c2 : decide ((xs.length : Int) ≤ 20) with
    | false =>
      have e2 : decide (xs.length ≤ 20) = false := decide_eq_false fun q => absurd (of_decide_eq_false c2) (by omega)
      rw [e2] at k
      exact iteT (iteT (k H (.refl H)))
    | true =>
    have e2 : decide (xs.length ≤ 20) = true := decide_eq_true (by have := of_decide_eq_true c2; omega)
    rw [e2] at k
    refine iteF ⟨_, rfl, .inl ⟨p2, ys, rfl, .inl (SqL.of hp2), _, rfl, rfl, _, rfl, ?_⟩⟩
    cases c3 : decide (V.int (ys.length : Int) = V.int (xs.length : Int)) with
    | false =>
      have e3 : decide (ys.length = xs.length) = false := decide_eq_false fun q => absurd (of_decide_eq_false c3) (by rw [q]; simp)
      rw [e3] at k
      exact iteT (k H (.refl H))
    | true =>
    have e3 : decide (ys.length = xs.length) = true := decide_eq_true (by have := V.int.inj (of_decide_eq_true c3); omega)
    rw [e3] at k
    refine iteF ⟨_, rfl, p, rfl, ⟨xs, SqL.of hp⟩, fun D hD => ?_⟩
    refine comp_mapL (K := K) hD (SqL.of hp) hS (fun i v _ => ∀ x, xs[i]? = some x → v = .bl (areNames H x)) (fun _ _ _ _ _ q => q) ?_ ?_
    · intro i x H2 N hx sm hN
      have hk := hy x (List.mem_of_getElem? hx)
      refine ⟨_, rfl, x, rfl, hk.mono sm, fun H3 s3 => hN _ _ s3 fun x' hx' => ?_⟩
      rw [hx] at hx'; cases hx'
      rw [areNames_same sm hk.1]
    intro H2 zs hD2 sm hlen hr
    have ey := all_map_of (f := areNames H) hlen fun i v x h1 h2 => hr i v h1 x h2
    refine ⟨D, _, rfl, SqL.of (by rw [hD2, ey]), _, rfl, ?_⟩
    rw [all_id]
    cases c4 : xs.all (areNames H) with
    | false =>
      rw [c4] at k
      exact iteT (k H2 sm)
    | true =>
    rw [c4] at k
    refine iteF ⟨_, rfl, p2, rfl, ⟨ys, SqL.of (sm _ _ hp2)⟩, fun D' hD' => ?_⟩
    refine comp_mapL (K := K) hD' (SqL.of (sm _ _ hp2)) hS2 (fun i v _ => ∀ x, ys[i]? = some x → v = .bl (someRooms H xs.length x)) (fun _ _ _ _ _ q => q) ?_ ?_
    · intro i x H3 N hx sm3 hN
      have hk := hy2 x (List.mem_of_getElem? hx)
      have s3 := sm.trans sm3
      refine ⟨_, rfl, _, rfl, x, _, rfl, hk.mono s3, fun H4 s4 => hN _ _ s4 fun x' hx' => ?_⟩
      rw [hx] at hx'; cases hx'
      rw [someRooms_same s3 hk.1]
    intro H3 zs3 hD3 sm3 hlen3 hr3
    have s3 := sm.trans sm3
    have ey3 := all_map_of (f := someRooms H xs.length) hlen3 fun i v x h1 h2 => hr3 i v h1 x h2
    refine ⟨D', _, rfl, SqL.of (by rw [hD3, ey3]), _, rfl, ?_⟩
    rw [all_id]
    cases c5 : ys.all (someRooms H xs.length) with
    | false =>
      rw [c5] at k
      exact iteT (k H3 s3)
    | true =>
    rw [c5] at k
    refine iteF ⟨_, rfl, _, rfl, z, _, rfl, kz.mono s3, fun H4 s4 => ⟨_, rfl, ?_⟩⟩
    rw [someRooms_same s3 kz.1]
    have s5 := s3.trans s4
    cases c6 : someRooms H xs.length z with
    | false =>
      rw [c6] at k
      exact iteF (k H4 s5)
    | true =>
    rw [c6] at k
    refine iteT ⟨_, rfl, u, rfl, ku.mono s5, fun H5 s6 => ⟨_, rfl, ?_⟩⟩
    rw [areNames_same s5 ku.1]
    have s7 := s5.trans s6
    cases c7 : areNames H u with
    | false =>
      rw [c7] at k
      exact iteF (k H5 s7)
    | true =>
    rw [c7] at k
    rcases kd_list ku.1 with ⟨_, p4, fs, rfl, hp4, hl4⟩ | ⟨_, e⟩
    · rw [hl4] at k
      refine iteT ⟨_, rfl, .inl ⟨p4, fs, rfl, .inl (SqL.of (s7 _ _ hp4)), _, _, rfl, rfl, ?_⟩⟩
      have q := k H5 s7
      have e8 : decide (fs.length ≤ 3) = decide ((fs.length : Int) ≤ 3) := decide_eq_decide.mpr (by omega)
      simp only [few3] at q
      rw [e8] at q
      exact q
    · unfold areNames at c7
      rw [e] at c7
      cases c7
end KK

set_option Elab.async false
set_option linter.all false
set_option maxRecDepth 100000
set_option maxHeartbeats 8000000
namespace KK
open PySem PySem.Spec L2 L3
def sp_World_init (K : PySem.W.Frag) (a : Adr) : Sp := fun vs H Q _ => ∃ p dx x y z u d, vs = [.ref p, x, y, z, u] ∧ H p = some (.ins a.C_World dx []) ∧ PartsV H x y z u d ∧ Good d ∧ ∀ H', SameX p H H' → WorldAt a.C_World H' p d → Q .non H'
theorem ok_World_init {P : Program} {w : World} {K : PySem.W.Frag} {mg : Str → Option Value} {base : Heap} {a : Adr} (T : Txt K mg a) (hw : w.params = a.Pm) : FnOk P w K mg base CX0 6 a.World_init a.World_init_fd ["self", "signs", "ways", "starts", "fair"] (sp_World_init K a) := by
  have G_makes_world := ok_makes_world (P := P) (w := w) (base := base) T hw
  refine T.f_World_init.ok sc_World_init (fun vs H Q E h => ?_) (fun cdv A outer s H vs Q E hr h => ?_)
  · obtain ⟨p, dx, x, y, z, u, d, rfl, _⟩ := h
    rfl
  · obtain ⟨p, dx, x, y, z, u, d, rfl, hp, pp, gd, k⟩ := h
    refine ⟨_, (@pss_cons _ _ _ _ _ (@ps_if _ _ _ _ _ _ _ _ (@pt_not _ _ _ _ (pt_val (pe_call G_makes_world (hr.mono (by decide)) rfl T.g_makes_world T.f_makes_world.kp T.n_makes_world .nil pass0 (@pa_c _ _ _ _ _ (pv 1)
      (@pa_c _ _ _ _ _ (pv 2)
      (@pa_c _ _ _ _ _ (pv 3)
      (@pa_c _ _ _ _ _ (pv 4)
      pa_nil
      (by rfl))
      (by rfl))
      (by rfl))
      (by rfl)))))
      (@pss_one _ _ _ ps_never)
      pss_nil)
      (@pss_cons _ _ _ _ _ (ps_fld (pv 0) (pe_callTy (call_tupleK (K := K) rfl) rfl T.b_tuple PyProof.Rows.Boot.«tuple» (@pa_cons _ _ _ _ _ (pe_compL (Nc := ["names"]) (ix := [none]) (CompOk.of (by decide +kernel : compChk (defScope s_World_init) ["self", "signs", "ways", "starts", "fair"] ["names"] [none] _ = true)) rfl (pi_listK (K := K) rfl (pv 1)) (fun _ _ _ _ _ => (pg_name (i := 0) (show List.Nodup (["names"] : List Str) by decide +kernel) rfl (Or.inl rfl))) (fun _ _ _ _ _ => pts_nil) (fun _ _ _ _ _ => (pe_callTy (call_tupleK (K := K) rfl) rfl T.b_tuple PyProof.Rows.Boot.«tuple» (@pa_cons _ _ _ _ _ (pe_callB (call_sortedK (K := K) rfl) rfl T.b_sorted PyProof.Rows.Boot.«sorted» (@pa_cons _ _ _ _ _ (pv 0)
      pa_nil
      (by rfl)))
      pa_nil
      (by rfl)))))
      pa_nil
      (by rfl))) rfl)
      (@pss_cons _ _ _ _ _ (ps_fld (pv 0) (pe_callTy (call_tupleK (K := K) rfl) rfl T.b_tuple PyProof.Rows.Boot.«tuple» (@pa_cons _ _ _ _ _ (pe_compL (Nc := ["rooms"]) (ix := [none]) (CompOk.of (by decide +kernel : compChk (defScope s_World_init) ["self", "signs", "ways", "starts", "fair"] ["rooms"] [none] _ = true)) rfl (pi_listK (K := K) rfl (pv 2)) (fun _ _ _ _ _ => (pg_name (i := 0) (show List.Nodup (["rooms"] : List Str) by decide +kernel) rfl (Or.inl rfl))) (fun _ _ _ _ _ => pts_nil) (fun _ _ _ _ _ => (pe_callTy (call_tupleK (K := K) rfl) rfl T.b_tuple PyProof.Rows.Boot.«tuple» (@pa_cons _ _ _ _ _ (pe_callB (call_sortedK (K := K) rfl) rfl T.b_sorted PyProof.Rows.Boot.«sorted» (@pa_cons _ _ _ _ _ (pv 0)
      pa_nil
      (by rfl)))
      pa_nil
      (by rfl)))))
      pa_nil
      (by rfl))) rfl)
      (@pss_cons _ _ _ _ _ (ps_fld (pv 0) (pe_callTy (call_tupleK (K := K) rfl) rfl T.b_tuple PyProof.Rows.Boot.«tuple» (@pa_cons _ _ _ _ _ (pe_callB (call_sortedK (K := K) rfl) rfl T.b_sorted PyProof.Rows.Boot.«sorted» (@pa_cons _ _ _ _ _ (pv 3)
      pa_nil
      (by rfl)))
      pa_nil
      (by rfl))) rfl)
      (@pss_one _ _ _ (ps_fld (pv 0) (pe_callTy (call_tupleK (K := K) rfl) rfl T.b_tuple PyProof.Rows.Boot.«tuple» (@pa_cons _ _ _ _ _ (pv 4)
      pa_nil
      (by rfl))) rfl)))))), ?_⟩
    obtain ⟨kx, ky, kz, ku⟩ := pp.kd gd
    have hm := pp.makes gd
    refine ⟨_, rfl, _, rfl, _, rfl, _, rfl, x, y, z, u, rfl, kx, ky, kz, ku, fun H1 s1 => ⟨_, rfl, ?_⟩⟩
    rw [hm]
    refine iteF ?_
    have p1 := pp.mono s1
    have hp1 := s1 _ _ hp
    have ph := p1.hid hp1
    have := gd.n20
    have := gd.wl
    -- self.room_signs
    obtain ⟨b1, v1, e1, g1, l1, q1⟩ := p1.s
    subst e1
    refine ⟨_, rfl, b1, rfl, ⟨v1, SqL.of g1⟩, fun D hD => ?_⟩
    refine comp_mapL (K := K) hD (SqL.of g1) (by rw [sizeLine_eq]; omega) (fun i v G => ∀ ss, d.signs[i]? = some ss → TS G v (sortS ss)) (fun i v _ _ sm q ss e => TS.mono _ _ _ _ sm (q ss e)) ?_ ?_
    · intro i w H2 N hx sm hN
      have hi : i < d.signs.length := by rw [← l1]; exact (List.getElem?_eq_some_iff.mp hx).1
      obtain ⟨c, rfl, ec⟩ := q1 i w _ hx (List.getElem?_eq_getElem hi)
      have hg := gd.sn _ (List.getElem_mem hi)
      refine ⟨_, rfl, .inl ⟨c, _, rfl, SqL.of (sm _ _ ec), by omega, fun l hl => ⟨l, _, rfl, .inl ⟨SqL.of upd_same, fun t ht => ?_⟩⟩⟩⟩
      refine hN _ _ ((same_upd hl).trans (same_upd ht)) fun ss hss => ⟨t, rfl, New.mk ((same_upd hl).free ht) ?_⟩
      rw [List.getElem?_eq_getElem hi] at hss
      cases hss
      rw [upd_same]
    intro H2 w1 hD2 s2 lw1 r1
    refine ⟨D, w1, rfl, .inl ⟨SqL.of hD2, fun t1 ht1 => ?_⟩⟩
    have st1 := same_upd (o := .tup w1) ht1
    have hp2 := st1 _ _ (s2 _ _ hp1)
    refine ⟨_, rfl, p, _, dx, [], rfl, hp2, T.cl_World, T.na_World_room_signs, by decide, ?_⟩
    have x2 : SameX p H1 (upd (upd H2 t1 (.tup w1)) p (.ins a.C_World dx (putF "room_signs" (.ref t1) []))) := (Same.x (s2.trans st1)).upd
    have np1 : t1 ≠ p := fun z => by subst z; rw [s2 _ _ hp1] at ht1; cases ht1
    have W1 : LT TS (hide p (upd (upd H2 t1 (.tup w1)) p (.ins a.C_World dx (putF "room_signs" (.ref t1) [])))) (.ref t1) (d.signs.map sortS) := by
      refine lt_of_map (xs := d.signs) (hide_mk np1 (by rw [upd_ne np1, upd_same])) (lw1.trans l1) fun i v hv ss hss => ?_
      refine TS.mono _ _ _ _ ?_ (r1 i v hv ss hss)
      exact (New.hidden hp1).trans (SameX.hide ((Same.x st1).upd))
    have hp3 : (upd (upd H2 t1 (.tup w1)) p (.ins a.C_World dx (putF "room_signs" (.ref t1) []))) p = some (.ins a.C_World dx (putF "room_signs" (.ref t1) [])) := upd_same
    rw [put1] at x2 W1 hp3 ⊢
    generalize upd (upd H2 t1 (.tup w1)) p (.ins a.C_World dx ([("room_signs", V.ref t1)] : List (Str × V))) = H3 at x2 W1 hp3 ⊢
    have p3 := (ph.mono x2.hide).mono hide_sub
    -- self.room_ways
    obtain ⟨b2, v2, e2, g2, l2, q2⟩ := p3.w
    subst e2
    refine ⟨_, rfl, b2, rfl, ⟨v2, SqL.of g2⟩, fun D2 hDD => ?_⟩
    refine comp_mapL (K := K) hDD (SqL.of g2) (by rw [sizeLine_eq]; omega) (fun i v G => ∀ ss, d.ways[i]? = some ss → TIn G v (sortI ss)) (fun i v _ _ sm q ss e => TIn.mono _ _ _ _ sm (q ss e)) ?_ ?_
    · intro i w H4 N hx sm hN
      have hi : i < d.ways.length := by rw [← l2]; exact (List.getElem?_eq_some_iff.mp hx).1
      obtain ⟨c, rfl, ec⟩ := q2 i w _ hx (List.getElem?_eq_getElem hi)
      have hg := gd.wn _ (List.getElem_mem hi)
      refine ⟨_, rfl, .inr ⟨c, _, rfl, SqL.of (sm _ _ ec), by omega, fun l hl => ⟨l, _, rfl, .inl ⟨SqL.of upd_same, fun t ht => ?_⟩⟩⟩⟩
      refine hN _ _ ((same_upd hl).trans (same_upd ht)) fun ss hss => ⟨t, rfl, New.mk ((same_upd hl).free ht) ?_⟩
      rw [List.getElem?_eq_getElem hi] at hss
      cases hss
      rw [upd_same]
    intro H4 w2 hD4 s4 lw2 r2
    refine ⟨D2, w2, rfl, .inl ⟨SqL.of hD4, fun t2 ht2 => ?_⟩⟩
    have st2 := same_upd (o := .tup w2) ht2
    have hp4 := st2 _ _ (s4 _ _ hp3)
    refine ⟨_, rfl, p, _, dx, _, rfl, hp4, T.cl_World, T.na_World_room_ways, by simp, ?_⟩
    have x4 : SameX p H3 (upd (upd H4 t2 (.tup w2)) p (.ins a.C_World dx (putF "room_ways" (.ref t2) ([("room_signs", V.ref t1)] : List (Str × V))))) := (Same.x (s4.trans st2)).upd
    have np2 : t2 ≠ p := fun z => by subst z; rw [s4 _ _ hp3] at ht2; cases ht2
    have W2 : LT TIn (hide p (upd (upd H4 t2 (.tup w2)) p (.ins a.C_World dx (putF "room_ways" (.ref t2) ([("room_signs", V.ref t1)] : List (Str × V)))))) (.ref t2) (d.ways.map sortI) := by
      refine lt_of_map (xs := d.ways) (hide_mk np2 (by rw [upd_ne np2, upd_same])) (lw2.trans l2) fun i v hv ss hss => ?_
      refine TIn.mono _ _ _ _ ?_ (r2 i v hv ss hss)
      exact (New.hidden hp3).trans (SameX.hide ((Same.x st2).upd))
    have hp5 : (upd (upd H4 t2 (.tup w2)) p (.ins a.C_World dx (putF "room_ways" (.ref t2) ([("room_signs", V.ref t1)] : List (Str × V))))) p = some (.ins a.C_World dx (putF "room_ways" (.ref t2) ([("room_signs", V.ref t1)] : List (Str × V)))) := upd_same
    have W1 := LT.mono TS.mono _ _ _ _ x4.hide W1
    rw [put2] at x4 W1 W2 hp5 ⊢
    generalize upd (upd H4 t2 (.tup w2)) p (.ins a.C_World dx ([("room_signs", V.ref t1), ("room_ways", V.ref t2)] : List (Str × V))) = H5 at x4 W1 W2 hp5 ⊢
    have x5 := x2.trans x4
    have p5 := (ph.mono x5.hide).mono hide_sub
    -- self.start_rooms
    obtain ⟨b3, e3, g3⟩ := p5.st
    subst e3
    have hst := gd.stn.2.2.2
    refine ⟨_, rfl, .inr ⟨b3, _, rfl, SqL.of g3, by omega, fun l hl => ⟨l, _, rfl, .inl ⟨SqL.of upd_same, fun t3 ht3 => ?_⟩⟩⟩⟩
    have st3 := (same_upd (o := .lst ((sortI d.starts).map V.int)) hl).trans (same_upd (o := .tup ((sortI d.starts).map V.int)) ht3)
    have hp6 := st3 _ _ hp5
    refine ⟨_, rfl, p, _, dx, _, rfl, hp6, T.cl_World, T.na_World_start_rooms, by simp, ?_⟩
    have np3 : t3 ≠ p := fun z => by subst z; rw [same_upd hl _ _ hp5] at ht3; cases ht3
    have x6 : SameX p H5 (upd (upd (upd H5 l (.lst ((sortI d.starts).map V.int))) t3 (.tup ((sortI d.starts).map V.int))) p (.ins a.C_World dx (putF "start_rooms" (.ref t3) ([("room_signs", V.ref t1), ("room_ways", V.ref t2)] : List (Str × V))))) := (Same.x st3).upd
    have hp7 : (upd (upd (upd H5 l (.lst ((sortI d.starts).map V.int))) t3 (.tup ((sortI d.starts).map V.int))) p (.ins a.C_World dx (putF "start_rooms" (.ref t3) ([("room_signs", V.ref t1), ("room_ways", V.ref t2)] : List (Str × V))))) p = some (.ins a.C_World dx (putF "start_rooms" (.ref t3) ([("room_signs", V.ref t1), ("room_ways", V.ref t2)] : List (Str × V)))) := upd_same
    have W3 : TIn (hide p (upd (upd (upd H5 l (.lst ((sortI d.starts).map V.int))) t3 (.tup ((sortI d.starts).map V.int))) p (.ins a.C_World dx (putF "start_rooms" (.ref t3) ([("room_signs", V.ref t1), ("room_ways", V.ref t2)] : List (Str × V)))))) (.ref t3) (sortI d.starts) := ⟨t3, rfl, hide_mk np3 (by rw [upd_ne np3, upd_same])⟩
    have W1 := LT.mono TS.mono _ _ _ _ x6.hide W1
    have W2 := LT.mono TIn.mono _ _ _ _ x6.hide W2
    rw [put3] at x6 W1 W2 W3 hp7 ⊢
    generalize upd (upd (upd H5 l (.lst ((sortI d.starts).map V.int))) t3 (.tup ((sortI d.starts).map V.int))) p (.ins a.C_World dx ([("room_signs", V.ref t1), ("room_ways", V.ref t2), ("start_rooms", V.ref t3)] : List (Str × V))) = H7 at x6 W1 W2 W3 hp7 ⊢
    have x7 := x5.trans x6
    have p7 := (ph.mono x7.hide).mono hide_sub
    -- self.fair_names
    obtain ⟨b4, e4, g4⟩ := p7.f
    subst e4
    refine ⟨_, rfl, b4, _, rfl, .inl ⟨SqL.of g4, fun t4 ht4 => ?_⟩⟩
    have st4 := same_upd (o := .tup (d.fair.map V.str)) ht4
    have hp8 := st4 _ _ hp7
    refine ⟨_, rfl, p, _, dx, _, rfl, hp8, T.cl_World, T.na_World_fair_names, by simp, ?_⟩
    have np4 : t4 ≠ p := fun z => by subst z; rw [hp7] at ht4; cases ht4
    have x8 : SameX p H7 (upd (upd H7 t4 (.tup (d.fair.map V.str))) p (.ins a.C_World dx (putF "fair_names" (.ref t4) ([("room_signs", V.ref t1), ("room_ways", V.ref t2), ("start_rooms", V.ref t3)] : List (Str × V))))) := (Same.x st4).upd
    refine k _ ((Same.x s1).trans (x7.trans x8)) ⟨dx, .ref t1, .ref t2, .ref t3, .ref t4, by rw [upd_same, put4], ?_, ?_, ?_, ?_⟩
    · exact LT.mono TS.mono _ _ _ _ (x8.hide.trans hide_sub) W1
    · exact LT.mono TIn.mono _ _ _ _ (x8.hide.trans hide_sub) W2
    · exact TIn.mono _ _ _ _ (x8.hide.trans hide_sub) W3
    · exact ⟨t4, rfl, by rw [upd_ne np4, upd_same]⟩
end KK

set_option Elab.async false
set_option linter.all false
set_option maxRecDepth 100000
set_option maxHeartbeats 8000000
namespace KK
open PySem PySem.Spec L2 L3
def sp_World_many (K : PySem.W.Frag) (a : Adr) : Sp := fun vs H Q _ => ∃ p d, vs = [.ref p] ∧ WorldAt a.C_World H p d ∧ Q (.int d.signs.length) H
theorem ok_World_many {P : Program} {w : World} {K : PySem.W.Frag} {mg : Str → Option Value} {base : Heap} {a : Adr} (T : Txt K mg a) (hw : w.params = a.Pm) : FnOk P w K mg base CX0 1 a.World_many a.World_many_fd ["self"] (sp_World_many K a) := by
  refine T.f_World_many.ok sc_World_many (fun vs H Q E h => ?_) (fun cdv A outer s H vs Q E hr h => ?_)
  · obtain ⟨p, d, rfl, _⟩ := h
    rfl
  · obtain ⟨p, d, rfl, hw, k⟩ := h
    refine ⟨_, (@pss_one _ _ _ (@ps_ret _ _ _ _ (pe_callB (call_lenK (K := K) rfl) rfl T.b_len PyProof.Rows.Boot.«len» (@pa_cons _ _ _ _ _ (pe_fldK (K := K) rfl (pv 0) rfl)
      pa_nil
      (by rfl))))), ?_⟩
    obtain ⟨dx, t1, t2, t3, t4, e, ⟨b, vs, rfl, g, l, q⟩, _⟩ := hw.ex
    refine ⟨_, rfl, p, _, dx, _, _, rfl, e, T.cl_World, T.na_World_room_signs, lk_signs _ _ _ _, .inl ⟨b, vs, rfl, .inr (SqT.of g), ?_⟩⟩
    rw [l, List.length_map]
    exact k
def sp_World_signs_of (K : PySem.W.Frag) (a : Adr) : Sp := fun vs H Q _ => ∃ p d i ss, vs = [.ref p, .int (i : Nat)] ∧ WorldAt a.C_World H p d ∧ d.signs[i]? = some ss ∧ ∀ l, H l = none → Q (.ref l) (upd H l (.lst ((sortS ss).map V.str)))
theorem ok_World_signs_of {P : Program} {w : World} {K : PySem.W.Frag} {mg : Str → Option Value} {base : Heap} {a : Adr} (T : Txt K mg a) (hw : w.params = a.Pm) : FnOk P w K mg base CX0 1 a.World_signs_of a.World_signs_of_fd ["self", "room"] (sp_World_signs_of K a) := by
  refine T.f_World_signs_of.ok sc_World_signs_of (fun vs H Q E h => ?_) (fun cdv A outer s H vs Q E hr h => ?_)
  · obtain ⟨p, d, i, ss, rfl, _⟩ := h
    rfl
  · obtain ⟨p, d, i, ss, rfl, hw, hs, k⟩ := h
    refine ⟨_, (@pss_one _ _ _ (@ps_ret _ _ _ _ (pe_callTy (call_listK (K := K) rfl rfl) rfl T.b_list PyProof.Rows.Boot.«list» (@pa_cons _ _ _ _ _ (@pe_ix _ _ _ _ _ _ _ (ix_tupK (K := K) rfl)
      (pe_fldK (K := K) rfl (pv 0) rfl)
      (pv 1)
      (fun _ _ => rfl))
      pa_nil
      (by rfl))))), ?_⟩
    obtain ⟨dx, t1, t2, t3, t4, e, ⟨b, vs, rfl, g, l, q⟩, _⟩ := hw.ex
    have hi : i < vs.length := by
      rw [l, List.length_map]
      exact (List.getElem?_eq_some_iff.mp hs).1
    obtain ⟨c, ec, gc⟩ := q i _ (sortS ss) (List.getElem?_eq_getElem hi) (by rw [List.getElem?_map, hs]; rfl)
    refine ⟨_, rfl, p, _, dx, _, _, rfl, e, T.cl_World, T.na_World_room_signs, lk_signs _ _ _ _, _, rfl, b, vs, _, _, rfl, rfl, SqT.of g, atI_nat (List.getElem?_eq_getElem hi), ?_⟩
    rw [ec]
    exact .inl ⟨c, _, rfl, .inr (SqT.of gc), k⟩
def sp_World_ways_on (K : PySem.W.Frag) (a : Adr) : Sp := fun vs H Q _ => ∃ p d i ss, vs = [.ref p, .int (i : Nat)] ∧ WorldAt a.C_World H p d ∧ d.ways[i]? = some ss ∧ ∀ l, H l = none → Q (.ref l) (upd H l (.lst ((sortI ss).map V.int)))
theorem ok_World_ways_on {P : Program} {w : World} {K : PySem.W.Frag} {mg : Str → Option Value} {base : Heap} {a : Adr} (T : Txt K mg a) (hw : w.params = a.Pm) : FnOk P w K mg base CX0 1 a.World_ways_on a.World_ways_on_fd ["self", "room"] (sp_World_ways_on K a) := by
  refine T.f_World_ways_on.ok sc_World_ways_on (fun vs H Q E h => ?_) (fun cdv A outer s H vs Q E hr h => ?_)
  · obtain ⟨p, d, i, ss, rfl, _⟩ := h
    rfl
  · obtain ⟨p, d, i, ss, rfl, hw, hs, k⟩ := h
    refine ⟨_, (@pss_one _ _ _ (@ps_ret _ _ _ _ (pe_callTy (call_listK (K := K) rfl rfl) rfl T.b_list PyProof.Rows.Boot.«list» (@pa_cons _ _ _ _ _ (@pe_ix _ _ _ _ _ _ _ (ix_tupK (K := K) rfl)
      (pe_fldK (K := K) rfl (pv 0) rfl)
      (pv 1)
      (fun _ _ => rfl))
      pa_nil
      (by rfl))))), ?_⟩
    obtain ⟨dx, t1, t2, t3, t4, e, _, ⟨b, vs, rfl, g, l, q⟩, _⟩ := hw.ex
    have hi : i < vs.length := by
      rw [l, List.length_map]
      exact (List.getElem?_eq_some_iff.mp hs).1
    obtain ⟨c, ec, gc⟩ := q i _ (sortI ss) (List.getElem?_eq_getElem hi) (by rw [List.getElem?_map, hs]; rfl)
    refine ⟨_, rfl, p, _, dx, _, _, rfl, e, T.cl_World, T.na_World_room_ways, lk_ways _ _ _ _, _, rfl, b, vs, _, _, rfl, rfl, SqT.of g, atI_nat (List.getElem?_eq_getElem hi), ?_⟩
    rw [ec]
    exact .inl ⟨c, _, rfl, .inr (SqT.of gc), k⟩
end KK

set_option Elab.async false
set_option linter.all false
set_option maxRecDepth 100000
set_option maxHeartbeats 8000000
namespace KK
open PySem PySem.Spec L2 L3
def sp__law_cell_at (K : PySem.W.Frag) (a : Adr) : Sp := fun vs H Q _ => ∃ (p : Addr) (ns : List Int) (j : Nat), vs = [.ref p, .int (j : Nat)] ∧ SqL K H p (ns.map V.int) ∧ ∀ n : Int, Q (.int n) H
theorem ok__law_cell_at {P : Program} {w : World} {K : PySem.W.Frag} {mg : Str → Option Value} {base : Heap} {a : Adr} (T : Txt K mg a) (hw : w.params = a.Pm) : FnOk P w K mg base CX0 1 a._law_cell_at a._law_cell_at_fd ["_law_script", "_law_k"] (sp__law_cell_at K a) := by
  refine T.f__law_cell_at.ok sc__law_cell_at (fun vs H Q E h => ?_) (fun cdv A outer s H vs Q E hr h => ?_)
  · obtain ⟨p, ns, j, rfl, _⟩ := h
    rfl
  · obtain ⟨p, ns, j, rfl, hq, k⟩ := h
    refine ⟨_, (@pss_cons _ _ _ _ _ (@ps_if _ _ _ _ _ _ _ _ (@pt_cmpR _ _ _ _ _ _ _ _ op_lt
      (pv 1)
      (pe_callB (call_lenK (K := K) rfl) rfl T.b_len PyProof.Rows.Boot.«len» (@pa_cons _ _ _ _ _ (pv 0)
      pa_nil
      (by rfl)))
      (nomark _))
      (@pss_one _ _ _ (@ps_ret _ _ _ _ (@pe_ix _ _ _ _ _ _ _ (ix_listK (K := K) rfl)
      (pv 0)
      (pv 1)
      (fun _ _ => rfl))))
      pss_nil)
      (@pss_one _ _ _ (@ps_ret _ _ _ _ pe_int))), ?_⟩
    refine ⟨_, rfl, _, rfl, .inl ⟨p, _, rfl, .inl hq, _, _, rfl, rfl, _, rfl, ?_⟩⟩
    refine ite2 (fun c => ?_) (fun _ => k 0)
    have hj : j < ns.length := by have := of_decide_eq_true c; rw [List.length_map] at this; omega
    exact ⟨_, rfl, _, rfl, p, _, _, _, rfl, rfl, hq, atI_nat (at_of hj), k _⟩
end KK

set_option Elab.async false
set_option linter.all false
set_option maxRecDepth 100000
set_option maxHeartbeats 8000000
namespace KK
open PySem PySem.Spec L2 L3
def sp_is_pair (K : PySem.W.Frag) (a : Adr) : Sp := fun vs H Q _ => ∃ (p q t : Addr) (d e : WD) (i j : Int), vs = [.ref p, .ref q, .ref t] ∧ WorldAt a.C_World H p d ∧ WorldAt a.C_World H q e ∧ H t = some (.tup [.int i, .int j]) ∧ 0 ≤ i ∧ i < d.signs.length ∧ 0 ≤ j ∧ j < e.signs.length ∧ ∀ H', Same H H' → Q (.bl true) H'
theorem ok_is_pair {P : Program} {w : World} {K : PySem.W.Frag} {mg : Str → Option Value} {base : Heap} {a : Adr} (T : Txt K mg a) (hw : w.params = a.Pm) : FnOk P w K mg base CX0 3 a.is_pair a.is_pair_fd ["one", "other", "thing"] (sp_is_pair K a) := by
  have G_is_room := ok_is_room (P := P) (w := w) (base := base) T hw
  have G_World_many := ok_World_many (P := P) (w := w) (base := base) T hw
  refine T.f_is_pair.ok sc_is_pair (fun vs H Q E h => ?_) (fun cdv A outer s H vs Q E hr h => ?_)
  · obtain ⟨p, q, t, d, e, i, j, rfl, _⟩ := h
    rfl
  · obtain ⟨p, q, t, d, e, i, j, rfl, hp, hq, ht, i0, i1, j0, j1, k⟩ := h
    refine ⟨_, (@pss_cons _ _ _ _ _ (@ps_if _ _ _ _ _ _ _ _ (PW.pt (pw_or (@pt_not _ _ _ _ (pt_val (pe_callB (call_isTu (K := K) rfl) rfl T.b_isinstance PyProof.Rows.Boot.«isinstance» (@pa_cons _ _ _ _ _ (pv 2)
      (@pa_cons _ _ _ _ _ (pe_bltn (v := .ty "tuple") rfl T.b_tuple PyProof.Rows.Boot.«tuple» rfl)
      pa_nil
      (by rfl))
      (by rfl))))) (pw_or1 (@pt_cmpR _ _ _ _ _ _ _ _ op_ne
      (pe_callB (call_lenK (K := K) rfl) rfl T.b_len PyProof.Rows.Boot.«len» (@pa_cons _ _ _ _ _ (pv 2)
      pa_nil
      (by rfl)))
      pe_int
      (nomark _)))))
      (@pss_one _ _ _ (@ps_ret _ _ _ _ pe_bl))
      pss_nil)
      (@pss_one _ _ _ (@ps_ret _ _ _ _ (pe_and (pe_call G_is_room (hr.mono (by decide)) rfl T.g_is_room T.f_is_room.kp T.n_is_room .nil pass0 (@pa_cons _ _ _ _ _ (@pe_ix _ _ _ _ _ _ _ (ix_tupK (K := K) rfl)
      (pv 2)
      pe_int
      (fun _ _ => rfl))
      (@pa_cons _ _ _ _ _ (pe_meth0 (pv 0) T.cl_World T.m_World_many G_World_many (hr.mono (by first | decide | omega)) T.n_World_many .nil pass0)
      pa_nil
      (by rfl))
      (by rfl))) (pe_one (pe_call G_is_room (hr.mono (by decide)) rfl T.g_is_room T.f_is_room.kp T.n_is_room .nil pass0 (@pa_cons _ _ _ _ _ (@pe_ix _ _ _ _ _ _ _ (ix_tupK (K := K) rfl)
      (pv 2)
      pe_int
      (fun _ _ => rfl))
      (@pa_cons _ _ _ _ _ (pe_meth0 (pv 1) T.cl_World T.m_World_many G_World_many (hr.mono (by first | decide | omega)) T.n_World_many .nil pass0)
      pa_nil
      (by rfl))
      (by rfl)))))))), ?_⟩
    refine ⟨_, rfl, t, _, rfl, SqT.of ht, true, rfl, ite2 (fun c => absurd c (by decide)) (fun _ => ?_)⟩
    refine ⟨_, rfl, .inl ⟨t, _, rfl, .inr (SqT.of ht), rfl, _, rfl, ite2 (fun c => absurd c (by simp)) (fun _ => ?_)⟩⟩
    obtain ⟨dx1, f1, o1, k1⟩ := at_many hp
    obtain ⟨dx2, f2, o2, k2⟩ := at_many hq
    refine ⟨_, rfl, t, _, _, _, rfl, rfl, SqT.of ht, rfl, _, rfl, p, dx1, f1, rfl, o1, k1, p, d, rfl, hp, _, _, rfl, .int _, ?_⟩
    have e1 : isRoomV (d.signs.length : Nat) (.int i) = true := by unfold isRoomV; simp [i0, i1]
    have e2 : isRoomV (e.signs.length : Nat) (.int j) = true := by unfold isRoomV; simp [j0, j1]
    rw [e1]
    refine ⟨true, rfl, iteT ⟨_, rfl, t, _, _, _, rfl, rfl, SqT.of ht, rfl, _, rfl, q, dx2, f2, rfl, o2, k2, q, e, rfl, hq, _, _, rfl, .int _, ?_⟩⟩
    rw [e2]
    exact k H (.refl H)
end KK

set_option Elab.async false
set_option linter.all false
set_option maxRecDepth 100000
set_option maxHeartbeats 8000000
namespace KK
open PySem PySem.Spec L2 L3
theorem signsI_at {d : WD} {i : Nat} (h : i < d.signs.length) : signsI d (i : Nat) = d.signs[i] := by
  unfold signsI
  rw [Int.toNat_natCast, List.getElem?_eq_getElem h]; rfl
theorem waysI_at {d : WD} {i : Nat} (h : i < d.ways.length) : waysI d (i : Nat) = d.ways[i] := by
  unfold waysI
  rw [Int.toNat_natCast, List.getElem?_eq_getElem h]; rfl
theorem sorted_names {ss : List Str} (h : ∀ x ∈ ss, isNameS x = true) : ∀ x ∈ sortS ss, isNameS x = true := fun x hx => h x ((sortS_perm ss).mem_iff.mp hx)
def sp_is_tied (K : PySem.W.Frag) (a : Adr) : Sp := fun vs H Q _ => ∃ (p q D t : Addr) (d e : WD) (us : List (List Int)) (i j : Nat), vs = [.ref p, .ref q, .ref D, .ref t] ∧ WorldAt a.C_World H p d ∧ WorldAt a.C_World H q e ∧ Good d ∧ Good e ∧ H D = some (.dT (dPl us)) ∧ H t = some (.tup [.int (i : Nat), .int (j : Nat)]) ∧ i < d.signs.length ∧ j < e.signs.length ∧ ∀ H', Same H H' → Q (.bl (pairB d e us [(i : Nat), (j : Nat)])) H'
theorem ok_is_tied {P : Program} {w : World} {K : PySem.W.Frag} {mg : Str → Option Value} {base : Heap} {a : Adr} (T : Txt K mg a) (hw : w.params = a.Pm) : FnOk P w K mg base CX0 2 a.is_tied a.is_tied_fd ["one", "other", "tied", "pair"] (sp_is_tied K a) := by
  have G_World_signs_of := ok_World_signs_of (P := P) (w := w) (base := base) T hw
  have G_World_ways_on := ok_World_ways_on (P := P) (w := w) (base := base) T hw
  refine T.f_is_tied.ok sc_is_tied (fun vs H Q E h => ?_) (fun cdv A outer s H vs Q E hr h => ?_)
  · obtain ⟨p, q, D, t, d, e, us, i, j, rfl, _⟩ := h
    rfl
  · obtain ⟨p, q, D, t, d, e, us, i, j, rfl, hp, hq, gd, ge, hD, ht, hi, hj, k⟩ := h
    refine ⟨_, (@pss_cons _ _ _ _ _ (ps_asg (pv 3) (pg_tupK (K := K) (n := 2) rfl rfl (pgs_cons (pg_name (i := 4) sc_is_tied.nd rfl (Or.inl rfl)) (pgs_cons (pg_name (i := 5) sc_is_tied.nd rfl (Or.inl rfl)) pgs_nil))))
      (@pss_cons _ _ _ _ _ (@ps_if _ _ _ _ _ _ _ _ (@pt_cmpR _ _ _ _ _ _ _ _ (op_neDK (K := K) rfl (Room.units hr))
      (pe_meth (pv 0) T.cl_World T.m_World_signs_of G_World_signs_of (hr.mono (by decide)) T.n_World_signs_of .nil pass0 (@pa_cons _ _ _ _ _ (pv 4)
      pa_nil
      (by rfl)))
      (pe_meth (pv 1) T.cl_World T.m_World_signs_of G_World_signs_of (hr.mono (by decide)) T.n_World_signs_of .nil pass0 (@pa_cons _ _ _ _ _ (pv 5)
      pa_nil
      (by rfl)))
      (nomark _))
      (@pss_one _ _ _ (@ps_ret _ _ _ _ pe_bl))
      pss_nil)
      (@pss_cons _ _ _ _ _ (@ps_set _ _ (6) _ _ _ _ sc_is_tied.nd
      rfl
      (Or.inr rfl)
      (pe_meth (pv 0) T.cl_World T.m_World_ways_on G_World_ways_on (hr.mono (by decide)) T.n_World_ways_on .nil pass0 (@pa_cons _ _ _ _ _ (pv 4)
      pa_nil
      (by rfl)))
      (by rfl)
      (by first | exact .inl rfl | exact .inr rfl | assumption))
      (@pss_cons _ _ _ _ _ (@ps_set _ _ (7) _ _ _ _ sc_is_tied.nd
      rfl
      (Or.inr rfl)
      (pe_meth (pv 1) T.cl_World T.m_World_ways_on G_World_ways_on (hr.mono (by decide)) T.n_World_ways_on .nil pass0 (@pa_cons _ _ _ _ _ (pv 5)
      pa_nil
      (by rfl)))
      (by rfl)
      (by first | exact .inl rfl | exact .inr rfl | assumption))
      (@pss_cons _ _ _ _ _ (@ps_if _ _ _ _ _ _ _ _ (@pt_not _ _ _ _ (pt_val (pe_callB (call_allK (K := K) rfl rfl) rfl T.b_all PyProof.Rows.Boot.«all» (@pa_cons _ _ _ _ _ (pe_compC (Nc := ["room", "tied", "yours"]) (ix := [none, some 2, some 7]) (CompOkC.of (by decide +kernel : compChkC (defScope s_is_tied) ["one", "other", "tied", "pair", "here", "there", "mine", "yours"] ["room", "tied", "yours"] [none, some 2, some 7] _ = true)) rfl (pi_listK (K := K) rfl (pv 6)) (fun _ _ _ _ _ => (pg_name (i := 0) (show List.Nodup (["room", "tied", "yours"] : List Str) by decide +kernel) rfl (by first | exact Or.inl rfl | exact Or.inr rfl))) (fun _ _ _ _ _ => pts_nil) (fun _ _ _ _ _ => (pe_callB (call_anyK (K := K) rfl rfl) rfl T.b_any PyProof.Rows.Boot.«any» (@pa_cons _ _ _ _ _ (pe_compL (Nc := ["more", "tied", "room"]) (ix := [none, some 1, some 0]) (CompOk.ofR (N := ["room", "tied", "yours"]) (sc0 := defScope s_is_tied) rfl (by decide +kernel)) rfl (pi_listK (K := K) rfl (pv 2)) (fun _ _ _ _ _ => (pg_name (i := 0) (show List.Nodup (["more", "tied", "room"] : List Str) by decide +kernel) rfl (Or.inl rfl))) (fun _ _ _ _ _ => pts_nil) (fun _ _ _ _ _ => (pe_cmp (pc_din (hu_of hr) (@pe_tup _ _ _ _ _ (@pa_cons _ _ _ _ _ (pv 2)
      (@pa_cons _ _ _ _ _ (pv 0)
      pa_nil
      (by rfl))
      (by rfl))) (pv 1)))))
      pa_nil
      (by rfl)))))
      pa_nil
      (by rfl)))))
      (@pss_one _ _ _ (@ps_ret _ _ _ _ pe_bl))
      pss_nil)
      (@pss_one _ _ _ (@ps_ret _ _ _ _ (pe_callB (call_allK (K := K) rfl rfl) rfl T.b_all PyProof.Rows.Boot.«all» (@pa_cons _ _ _ _ _ (pe_compC (Nc := ["more", "tied", "mine"]) (ix := [none, some 2, some 6]) (CompOkC.of (by decide +kernel : compChkC (defScope s_is_tied) ["one", "other", "tied", "pair", "here", "there", "mine", "yours"] ["more", "tied", "mine"] [none, some 2, some 6] _ = true)) rfl (pi_listK (K := K) rfl (pv 7)) (fun _ _ _ _ _ => (pg_name (i := 0) (show List.Nodup (["more", "tied", "mine"] : List Str) by decide +kernel) rfl (by first | exact Or.inl rfl | exact Or.inr rfl))) (fun _ _ _ _ _ => pts_nil) (fun _ _ _ _ _ => (pe_callB (call_anyK (K := K) rfl rfl) rfl T.b_any PyProof.Rows.Boot.«any» (@pa_cons _ _ _ _ _ (pe_compL (Nc := ["room", "tied", "more"]) (ix := [none, some 1, some 0]) (CompOk.ofR (N := ["more", "tied", "mine"]) (sc0 := defScope s_is_tied) rfl (by decide +kernel)) rfl (pi_listK (K := K) rfl (pv 2)) (fun _ _ _ _ _ => (pg_name (i := 0) (show List.Nodup (["room", "tied", "more"] : List Str) by decide +kernel) rfl (Or.inl rfl))) (fun _ _ _ _ _ => pts_nil) (fun _ _ _ _ _ => (pe_cmp (pc_din (hu_of hr) (@pe_tup _ _ _ _ _ (@pa_cons _ _ _ _ _ (pv 0)
      (@pa_cons _ _ _ _ _ (pv 2)
      pa_nil
      (by rfl))
      (by rfl))) (pv 1)))))
      pa_nil
      (by rfl)))))
      pa_nil
      (by rfl)))))))))), ?_⟩
    have hi2 : i < d.ways.length := by rw [gd.wl]; exact hi
    have hj2 : j < e.ways.length := by rw [ge.wl]; exact hj
    have ek : pairB d e us [(i : Nat), (j : Nat)] = (decide (sortS (signsI d i) = sortS (signsI e j)) && (((waysI d i).all fun x => (waysI e j).any fun y => decide ([x, y] ∈ us)) && ((waysI e j).all fun y => (waysI d i).any fun x => decide ([x, y] ∈ us)))) := rfl
    rw [ek, signsI_at hi, signsI_at hj, waysI_at hi2, waysI_at hj2] at k
    have nd := gd.sn _ (List.getElem_mem hi)
    have ne := ge.sn _ (List.getElem_mem hj)
    have wd := gd.wn _ (List.getElem_mem hi2)
    have we := ge.wn _ (List.getElem_mem hj2)
    refine ⟨_, rfl, t, _, rfl, SqT.of ht, rfl, _, _, rfl, _, _, rfl, rfl, ?_⟩
    obtain ⟨dx1, f1, o1, k1⟩ := at_signs_of hp
    refine ⟨_, rfl, p, dx1, f1, rfl, o1, k1, _, rfl, p, d, i, d.signs[i], rfl, hp, List.getElem?_eq_getElem hi, fun l1 hl1 => ?_⟩
    obtain ⟨H1, qN, s1, e1⟩ := newE (o := .lst ((sortS d.signs[i]).map V.str)) hl1
    rw [qN]; clear qN
    obtain ⟨dx2, f2, o2, k2⟩ := at_signs_of (hq.mono s1)
    refine ⟨_, rfl, q, dx2, f2, rfl, o2, k2, _, rfl, q, e, j, e.signs[j], rfl, hq.mono s1, List.getElem?_eq_getElem hj, fun l2 hl2 => ?_⟩
    obtain ⟨H2, qN, s2, e2⟩ := newE (o := .lst ((sortS e.signs[j]).map V.str)) hl2
    rw [qN]; clear qN
    refine ⟨_, _, LS.dp ⟨l1, rfl, s2 _ _ e1⟩, LS.dp ⟨l2, rfl, e2⟩, (fineS (sorted_names nd.2.1)).1, (fineS (sorted_names ne.2.1)).1, Nat.le_trans (fineS (sorted_names nd.2.1)).2 (by decide), ?_⟩
    rw [eqv_dS]
    have s12 := s1.trans s2
    refine ⟨_, rfl, ite2 (fun c => ?_) (fun c => ?_)⟩
    · have c' : ¬ sortS d.signs[i] = sortS e.signs[j] := by simpa using c
      rw [decide_eq_false c'] at k
      exact k _ s12
    have c' : sortS d.signs[i] = sortS e.signs[j] := by simpa using c
    rw [decide_eq_true c', Bool.true_and] at k
    obtain ⟨dx3, f3, o3, k3⟩ := at_ways_on (hp.mono s12)
    refine ⟨_, rfl, p, dx3, f3, rfl, o3, k3, _, rfl, p, d, i, d.ways[i], rfl, hp.mono s12, List.getElem?_eq_getElem hi2, fun l3 hl3 => ?_⟩
    obtain ⟨H3, qN, s3, e3⟩ := newE (o := .lst ((sortI d.ways[i]).map V.int)) hl3
    rw [qN]; clear qN
    have s13 := s12.trans s3
    obtain ⟨dx4, f4, o4, k4⟩ := at_ways_on (hq.mono s13)
    refine ⟨_, rfl, q, dx4, f4, rfl, o4, k4, _, rfl, q, e, j, e.ways[j], rfl, hq.mono s13, List.getElem?_eq_getElem hj2, fun l4 hl4 => ?_⟩
    obtain ⟨H4, qN, s4, e4⟩ := newE (o := .lst ((sortI e.ways[j]).map V.int)) hl4
    rw [qN]; clear qN
    have s14 := s13.trans s4
    have hD4 := s14 _ _ hD
    have lz1 : (sortI d.ways[i]).length ≤ sizeLine := by rw [(sortI_perm _).length_eq, sizeLine_eq]; omega
    have lz2 : (sortI e.ways[j]).length ≤ sizeLine := by rw [(sortI_perm _).length_eq, sizeLine_eq]; omega
    refine ⟨_, rfl, l3, rfl, ⟨_, SqL.of (s4 _ _ e3)⟩, fun A1 hA1 => ?_⟩
    refine comp_selWML (sortI d.ways[i]) V.int (fun x => .bl ((sortI e.ways[j]).any fun y => decide ([x, y] ∈ us))) hA1 (SqL.of (s4 _ _ e3)) lz1 ?_ ?_
    · intro x hx G N sG hN
      refine ⟨_, rfl, l4, rfl, ⟨_, SqL.of (sG _ _ e4)⟩, fun A2 hA2 => ?_⟩
      refine comp_selML (sortI e.ways[j]) V.int (fun y => .bl (decide ([x, y] ∈ us))) hA2 (SqL.of (sG _ _ e4)) lz2 ?_ ?_
      · intro y hy F N' sF hN'
        refine ⟨_, rfl, _, rfl, by rw [sizeLine_eq]; exact (by decide : 2 ≤ 16777216), fun b hb => ?_⟩
        obtain ⟨F2, qN, v1, eb⟩ := newE (o := .tup [.int x, .int y]) hb
        rw [qN]; clear qN
        refine ⟨_, rfl, D, _, rfl, DGet.t (k := keyP [x, y]) ((sG.trans (sF.trans v1)) _ _ hD4) (by rw [keyP_V]; exact eb), ?_⟩
        rw [dPl_has]
        exact hN' _ v1
      · intro F hF sF
        refine ⟨A2, (sortI e.ways[j]).map (fun y => decide ([x, y] ∈ us)), rfl, by rw [List.map_map]; exact SqL.of hF, ?_⟩
        rw [List.any_map]
        exact hN _ sF
    intro G hG sG
    refine ⟨A1, (sortI d.ways[i]).map (fun x => (sortI e.ways[j]).any fun y => decide ([x, y] ∈ us)), rfl, by rw [List.map_map]; exact SqL.of hG, ?_⟩
    rw [List.all_map]
    have ea : (sortI d.ways[i]).all (id ∘ fun x => (sortI e.ways[j]).any fun y => decide ([x, y] ∈ us)) = d.ways[i].all fun x => e.ways[j].any fun y => decide ([x, y] ∈ us) := by
      rw [all_sortI]
      refine congrArg _ (funext fun x => ?_)
      exact any_sortI _ _
    rw [ea]
    refine ⟨_, rfl, ite2 (fun c => ?_) (fun c => ?_)⟩
    · have c2 : (d.ways[i].all fun x => e.ways[j].any fun y => decide ([x, y] ∈ us)) = false := by simpa using c
      rw [c2] at k
      exact k _ (s14.trans sG)
    have c2 : (d.ways[i].all fun x => e.ways[j].any fun y => decide ([x, y] ∈ us)) = true := by
      cases h : (d.ways[i].all fun x => e.ways[j].any fun y => decide ([x, y] ∈ us)) with
      | true => rfl
      | false => rw [h] at c; exact absurd rfl c
    rw [c2, Bool.true_and] at k
    have s4G := sG
    refine ⟨_, rfl, l4, rfl, ⟨_, SqL.of (s4G _ _ e4)⟩, fun A1 hA1 => ?_⟩
    refine comp_selWML (sortI e.ways[j]) V.int (fun y => .bl ((sortI d.ways[i]).any fun x => decide ([x, y] ∈ us))) hA1 (SqL.of (s4G _ _ e4)) lz2 ?_ ?_
    · intro y hy G2 N sG2 hN
      have e3G := sG2 _ _ (s4G _ _ (s4 _ _ e3))
      refine ⟨_, rfl, l3, rfl, ⟨_, SqL.of e3G⟩, fun A2 hA2 => ?_⟩
      refine comp_selML (sortI d.ways[i]) V.int (fun x => .bl (decide ([x, y] ∈ us))) hA2 (SqL.of e3G) lz1 ?_ ?_
      · intro x hx F N' sF hN'
        refine ⟨_, rfl, _, rfl, by rw [sizeLine_eq]; exact (by decide : 2 ≤ 16777216), fun b hb => ?_⟩
        obtain ⟨F2, qN, v1, eb⟩ := newE (o := .tup [.int x, .int y]) hb
        rw [qN]; clear qN
        refine ⟨_, rfl, D, _, rfl, DGet.t (k := keyP [x, y]) ((s4G.trans (sG2.trans (sF.trans v1))) _ _ hD4) (by rw [keyP_V]; exact eb), ?_⟩
        rw [dPl_has]
        exact hN' _ v1
      · intro F hF sF
        refine ⟨A2, (sortI d.ways[i]).map (fun x => decide ([x, y] ∈ us)), rfl, by rw [List.map_map]; exact SqL.of hF, ?_⟩
        rw [List.any_map]
        exact hN _ sF
    intro G2 hG2 sG2
    refine ⟨A1, (sortI e.ways[j]).map (fun y => (sortI d.ways[i]).any fun x => decide ([x, y] ∈ us)), rfl, by rw [List.map_map]; exact SqL.of hG2, ?_⟩
    rw [List.all_map]
    have eb : (sortI e.ways[j]).all (id ∘ fun y => (sortI d.ways[i]).any fun x => decide ([x, y] ∈ us)) = e.ways[j].all fun y => d.ways[i].any fun x => decide ([x, y] ∈ us) := by
      rw [all_sortI]
      refine congrArg _ (funext fun x => ?_)
      exact any_sortI _ _
    rw [eb]
    exact k _ (s14.trans (s4G.trans sG2))
end KK

set_option Elab.async false
set_option linter.all false
set_option maxRecDepth 100000
set_option maxHeartbeats 8000000
namespace KK
open PySem PySem.Spec L2 L3
def sp_is_tie (K : PySem.W.Frag) (a : Adr) : Sp := fun vs H Q _ => ∃ (p q L : Addr) (d e : WD) (z : List (V × List Int)), vs = [.ref p, .ref q, .ref L] ∧ WorldAt a.C_World H p d ∧ WorldAt a.C_World H q e ∧ Good d ∧ Good e ∧ H L = some (.lst (z.map Prod.fst)) ∧ PZ H z ∧ (∀ x ∈ z, TwOk d.signs.length e.signs.length x.2) ∧ z.length ≤ 1000 ∧ ∀ H', Same H H' → Q (.bl (tieB d e (z.map Prod.snd))) H'
theorem ok_is_tie {P : Program} {w : World} {K : PySem.W.Frag} {mg : Str → Option Value} {base : Heap} {a : Adr} (T : Txt K mg a) (hw : w.params = a.Pm) : FnOk P w K mg base CX0 4 a.is_tie a.is_tie_fd ["one", "other", "pairs"] (sp_is_tie K a) := by
  have G_is_pair := ok_is_pair (P := P) (w := w) (base := base) T hw
  have G_is_tied := ok_is_tied (P := P) (w := w) (base := base) T hw
  refine T.f_is_tie.ok sc_is_tie (fun vs H Q E h => ?_) (fun cdv A outer s H vs Q E hr h => ?_)
  · obtain ⟨p, q, L, d, e, z, rfl, _⟩ := h
    rfl
  · obtain ⟨p, q, L, d, e, z, rfl, hp, hq, gd, ge, hL, pz, tw, lz, k⟩ := h
    refine ⟨_, (@pss_cons _ _ _ _ _ (@ps_if _ _ _ _ _ _ _ _ (PW.pt (pw_or (@pt_not _ _ _ _ (pt_val (pe_callB (call_isiK (K := K) rfl "list") rfl T.b_isinstance PyProof.Rows.Boot.«isinstance» (@pa_cons _ _ _ _ _ (pv 2)
      (@pa_cons _ _ _ _ _ (pe_bltn (v := .ty "list") rfl T.b_list PyProof.Rows.Boot.«list» rfl)
      pa_nil
      (by rfl))
      (by rfl))))) (pw_or1 (@pt_not _ _ _ _ (pt_val (pe_callB (call_allK (K := K) rfl rfl) rfl T.b_all PyProof.Rows.Boot.«all» (@pa_cons _ _ _ _ _ (pe_compL (Nc := ["pair", "one", "other"]) (ix := [none, some 0, some 1]) (CompOk.of (by decide +kernel : compChk (defScope s_is_tie) ["one", "other", "pairs", "tied"] ["pair", "one", "other"] [none, some 0, some 1] _ = true)) rfl (pi_listK (K := K) rfl (pv 2)) (fun _ _ _ _ _ => (pg_name (i := 0) (show List.Nodup (["pair", "one", "other"] : List Str) by decide +kernel) rfl (Or.inl rfl))) (fun _ _ _ _ _ => pts_nil) (fun _ _ _ _ _ => (pe_call G_is_pair (hr.mono (by decide)) rfl T.g_is_pair T.f_is_pair.kp T.n_is_pair .nil pass0 (@pa_c _ _ _ _ _ (pv 1)
      (@pa_c _ _ _ _ _ (pv 2)
      (@pa_c _ _ _ _ _ (pv 0)
      pa_nil
      (by rfl))
      (by rfl))
      (by rfl)))))
      pa_nil
      (by rfl))))))))
      (@pss_one _ _ _ (@ps_ret _ _ _ _ pe_bl))
      pss_nil)
      (@pss_cons _ _ _ _ _ (@ps_set _ _ (3) _ _ _ _ sc_is_tie.nd
      rfl
      (Or.inr rfl)
      (pe_dcompE (o0 := .dT []) (.inr rfl) (Nc := ["pair"]) (ix := [none]) (CompOk.of (by decide +kernel : compChk (defScope s_is_tie) ["one", "other", "pairs", "tied"] ["pair"] [none] _ = true)) (Room.units0 hr) rfl (pi_listK (K := K) rfl (pv 2)) (fun _ _ _ _ _ => (pg_name (i := 0) (show List.Nodup (["pair"] : List Str) by decide +kernel) rfl (Or.inl rfl))) (fun _ _ _ _ _ => pts_nil) (fun _ _ _ _ _ => (pv 0)) (fun _ _ _ _ _ => pe_bl))
      (by rfl)
      (by first | exact .inl rfl | exact .inr rfl | assumption))
      (@pss_one _ _ _ (@ps_ret _ _ _ _ (pe_callB (call_allK (K := K) rfl rfl) rfl T.b_all PyProof.Rows.Boot.«all» (@pa_cons _ _ _ _ _ (pe_compL (Nc := ["pair", "one", "other", "tied"]) (ix := [none, some 0, some 1, some 3]) (CompOk.of (by decide +kernel : compChk (defScope s_is_tie) ["one", "other", "pairs", "tied"] ["pair", "one", "other", "tied"] [none, some 0, some 1, some 3] _ = true)) rfl (pi_listK (K := K) rfl (pv 2)) (fun _ _ _ _ _ => (pg_name (i := 0) (show List.Nodup (["pair", "one", "other", "tied"] : List Str) by decide +kernel) rfl (Or.inl rfl))) (fun _ _ _ _ _ => pts_nil) (fun _ _ _ _ _ => (pe_call G_is_tied (hr.mono (by decide)) rfl T.g_is_tied T.f_is_tied.kp T.n_is_tied .nil pass0 (@pa_c _ _ _ _ _ (pv 1)
      (@pa_c _ _ _ _ _ (pv 2)
      (@pa_c _ _ _ _ _ (pv 3)
      (@pa_c _ _ _ _ _ (pv 0)
      pa_nil
      (by rfl))
      (by rfl))
      (by rfl))
      (by rfl)))))
      pa_nil
      (by rfl))))))), ?_⟩
    obtain ⟨t, h1, h2⟩ := isi_f K (T := "list") (b := true) (x := .ref L) (H := H) (by simp) (.lst hL) (by simp [isTy, hL])
    have lz' : z.length ≤ sizeLine := by rw [sizeLine_eq]; omega
    refine ⟨_, rfl, _, t, _, rfl, h1, h2, _, rfl, iteF ?_⟩
    refine ⟨_, rfl, L, rfl, ⟨_, SqL.of hL⟩, fun A1 hA1 => ?_⟩
    refine comp_selML z Prod.fst (fun _ => .bl true) hA1 (SqL.of hL) lz' ?_ ?_
    · intro x hx G N sG hN
      obtain ⟨b, eb, gb⟩ := pz x hx
      obtain ⟨i, j, ex, hi, hj⟩ := tw x hx
      rw [eb]
      refine ⟨_, rfl, _, rfl, _, rfl, p, q, b, d, e, i, j, rfl, hp.mono sG, hq.mono sG, by rw [sG _ _ gb, ex]; rfl, by omega, by omega, by omega, by omega, hN⟩
    intro H1 hA s1
    refine ⟨A1, z.map (fun _ => true), rfl, by rw [List.map_map]; exact SqL.of hA, ?_⟩
    have ea : (z.map fun _ => true).all id = true := by rw [List.all_eq_true]; intro x hx; obtain ⟨_, _, rfl⟩ := List.mem_map.mp hx; rfl
    rw [ea]
    refine ⟨_, rfl, iteF ?_⟩
    refine ⟨_, rfl, L, rfl, ⟨_, SqL.of (s1 _ _ hL)⟩, fun D hD => ?_⟩
    refine loop_gen (J := Itl K L) (n := z.length) (fun n σ X => ∃ y : Option V, σ = [y] ∧ Same H1 X ∧ X D = some (.dT (dPl (addUs [] ((z.map Prod.snd).take n))))) ?_ ?_ ?_ ?_ ?_
    · exact ⟨_, rfl, same_upd hD, upd_same⟩
    · rintro n σ X hn ⟨y, rfl, sx, hd2⟩
      exact ⟨_, _, SqL.of ((s1.trans sx) _ _ hL), by rw [List.getElem?_map, List.getElem?_eq_getElem hn]; rfl⟩
    · rintro σ X ⟨y, rfl, sx, hd2⟩
      exact ⟨_, SqL.of ((s1.trans sx) _ _ hL), by rw [List.length_map]; exact Nat.le_refl _⟩
    · rintro n x σ X X2 hn ⟨y, rfl, sx, hd2⟩ ⟨rfl, hx2⟩ N hN
      have ex := hx2 _ (SqL.of ((s1.trans sx) _ _ hL))
      rw [List.getElem?_map, List.getElem?_eq_getElem hn] at ex
      have ex' : x = z[n].1 := (Option.some.inj ex).symm
      subst ex'
      obtain ⟨b, eb, gb⟩ := pz _ (List.getElem_mem hn)
      rw [eb]
      have fw := (addUs_len ((z.map Prod.snd).take n) []).2
      rw [List.length_nil, List.length_take] at fw
      refine ⟨_, rfl, _, DPut.t (k := keyP z[n].2) hd2 (by rw [keyP_V]; exact (s1.trans sx) _ _ gb) (by rw [dPl_len, sizeLine_eq]; omega), hN _ _ ⟨_, rfl, (SameX.upd (Same.x sx)).same hD, ?_⟩⟩
      rw [upd_same, take_one (by rw [List.length_map]; exact hn), addUs_snoc, dPl_put, List.getElem_map]
    rintro σ X ⟨y, rfl, sx, hd2⟩
    have et : (z.map Prod.snd).take z.length = z.map Prod.snd := List.take_of_length_le (by rw [List.length_map]; exact Nat.le_refl _)
    rw [et] at hd2
    have s2 := s1.trans sx
    refine ⟨_, rfl, L, rfl, ⟨_, SqL.of (s2 _ _ hL)⟩, fun A2 hA2 => ?_⟩
    refine comp_selML z Prod.fst (fun x => .bl (pairB d e (z.map Prod.snd) x.2)) hA2 (SqL.of (s2 _ _ hL)) lz' ?_ ?_
    · intro x hx G N sG hN
      obtain ⟨b, eb, gb⟩ := pz x hx
      obtain ⟨i, j, ex, hi, hj⟩ := tw x hx
      rw [eb]
      have s3 := s2.trans sG
      refine ⟨_, rfl, _, rfl, _, rfl, _, rfl, p, q, D, b, d, e, _, i, j, rfl, hp.mono s3, hq.mono s3, gd, ge, sG _ _ hd2, by rw [s3 _ _ gb, ex]; rfl, hi, hj, ?_⟩
      rw [pairB_congr (qs := z.map Prod.snd) (fun p => by rw [mem_addUs]; simp), ← ex]
      exact hN
    intro H3 hB s3
    refine ⟨A2, z.map (fun x => pairB d e (z.map Prod.snd) x.2), rfl, by rw [List.map_map]; exact SqL.of hB, ?_⟩
    have e2 : (z.map fun x => pairB d e (z.map Prod.snd) x.2).all id = tieB d e (z.map Prod.snd) := by
      unfold tieB
      rw [List.all_map, List.all_map]; rfl
    rw [e2]
    exact k _ (s2.trans s3)
end KK

set_option Elab.async false
set_option linter.all false
set_option maxRecDepth 100000
set_option maxHeartbeats 8000000
namespace KK
open PySem PySem.Spec L2 L3
def sp__law_stream (K : PySem.W.Frag) (a : Adr) : Sp := fun vs H Q _ => ∃ (c : Int) (m : Nat), vs = [.int c, .int (m : Int)] ∧ m ≤ 1000 ∧ ∀ H' p (ns : List Int), Same H H' → H p = none → H' p = some (.lst (ns.map V.int)) → ns.length = m → Q (.ref p) H'
theorem ok__law_stream {P : Program} {w : World} {K : PySem.W.Frag} {mg : Str → Option Value} {base : Heap} {a : Adr} (T : Txt K mg a) (hw : w.params = a.Pm) : FnOk P w K mg base CX0 1 a._law_stream a._law_stream_fd ["_law_cell", "_law_many"] (sp__law_stream K a) := by
  refine T.f__law_stream.ok sc__law_stream (fun vs H Q E h => ?_) (fun cdv A outer s H vs Q E hr h => ?_)
  · obtain ⟨c, m, rfl, _⟩ := h
    rfl
  · obtain ⟨c, m, rfl, hm, k⟩ := h
    refine ⟨_, (@pss_cons _ _ _ _ _ (@ps_set _ _ (2) _ _ _ _ sc__law_stream.nd
      rfl
      (Or.inl rfl)
      (@pe_lst _ _ _ _ pa_nil)
      (by rfl)
      (by first | exact .inl rfl | exact .inr rfl | assumption))
      (pss_join (@ps_if _ _ _ _ _ _ _ _ (@pt_cmpR _ _ _ _ _ _ _ _ op_eq
      (@pe_op _ _ _ _ _ _ _ _ op_mod
      (pv 0)
      pe_int)
      pe_int
      (nomark _))
      (@pss_cons _ _ _ _ _ (@ps_set _ _ (3) _ _ _ _ sc__law_stream.nd
      rfl
      (Or.inl rfl)
      (@pe_op _ _ _ _ _ _ _ _ op_fdiv
      (pv 0)
      pe_int)
      (by rfl)
      (by first | exact .inl rfl | exact .inr rfl | assumption))
      (@pss_one _ _ _ (ps_while PassesOwn.never (PW.pt (pw_and (@pt_cmpR _ _ _ _ _ _ _ _ op_gt
      (pv 3)
      pe_int
      (nomark _)) (pw_and1 (@pt_cmpR _ _ _ _ _ _ _ _ op_lt
      (pe_callB (call_lenK (K := K) rfl) rfl T.b_len PyProof.Rows.Boot.«len» (@pa_cons _ _ _ _ _ (pv 2)
      pa_nil
      (by rfl)))
      (pv 1)
      (nomark _))))) (@pss_cons _ _ _ _ _ (@ps_expr _ _ _ _ (pe_bm PySem.F.plainAttrs_list PySem.F.slot_list_append PySem.F.type_list_append mt_append (pv 2) (@pa_cons _ _ _ _ _ (@pe_op _ _ _ _ _ _ _ _ op_mod
      (pv 3)
      pe_int)
      pa_nil
      (by rfl)))
      (by rfl))
      (@pss_one _ _ _ (@ps_set _ _ (3) _ _ _ _ sc__law_stream.nd
      rfl
      (Or.inl rfl)
      (@pe_op _ _ _ _ _ _ _ _ op_fdiv
      (pv 3)
      pe_int)
      (by rfl)
      (by first | exact .inl rfl | exact .inr rfl | assumption)))))))
      pss_nil)
          (@pss_cons _ _ _ _ _ (@ps_set _ _ (4) _ _ _ _ sc__law_stream.nd
      rfl
      (Or.inl rfl)
      (@pe_op _ _ _ _ _ _ _ _ op_add
      (@pe_op _ _ _ _ _ _ _ _ op_mod
      (pv 0)
      (@pe_op _ _ _ _ _ _ _ _ op_add
      (@pe_op _ _ _ _ _ _ _ _ op_pow
      pe_int
      pe_int)
      pe_int))
      pe_int)
      (by rfl)
      (by first | exact .inl rfl | exact .inr rfl | assumption))
      (@pss_cons _ _ _ _ _ (@ps_set _ _ (5) _ _ _ _ sc__law_stream.nd
      rfl
      (Or.inl rfl)
      (@pe_op _ _ _ _ _ _ _ _ op_add
      (@pe_op _ _ _ _ _ _ _ _ op_mod
      (pv 0)
      pe_int)
      pe_int)
      (by rfl)
      (by first | exact .inl rfl | exact .inr rfl | assumption))
      (@pss_cons _ _ _ _ _ (ps_for PassesOwn.never rfl (pi_range1 rfl T.b_range (@pa_cons _ _ _ _ _ (@pe_op _ _ _ _ _ _ _ _ op_add
      (pv 1)
      pe_int)
      pa_nil
      (by rfl))) (pg_name (i := 6) sc__law_stream.nd rfl (Or.inl rfl)) (@pss_cons _ _ _ _ _ (@ps_set _ _ (4) _ _ _ _ sc__law_stream.nd
      rfl
      (Or.inl rfl)
      (@pe_op _ _ _ _ _ _ _ _ op_mod
      (@pe_op _ _ _ _ _ _ _ _ op_add
      (@pe_op _ _ _ _ _ _ _ _ op_add
      (@pe_op _ _ _ _ _ _ _ _ op_mul
      (pv 4)
      (pv 4))
      (@pe_op _ _ _ _ _ _ _ _ op_mul
      pe_int
      (pv 4)))
      (pv 6))
      (@pe_op _ _ _ _ _ _ _ _ op_add
      (@pe_op _ _ _ _ _ _ _ _ op_pow
      pe_int
      pe_int)
      pe_int))
      (by rfl)
      (by first | exact .inl rfl | exact .inr rfl | assumption))
      (@pss_cons _ _ _ _ _ (@ps_set _ _ (5) _ _ _ _ sc__law_stream.nd
      rfl
      (Or.inl rfl)
      (@pe_op _ _ _ _ _ _ _ _ op_mod
      (@pe_op _ _ _ _ _ _ _ _ op_mul
      (pv 5)
      pe_int)
      pe_int)
      (by rfl)
      (by first | exact .inl rfl | exact .inr rfl | assumption))
      (@pss_one _ _ _ (@ps_expr _ _ _ _ (pe_bm PySem.F.plainAttrs_list PySem.F.slot_list_append PySem.F.type_list_append mt_append (pv 2) (@pa_cons _ _ _ _ _ (@pe_op _ _ _ _ _ _ _ _ op_add
      (pv 4)
      (pv 5))
      pa_nil
      (by rfl)))
      (by rfl))))))
      (@pss_one _ _ _ (@ps_ret _ _ _ _ (pe_slice (sl_listK (K := K) rfl) (pv 2) po_none (po_some (pv 1)))))))))), ?_⟩
    refine ⟨by decide, fun D hD => ?_⟩
    refine ⟨fun σ H' => ∃ (ns : List Int) (r : Option V), σ = [some (.int c), some (.int m), some (.ref D), r, none, none, none] ∧ H' D = some (.lst (ns.map V.int)) ∧ Same H H' ∧ ns.length ≤ m, ?_, ?_⟩
    · refine ⟨_, rfl, _, _, rfl, rfl, by decide, rfl, _, rfl, ite2 (fun c1 => ?_) (fun c1 => ?_)⟩
      · refine ⟨_, rfl, _, _, rfl, rfl, ⟨by decide, by decide⟩, ?_⟩
        refine ⟨fun n σ H' => ∃ (ns : List Int) (r : Int), σ = [some (.int c), some (.int m), some (.ref D), some (.int r), none, none, none] ∧ H' D = some (.lst (ns.map V.int)) ∧ Same H H' ∧ ns.length ≤ m ∧ n = m - ns.length, ⟨m, [], _, rfl, upd_same, same_upd hD, Nat.zero_le _, rfl⟩, ?_⟩
        rintro n σ H1 ⟨ns, r, rfl, h1, s1, hl, rfl⟩
        refine ⟨_, rfl, _, _, rfl, rfl, _, rfl, ite2 (fun c2 => ⟨_, rfl, .inl ⟨D, _, rfl, .inl (SqL.of h1), _, rfl, _, _, rfl, rfl, _, rfl, ite2 (fun c3 => ?body) (fun c3 => ?rest)⟩⟩) (fun c2 => iteF ?rest2)⟩
        case rest => exact ⟨ns, _, rfl, h1, s1, hl⟩
        case rest2 => exact ⟨ns, _, rfl, h1, s1, hl⟩
        case body =>
          have c4 : ns.length < m := by have := of_decide_eq_true c3; rw [List.length_map] at this; omega
          refine ⟨fun σ H' => ∃ (ns' : List Int) (r : Int), σ = [some (.int c), some (.int m), some (.ref D), some (.int r), none, none, none] ∧ H' D = some (.lst (ns'.map V.int)) ∧ Same H H' ∧ ns'.length = ns.length + 1, ?_, ?_⟩
          · rintro σ' H' ⟨ns', r', rfl, a1, a2, a3⟩
            exact ⟨m - ns'.length, by omega, ns', r', rfl, a1, a2, by omega, rfl⟩
          · refine ⟨_, rfl, .inl ⟨rfl, _, SqL.of h1⟩, _, rfl, _, _, rfl, rfl, by decide, D, _, _, rfl, rfl, h1, by rw [List.length_map, sizeLine_eq]; omega, ?_⟩
            refine ⟨_, rfl, _, _, rfl, rfl, ⟨by decide, by decide⟩, ?_⟩
            exact ⟨ns ++ [_], _, rfl, by rw [upd_same, List.map_append]; rfl, (SameX.upd (Same.x s1)).same hD, by simp⟩
      · exact ⟨[], _, rfl, upd_same, same_upd hD, Nat.zero_le _⟩
    rintro σ H1 ⟨ns, r, rfl, h1, s1, hl⟩
    have e18 : ((10 : Int) ^ (18 : Int).toNat + 9) = 1000000000000000009 := by decide
    refine ⟨_, rfl, _, _, rfl, rfl, ⟨by decide, by decide, by decide⟩, _, _, rfl, rfl, _, _, rfl, rfl, by decide, _, _, rfl, rfl, ?_⟩
    refine ⟨_, rfl, _, _, rfl, rfl, by decide, _, _, rfl, rfl, ?_⟩
    refine ⟨_, rfl, _, _, rfl, rfl, _, rfl, by omega, by omega, ?_⟩
    have e0 : ((m : Int) + 2).toNat = m + 2 := by omega
    rw [e0]
    have r0 := Int.emod_nonneg c (show (1000000000000000009 : Int) ≠ 0 by decide)
    have r1 := Int.emod_lt_of_pos c (show (0 : Int) < 1000000000000000009 by decide)
    refine for_gen (J := Itr 0 (m + 2)) (n := m + 2) (fun i σ H' => ∃ (ns' : List Int) (num oth : Int) (z : Option V), σ = [some (.int c), some (.int m), some (.ref D), r, some (.int num), some (.int oth), z] ∧ (0 ≤ num ∧ num < 1000000000000100000) ∧ H' D = some (.lst (ns'.map V.int)) ∧ Same H H' ∧ ns'.length = ns.length + i) ?_ (fun i σ H' hi _ => hi) (fun σ H' _ => Nat.le_refl _) ?_ ?_
    · exact ⟨ns, c % 1000000000000000009 + 48271, _, none, rfl, ⟨by omega, by omega⟩, h1, s1, by simp⟩
    · rintro i x σ H2 H3 hi ⟨ns', num, oth, z, rfl, ⟨n0, n1⟩, g1, g2, g3⟩ ⟨rfl, rfl⟩
      refine ⟨_, rfl, _, rfl, _, _, rfl, rfl, .inl ⟨by omega, by omega⟩, _, rfl, _, _, rfl, rfl, .inl ⟨by decide, by decide⟩, _, _, rfl, rfl, _, rfl, _, _, rfl, rfl, _, _, rfl, rfl, ⟨by decide, by decide, by decide⟩, _, _, rfl, rfl, _, _, rfl, rfl, by decide, ?_⟩
      have m0 := Int.emod_nonneg (num * num + 48271 * num + (0 + (i : Int))) (show ((10 : Int) ^ (18 : Int).toNat + 9) ≠ 0 by decide)
      have m1 := Int.emod_lt_of_pos (num * num + 48271 * num + (0 + (i : Int))) (show (0 : Int) < ((10 : Int) ^ (18 : Int).toNat + 9) by decide)
      have m2 : ((10 : Int) ^ (18 : Int).toNat + 9) < 1000000000000100000 := by decide
      refine ⟨_, rfl, _, _, rfl, rfl, .inr ⟨by decide, by decide⟩, _, _, rfl, rfl, by decide, ?_⟩
      refine ⟨_, rfl, .inl ⟨rfl, _, SqL.of g1⟩, _, rfl, _, rfl, _, _, rfl, rfl, D, _, _, rfl, rfl, g1, by rw [List.length_map, sizeLine_eq]; omega, ?_⟩
      exact ⟨ns' ++ [_], _, _, _, rfl, ⟨m0, Int.lt_trans m1 m2⟩, by rw [upd_same, List.map_append]; rfl, (SameX.upd (Same.x g2)).same hD, by rw [List.length_append, g3]; rfl⟩
    · rintro σ H2 ⟨ns', num, oth, z, rfl, _, g1, g2, g3⟩
      refine ⟨_, rfl, _, rfl, m, rfl, D, _, rfl, SqL.of g1, fun p hp => ?_⟩
      refine k _ p (ns'.take m) (g2.trans (same_upd hp)) (g2.free hp) ?_ (by rw [List.length_take]; omega)
      rw [upd_same, cutV_to _ m (by rw [List.length_map]; omega), List.map_take]
end KK

set_option Elab.async false
set_option linter.all false
set_option maxRecDepth 100000
set_option maxHeartbeats 8000000
namespace KK
open PySem PySem.Spec L2 L3
theorem shl_ok {k : Nat} (h : k ≤ 20) : 0 < (1 : Int) * 2 ^ ((k : Nat) : Int).toNat ∧ (1 : Int) * 2 ^ ((k : Nat) : Int).toNat < 1073741824 := by
  have e : (2 : Int) ^ k = ((2 ^ k : Nat) : Int) := by simp
  rw [Int.toNat_natCast, Int.one_mul, e]
  have h1 : 2 ^ k ≤ 2 ^ 20 := Nat.pow_le_pow_right (by decide) h
  have h2 : 0 < 2 ^ k := Nat.pow_pos (by decide)
  have h3 : (2 : Nat) ^ 20 = 1048576 := by decide
  omega
def sp__law_some (K : PySem.W.Frag) (a : Adr) : Sp := fun vs H Q _ => ∃ (x : Int) (m : Nat), vs = [.int x, .int (m : Nat)] ∧ 1 ≤ m ∧ m ≤ 20 ∧ ∀ H' p (ns : List Int), Same H H' → H p = none → H' p = some (.lst (ns.map V.int)) → ns ≠ [] → ns.Nodup → (∀ y ∈ ns, 0 ≤ y ∧ y < (m : Nat)) → Q (.ref p) H'
theorem ok__law_some {P : Program} {w : World} {K : PySem.W.Frag} {mg : Str → Option Value} {base : Heap} {a : Adr} (T : Txt K mg a) (hw : w.params = a.Pm) : FnOk P w K mg base CX0 1 a._law_some a._law_some_fd ["_law_xs", "_law_most"] (sp__law_some K a) := by
  refine T.f__law_some.ok sc__law_some (fun vs H Q E h => ?_) (fun cdv A outer s H vs Q E hr h => ?_)
  · obtain ⟨x, m, rfl, _⟩ := h
    rfl
  · obtain ⟨x, m, rfl, m1, m2, k⟩ := h
    refine ⟨_, (@pss_cons _ _ _ _ _ (ps_setCompL (i := 2) sc__law_some.nd rfl rfl (Nc := ["_law_k", "_law_xs"]) (ix := [none, some 0]) (CompOk.of (by decide +kernel : compChk (defScope s__law_some) ["_law_xs", "_law_most", "_law_found"] ["_law_k", "_law_xs"] [none, some 0] _ = true)) rfl (pi_range1 rfl T.b_range (@pa_cons _ _ _ _ _ (pv 1)
      pa_nil
      (by rfl))) (fun _ _ _ _ _ => (pg_name (i := 0) (show List.Nodup (["_law_k", "_law_xs"] : List Str) by decide +kernel) rfl (Or.inl rfl))) (fun _ _ _ _ _ => (pts_one (@pt_cmpR _ _ _ _ _ _ _ _ op_eq
      (@pe_op _ _ _ _ _ _ _ _ op_mod
      (@pe_op _ _ _ _ _ _ _ _ op_fdiv
      (pv 1)
      (@pe_op _ _ _ _ _ _ _ _ op_shl
      pe_int
      (pv 0)))
      pe_int)
      pe_int
      (nomark _)))) (fun _ _ _ _ _ => (pv 0)))
      (@pss_cons _ _ _ _ _ (@ps_if _ _ _ _ _ _ _ _ (@pt_cmpR _ _ _ _ _ _ _ _ (op_eqDK (K := K) rfl (Room.units hr))
      (pv 2)
      (@pe_lst _ _ _ _ pa_nil)
      (nomark _))
      (@pss_one _ _ _ (@ps_set _ _ (2) _ _ _ _ sc__law_some.nd
      rfl
      (Or.inl rfl)
      (@pe_lst _ _ _ _ (@pa_cons _ _ _ _ _ (@pe_op _ _ _ _ _ _ _ _ op_mod
      (@pe_op _ _ _ _ _ _ _ _ op_fdiv
      (pv 0)
      pe_int)
      (pv 1))
      pa_nil
      (by rfl)))
      (by rfl)
      (by first | exact .inl rfl | exact .inr rfl | assumption)))
      pss_nil)
      (@pss_one _ _ _ (@ps_ret _ _ _ _ (pv 2))))), ?_⟩
    refine ⟨_, rfl, _, rfl, by omega, by omega, ?_⟩
    rw [Int.toNat_natCast]
    intro D hD
    refine comp_selR (fun j => decide (V.int (x / (1 * 2 ^ ((j : Nat) : Int).toNat) % 2) = V.int 1)) (fun j => .int (j : Nat)) hD (by rw [sizeLine_eq]; omega) ?_ ?_
    · intro j hj G N N0 sG h1 h2
      refine ⟨_, rfl, _, rfl, _, _, rfl, rfl, ⟨by omega, by omega, by decide⟩, _, _, rfl, rfl, shl_ok (by omega), _, _, rfl, rfl, by decide, rfl, _, rfl, ite2 (fun c => ?_) (fun c => ?_)⟩
      · exact ⟨_, rfl, h1 _ (.refl _) c⟩
      · exact h2 _ (.refl _) (by simpa using c)
    intro H1 e1 s1
    have e2 : ((List.range m).filter (fun j => decide (V.int (x / (1 * 2 ^ ((j : Nat) : Int).toNat) % 2) = V.int 1))).map (fun j => V.int (j : Nat)) = (((List.range m).filter (fun j => decide (V.int (x / (1 * 2 ^ ((j : Nat) : Int).toNat) % 2) = V.int 1))).map (fun j : Nat => (j : Int))).map V.int := by rw [List.map_map]; rfl
    rw [e2] at e1
    have nd : (((List.range m).filter (fun j => decide (V.int (x / (1 * 2 ^ ((j : Nat) : Int).toNat) % 2) = V.int 1))).map (fun j : Nat => (j : Int))).Nodup := nodup_map (fun a b h => by omega) (List.nodup_range.filter _)
    have bd : ∀ y ∈ (((List.range m).filter (fun j => decide (V.int (x / (1 * 2 ^ ((j : Nat) : Int).toNat) % 2) = V.int 1))).map (fun j : Nat => (j : Int))), 0 ≤ y ∧ y < (m : Nat) := fun y hy => by
      obtain ⟨j, hj, rfl⟩ := List.mem_map.mp hy
      have := List.mem_range.mp (List.mem_filter.mp hj).1
      omega
    clear e2
    generalize (((List.range m).filter (fun j => decide (V.int (x / (1 * 2 ^ ((j : Nat) : Int).toNat) % 2) = V.int 1))).map (fun j : Nat => (j : Int))) = ns at e1 nd bd
    refine ⟨_, rfl, by decide, fun B hB => ?_⟩
    obtain ⟨H2, qN, s2, eB⟩ := newE (o := .lst []) hB
    rw [qN]; clear qN
    refine eqD_nil (s2 _ _ e1) eB fun c hc => ?_
    refine ⟨_, rfl, ite2 (fun c1 => ?_) (fun c1 => ?_)⟩
    · refine ⟨_, rfl, _, _, rfl, rfl, ⟨by decide, by decide⟩, _, rfl, _, _, rfl, rfl, by omega, by rw [sizeLine_eq]; exact (by decide : 1 ≤ 16777216), fun l hl => ?_⟩
      have a0 := Int.emod_nonneg (x / 64) (show (m : Int) ≠ 0 by omega)
      have a1 := Int.emod_lt_of_pos (x / 64) (show (0 : Int) < m by omega)
      refine ⟨_, rfl, k _ l [x / 64 % (m : Nat)] (s1.trans (s2.trans (same_upd hl))) ((s1.trans s2).free hl) upd_same (by simp) (by simp) fun y hy => ?_⟩
      rw [List.mem_singleton.mp hy]; exact ⟨a0, a1⟩
    · refine ⟨_, rfl, k _ D ns (s1.trans s2) hD (s2 _ _ e1) (fun e => c1 (hc.mpr e)) nd bd⟩
end KK

set_option Elab.async false
set_option linter.all false
set_option maxRecDepth 100000
set_option maxHeartbeats 8000000
namespace KK
open PySem PySem.Spec L2 L3
theorem at3 : ∀ {j : Nat}, j < 3 → ([V.str "zeta", .str "b", .str "am"])[j]? = some (V.str ((["zeta", "b", "am"] : List Str).getD j ""))
  | 0, _ => rfl
  | 1, _ => rfl
  | 2, _ => rfl
  | n + 3, h => absurd h (by omega)
def sp__law_lists (K : PySem.W.Frag) (a : Adr) : Sp := fun vs H Q _ => ∃ (c : Int), vs = [.int c, .int 5] ∧ ∀ H' t s w st f d, Same H H' → H t = none → H' t = some (.tup [s, w, st, f]) → PartsV (New H H') s w st f d → Small 5 3 d → Q (.ref t) H'
theorem ok__law_lists {P : Program} {w : World} {K : PySem.W.Frag} {mg : Str → Option Value} {base : Heap} {a : Adr} (T : Txt K mg a) (hw : w.params = a.Pm) : FnOk P w K mg base CX0 2 a._law_lists a._law_lists_fd ["_law_cell", "_law_most"] (sp__law_lists K a) := by
  have G__law_stream := ok__law_stream (P := P) (w := w) (base := base) T hw
  have G__law_some := ok__law_some (P := P) (w := w) (base := base) T hw
  refine T.f__law_lists.ok sc__law_lists (fun vs H Q E h => ?_) (fun cdv A outer s H vs Q E hr h => ?_)
  · obtain ⟨c, rfl, _⟩ := h
    rfl
  · obtain ⟨c, rfl, k⟩ := h
    refine ⟨_, (@pss_cons _ _ _ _ _ (@ps_set _ _ (2) _ _ _ _ sc__law_lists.nd
      rfl
      (Or.inr rfl)
      (@pe_lst _ _ _ _ (@pa_c _ _ _ _ _ pe_str
      (@pa_c _ _ _ _ _ pe_str
      (@pa_c _ _ _ _ _ pe_str
      pa_nil
      (by rfl))
      (by rfl))
      (by rfl)))
      (by rfl)
      (by first | exact .inl rfl | exact .inr rfl | assumption))
      (@pss_cons _ _ _ _ _ (@ps_set _ _ (3) _ _ _ _ sc__law_lists.nd
      rfl
      (Or.inr rfl)
      (pe_call G__law_stream (hr.mono (by decide)) rfl T.g__law_stream T.f__law_stream.kp T.n__law_stream .nil pass0 (@pa_cons _ _ _ _ _ (pv 0)
      (@pa_cons _ _ _ _ _ (@pe_op _ _ _ _ _ _ _ _ op_add
      (@pe_op _ _ _ _ _ _ _ _ op_mul
      pe_int
      (pv 1))
      pe_int)
      pa_nil
      (by rfl))
      (by rfl)))
      (by rfl)
      (by first | exact .inl rfl | exact .inr rfl | assumption))
      (@pss_cons _ _ _ _ _ (@ps_set _ _ (4) _ _ _ _ sc__law_lists.nd
      rfl
      (Or.inl rfl)
      (@pe_op _ _ _ _ _ _ _ _ op_add
      pe_int
      (@pe_op _ _ _ _ _ _ _ _ op_mod
      (@pe_ix _ _ _ _ _ _ _ (ix_listK (K := K) rfl)
      (pv 3)
      pe_int
      (fun _ _ => rfl))
      (pv 1)))
      (by rfl)
      (by first | exact .inl rfl | exact .inr rfl | assumption))
      (@pss_cons _ _ _ _ _ (@ps_set _ _ (5) _ _ _ _ sc__law_lists.nd
      rfl
      (Or.inl rfl)
      (@pe_lst _ _ _ _ pa_nil)
      (by rfl)
      (by first | exact .inl rfl | exact .inr rfl | assumption))
      (@pss_cons _ _ _ _ _ (@ps_set _ _ (6) _ _ _ _ sc__law_lists.nd
      rfl
      (Or.inl rfl)
      (@pe_lst _ _ _ _ pa_nil)
      (by rfl)
      (by first | exact .inl rfl | exact .inr rfl | assumption))
      (@pss_cons _ _ _ _ _ (ps_for PassesOwn.never rfl (pi_range1 rfl T.b_range (@pa_cons _ _ _ _ _ (pv 4)
      pa_nil
      (by rfl))) (pg_name (i := 7) sc__law_lists.nd rfl (Or.inr rfl)) (@pss_cons _ _ _ _ _ (@ps_expr _ _ _ _ (pe_bm PySem.F.plainAttrs_list PySem.F.slot_list_append PySem.F.type_list_append mt_append (pv 5) (@pa_cons _ _ _ _ _ (pe_compL (Nc := ["_law_j", "_law_names", "_law_xs", "_law_k"]) (ix := [none, some 2, some 3, some 7]) (CompOk.of (by decide +kernel : compChk (defScope s__law_lists) ["_law_cell", "_law_most", "_law_names", "_law_xs", "_law_many", "_law_signs", "_law_ways", "_law_k", "_law_first", "_law_more", "_law_starts", "_law_fair"] ["_law_j", "_law_names", "_law_xs", "_law_k"] [none, some 2, some 3, some 7] _ = true)) rfl (pi_range1 rfl T.b_range (@pa_cons _ _ _ _ _ pe_int
      pa_nil
      (by rfl))) (fun _ _ _ _ _ => (pg_name (i := 0) (show List.Nodup (["_law_j", "_law_names", "_law_xs", "_law_k"] : List Str) by decide +kernel) rfl (Or.inl rfl))) (fun _ _ _ _ _ => (pts_one (@pt_cmpR _ _ _ _ _ _ _ _ op_eq
      (@pe_op _ _ _ _ _ _ _ _ op_mod
      (@pe_op _ _ _ _ _ _ _ _ op_fdiv
      (@pe_ix _ _ _ _ _ _ _ (ix_listK (K := K) rfl)
      (pv 2)
      (@pe_op _ _ _ _ _ _ _ _ op_add
      pe_int
      (pv 3))
      (fun _ _ => rfl))
      (@pe_op _ _ _ _ _ _ _ _ op_shl
      pe_int
      (pv 0)))
      pe_int)
      pe_int
      (nomark _)))) (fun _ _ _ _ _ => (@pe_ix _ _ _ _ _ _ _ (ix_listK (K := K) rfl)
      (pv 1)
      (pv 0)
      (fun _ _ => rfl))))
      pa_nil
      (by rfl)))
      (by rfl))
      (@pss_cons _ _ _ _ _ (@ps_set _ _ (8) _ _ _ _ sc__law_lists.nd
      rfl
      (Or.inr rfl)
      (@pe_op _ _ _ _ _ _ _ _ op_mod
      (@pe_ix _ _ _ _ _ _ _ (ix_listK (K := K) rfl)
      (pv 3)
      (@pe_op _ _ _ _ _ _ _ _ op_add
      (@pe_op _ _ _ _ _ _ _ _ op_add
      pe_int
      (pv 1))
      (pv 7))
      (fun _ _ => rfl))
      (pv 4))
      (by rfl)
      (by first | exact .inl rfl | exact .inr rfl | assumption))
      (@pss_cons _ _ _ _ _ (@ps_set _ _ (9) _ _ _ _ sc__law_lists.nd
      rfl
      (Or.inl rfl)
      (pe_slice (sl_listK (K := K) rfl) (pe_call G__law_some (hr.mono (by decide)) rfl T.g__law_some T.f__law_some.kp T.n__law_some .nil pass0 (@pa_cons _ _ _ _ _ (@pe_op _ _ _ _ _ _ _ _ op_fdiv
      (@pe_ix _ _ _ _ _ _ _ (ix_listK (K := K) rfl)
      (pv 3)
      (@pe_op _ _ _ _ _ _ _ _ op_add
      (@pe_op _ _ _ _ _ _ _ _ op_add
      pe_int
      (pv 1))
      (pv 7))
      (fun _ _ => rfl))
      pe_int)
      (@pa_cons _ _ _ _ _ (pv 4)
      pa_nil
      (by rfl))
      (by rfl))) po_none (po_some (@pe_op _ _ _ _ _ _ _ _ op_mod
      (@pe_op _ _ _ _ _ _ _ _ op_fdiv
      (@pe_ix _ _ _ _ _ _ _ (ix_listK (K := K) rfl)
      (pv 3)
      (@pe_op _ _ _ _ _ _ _ _ op_add
      (@pe_op _ _ _ _ _ _ _ _ op_add
      pe_int
      (pv 1))
      (pv 7))
      (fun _ _ => rfl))
      pe_int)
      pe_int)))
      (by rfl)
      (by first | exact .inl rfl | exact .inr rfl | assumption))
      (@pss_one _ _ _ (@ps_expr _ _ _ _ (pe_bm PySem.F.plainAttrs_list PySem.F.slot_list_append PySem.F.type_list_append mt_append (pv 6) (@pa_cons _ _ _ _ _ (@pe_op _ _ _ _ _ _ _ _ op_cat
      (@pe_lst _ _ _ _ (@pa_cons _ _ _ _ _ (pv 8)
      pa_nil
      (by rfl)))
      (pe_compL (Nc := ["_law_room", "_law_first"]) (ix := [none, some 8]) (CompOk.of (by decide +kernel : compChk (defScope s__law_lists) ["_law_cell", "_law_most", "_law_names", "_law_xs", "_law_many", "_law_signs", "_law_ways", "_law_k", "_law_first", "_law_more", "_law_starts", "_law_fair"] ["_law_room", "_law_first"] [none, some 8] _ = true)) rfl (pi_listK (K := K) rfl (pv 9)) (fun _ _ _ _ _ => (pg_name (i := 0) (show List.Nodup (["_law_room", "_law_first"] : List Str) by decide +kernel) rfl (Or.inl rfl))) (fun _ _ _ _ _ => (pts_one (@pt_cmpR _ _ _ _ _ _ _ _ op_ne
      (pv 0)
      (pv 1)
      (nomark _)))) (fun _ _ _ _ _ => (pv 0))))
      pa_nil
      (by rfl)))
      (by rfl)))))))
      (@pss_cons _ _ _ _ _ (@ps_set _ _ (10) _ _ _ _ sc__law_lists.nd
      rfl
      (Or.inl rfl)
      (pe_slice (sl_listK (K := K) rfl) (pe_call G__law_some (hr.mono (by decide)) rfl T.g__law_some T.f__law_some.kp T.n__law_some .nil pass0 (@pa_cons _ _ _ _ _ (@pe_ix _ _ _ _ _ _ _ (ix_listK (K := K) rfl)
      (pv 3)
      (@pe_op _ _ _ _ _ _ _ _ op_add
      (@pe_op _ _ _ _ _ _ _ _ op_mul
      pe_int
      (pv 1))
      pe_int)
      (fun _ _ => rfl))
      (@pa_cons _ _ _ _ _ (pv 4)
      pa_nil
      (by rfl))
      (by rfl))) po_none (po_some (@pe_op _ _ _ _ _ _ _ _ op_add
      pe_int
      (@pe_op _ _ _ _ _ _ _ _ op_mod
      (@pe_ix _ _ _ _ _ _ _ (ix_listK (K := K) rfl)
      (pv 3)
      (@pe_op _ _ _ _ _ _ _ _ op_add
      (@pe_op _ _ _ _ _ _ _ _ op_mul
      pe_int
      (pv 1))
      pe_int)
      (fun _ _ => rfl))
      pe_int))))
      (by rfl)
      (by first | exact .inl rfl | exact .inr rfl | assumption))
      (@pss_cons _ _ _ _ _ (@ps_set _ _ (11) _ _ _ _ sc__law_lists.nd
      rfl
      (Or.inl rfl)
      (@pe_ix _ _ _ _ _ _ _ (ix_listK (K := K) rfl)
      (@pe_lst _ _ _ _ (@pa_c _ _ _ _ _ (@pe_lst _ _ _ _ (@pa_cons _ _ _ _ _ pe_str
      (@pa_cons _ _ _ _ _ pe_str
      pa_nil
      (by rfl))
      (by rfl)))
      (@pa_c _ _ _ _ _ (@pe_lst _ _ _ _ pa_nil)
      (@pa_c _ _ _ _ _ (@pe_lst _ _ _ _ (@pa_cons _ _ _ _ _ pe_str
      pa_nil
      (by rfl)))
      (@pa_c _ _ _ _ _ (@pe_lst _ _ _ _ pa_nil)
      pa_nil
      (by rfl))
      (by rfl))
      (by rfl))
      (by rfl)))
      (@pe_op _ _ _ _ _ _ _ _ op_mod
      (@pe_ix _ _ _ _ _ _ _ (ix_listK (K := K) rfl)
      (pv 3)
      (@pe_op _ _ _ _ _ _ _ _ op_add
      (@pe_op _ _ _ _ _ _ _ _ op_mul
      pe_int
      (pv 1))
      pe_int)
      (fun _ _ => rfl))
      pe_int)
      (fun _ _ => rfl))
      (by rfl)
      (by first | exact .inl rfl | exact .inr rfl | assumption))
      (@pss_one _ _ _ (@ps_ret _ _ _ _ (@pe_tup _ _ _ _ _ (@pa_c _ _ _ _ _ (pv 5)
      (@pa_c _ _ _ _ _ (pv 6)
      (@pa_c _ _ _ _ _ (pv 10)
      (@pa_c _ _ _ _ _ (pv 11)
      pa_nil
      (by rfl))
      (by rfl))
      (by rfl))
      (by rfl))))))))))))), ?_⟩
    refine ⟨by rw [sizeLine_eq]; exact (by decide : 3 ≤ 16777216), fun Nm hNm0 => ?_⟩
    obtain ⟨H1, qN, s1, hNm1⟩ := newE (o := .lst [.str "zeta", .str "b", .str "am"]) hNm0
    rw [qN]; clear qN
    refine ⟨_, rfl, _, rfl, _, _, rfl, rfl, .inl ⟨by decide, by decide⟩, _, _, rfl, rfl, c, 14, rfl, by decide, fun H2 X ns s2 X0 hX ln => ?_⟩
    have hx : ∀ j : Nat, (hj : j < 14) → atI (ns.map V.int) (j : Int) = some (.int (ns[j]'(by omega))) := fun j hj => atI_nat (by rw [List.getElem?_map, List.getElem?_eq_getElem (by omega)]; rfl)
    refine ⟨_, rfl, X, _, _, _, rfl, rfl, SqL.of hX, hx 0 (by omega), _, rfl, _, _, rfl, rfl, by decide, _, _, rfl, rfl, ?_⟩
    have m0 := Int.emod_nonneg (ns[0]'(by omega)) (show (5 : Int) ≠ 0 by decide)
    have m1 := Int.emod_lt_of_pos (ns[0]'(by omega)) (show (0 : Int) < 5 by decide)
    generalize ns[0]'(by omega) % (5 : Int) = r0 at m0 m1 ⊢
    obtain ⟨M, eM⟩ := Int.eq_ofNat_of_zero_le (show 0 ≤ 1 + r0 by omega)
    rw [eM]
    have M1 : 1 ≤ M := by omega
    have M5 : M ≤ 5 := by omega
    clear m0 m1 eM
    have hNm2 := s2 _ _ hNm1
    have s02 := s1.trans s2
    refine ⟨by rw [sizeLine_eq]; decide, fun S hS0 => ?_⟩
    obtain ⟨H3, qN, s3, hS3⟩ := newE (o := .lst []) hS0
    rw [qN]; clear qN
    refine ⟨by rw [sizeLine_eq]; decide, fun W hW0 => ?_⟩
    obtain ⟨H4, qN, s4, hW4⟩ := newE (o := .lst []) hW0
    rw [qN]; clear qN
    have nSW : S ≠ W := fun e => by rw [← e, hS3] at hW0; cases hW0
    refine ⟨_, rfl, _, rfl, by omega, by omega, ?_⟩
    rw [Int.toNat_natCast]
    have hW2 : H2 W = none := s3.free hW0
    refine for_gen (J := Itr 0 M) (n := M) (fun i σ G => ∃ (z7 z8 z9 : Option V) (zs : List (V × List Str)) (zw : List (V × List Int)), σ = [some (.int c), some (.int 5), some (.ref Nm), some (.ref X), some (.int M), some (.ref S), some (.ref W), z7, z8, z9, none, none] ∧ Same H2 G ∧ G S = some (.lst (zs.map Prod.fst)) ∧ G W = some (.lst (zw.map Prod.fst)) ∧ zs.length = i ∧ zw.length = i ∧ ZL LS (hid2 S W (New H2 G)) zs ∧ ZL LI (hid2 S W (New H2 G)) zw ∧ (∀ x ∈ zs, x.2.Sublist ["zeta", "b", "am"]) ∧ (∀ x ∈ zw, x.2.Nodup ∧ x.2 ≠ [] ∧ (∀ y ∈ x.2, 0 ≤ y ∧ y < (M : Nat)) ∧ x.2.length ≤ 20)) ?_ (fun i σ H' hi _ => hi) (fun σ H' _ => Nat.le_refl _) ?_ ?_
    · exact ⟨_, _, _, [], [], rfl, s3.trans s4, s4 _ _ hS3, hW4, rfl, rfl, ZL.nil, ZL.nil, (fun x hx => by cases hx), (fun x hx => by cases hx)⟩
    · rintro i x σ G0 G hi ⟨z7, z8, z9, zs, zw, rfl, sG, gS, gW, lzs, lzw, qs, qw, bs, bw⟩ ⟨rfl, rfl⟩
      have ei : (0 : Int) + (i : Int) = ((i : Nat) : Int) := Int.zero_add _
      rw [ei]
      have e1 : (1 : Int) + (i : Int) = ((1 + i : Nat) : Int) := by omega
      have e6 : (1 : Int) + 5 + (i : Int) = ((6 + i : Nat) : Int) := by omega
      have hXG := sG _ _ hX
      refine ⟨_, rfl, .inl ⟨rfl, _, SqL.of gS⟩, 3, rfl, by decide, by decide, fun D1 hD1 => ?_⟩
      refine comp_selR (n := 3) (fun j => decide (V.int ((ns[1 + i]'(by omega)) / (1 * 2 ^ ((j : Nat) : Int).toNat) % 2) = V.int 1)) (fun j => V.str ((["zeta", "b", "am"] : List Str).getD j "")) hD1 (by rw [sizeLine_eq]; decide) ?_ ?_
      · intro j hj F N N0 sF h1 h2
        refine ⟨_, rfl, _, rfl, _, _, rfl, rfl, X, _, _, _, rfl, rfl, SqL.of (sF _ _ hXG), by rw [e1]; exact hx (1 + i) (by omega), _, rfl, _, _, rfl, rfl, ⟨by omega, by omega, by decide⟩, _, _, rfl, rfl, shl_ok (by omega), _, _, rfl, rfl, by decide, rfl, _, rfl, ite2 (fun c => ?_) (fun c => ?_)⟩
        · exact ⟨_, rfl, _, rfl, Nm, _, _, _, rfl, rfl, SqL.of (sF _ _ (sG _ _ hNm2)), atI_nat (at3 hj), h1 _ (.refl _) c⟩
        · exact h2 _ (.refl _) (by simpa using c)
      intro G1 eD1 t1
      obtain ⟨ss, ess, sub⟩ := pick3 (fun j => decide (V.int ((ns[1 + i]'(by omega)) / (1 * 2 ^ ((j : Nat) : Int).toNat) % 2) = V.int 1))
      rw [ess] at eD1
      clear ess
      have nD1 : D1 ≠ S ∧ D1 ≠ W := ⟨(ne_new gS hD1).symm, (ne_new gW hD1).symm⟩
      have sl3 := sub.length_le
      refine ⟨S, _, _, rfl, rfl, t1 _ _ gS, by rw [List.length_map, sizeLine_eq]; omega, ?_⟩
      obtain ⟨G2, eG2⟩ : ∃ G2, upd G1 S (.lst (zs.map Prod.fst ++ [.ref D1])) = G2 := ⟨_, rfl⟩
      rw [eG2]
      have gS2 : G2 S = some (.lst ((zs ++ [(V.ref D1, ss)]).map Prod.fst)) := by rw [← eG2, upd_same, List.map_append]; rfl
      have t2 : Same2 S W G G2 := by rw [← eG2]; exact (Same.two t1).upd1
      have gW2 : G2 W = some (.lst (zw.map Prod.fst)) := by rw [← eG2, upd_ne (Ne.symm nSW)]; exact t1 _ _ gW
      have eD2 : G2 D1 = some (.lst (ss.map V.str)) := by rw [← eG2, upd_ne nD1.1]; exact eD1
      have sG2 : Same H2 G2 := ((Same.two sG).trans t2).same hS0 hW2
      clear eG2 t1 eD1
      have hXG2 := sG2 _ _ hX
      refine ⟨_, rfl, _, rfl, _, _, rfl, rfl, _, rfl, _, _, rfl, rfl, X, _, _, _, rfl, rfl, SqL.of hXG2, by rw [e6]; exact hx (6 + i) (by omega), _, rfl, _, _, rfl, rfl, by omega, ?_⟩
      have f0 := Int.emod_nonneg (ns[6 + i]'(by omega)) (show (M : Int) ≠ 0 by omega)
      have f1 := Int.emod_lt_of_pos (ns[6 + i]'(by omega)) (show (0 : Int) < M by omega)
      generalize ns[6 + i]'(by omega) % (M : Int) = fi at f0 f1 ⊢
      refine ⟨_, rfl, _, rfl, _, _, rfl, rfl, _, rfl, _, _, rfl, rfl, X, _, _, _, rfl, rfl, SqL.of hXG2, by rw [e6]; exact hx (6 + i) (by omega), _, _, rfl, rfl, ⟨by decide, by decide⟩, _, rfl, _, M, rfl, M1, by omega, fun G3 Pk pk t3 P0 hP pne pnd pbd => ?_⟩
      refine ⟨_, rfl, _, rfl, _, _, rfl, rfl, _, rfl, _, _, rfl, rfl, X, _, _, _, rfl, rfl, SqL.of (t3 _ _ hXG2), by rw [e6]; exact hx (6 + i) (by omega), _, _, rfl, rfl, ⟨by decide, by decide⟩, _, _, rfl, rfl, by decide, _, rfl, Pk, _, rfl, SqL.of hP, fun R hR => ?_⟩
      have u0 := Int.emod_nonneg ((ns[6 + i]'(by omega)) / 8) (show (3 : Int) ≠ 0 by decide)
      obtain ⟨u, eu⟩ := Int.eq_ofNat_of_zero_le u0
      rw [eu, cutV_upto, ← List.map_take]
      clear u0 eu
      have sbk : (pk.take u).Sublist pk := List.take_sublist _ _
      have pnd2 := pnd.sublist sbk
      have pbd2 : ∀ y ∈ pk.take u, 0 ≤ y ∧ y < (M : Nat) := fun y hy => pbd y (sbk.subset hy)
      generalize pk.take u = mr at pnd2 pbd2 ⊢
      obtain ⟨G4, qN, t4, eR⟩ := newE (o := .lst (mr.map V.int)) hR
      rw [qN]; clear qN
      refine ⟨_, rfl, .inl ⟨rfl, _, SqL.of ((t3.trans t4) _ _ gW2)⟩, _, rfl, by rw [sizeLine_eq]; exact (by decide : 1 ≤ 16777216), fun F hF => ?_⟩
      obtain ⟨G5, qN, t5, eF⟩ := newE (o := .lst [.int fi]) hF
      rw [qN]; clear qN
      have mlen : mr.length ≤ M := by
        have := nodup_len_le pnd2 pbd2
        exact this
      refine ⟨_, rfl, R, rfl, ⟨_, SqL.of (t5 _ _ eR)⟩, fun D2 hD2 => ?_⟩
      refine comp_selL mr V.int (fun y => !decide (V.int y = V.int fi)) V.int hD2 (SqL.of (t5 _ _ eR)) (by rw [sizeLine_eq]; omega) ?_ ?_
      · intro y hy E' N N0 sE h1 h2
        refine ⟨_, rfl, _, rfl, rfl, _, rfl, ite2 (fun c => ?_) (fun c => ?_)⟩
        · exact ⟨_, rfl, h1 _ (.refl _) c⟩
        · exact h2 _ (.refl _) (by simpa using c)
      intro G6 eD t6
      have fl : (mr.filter (fun y => !decide (V.int y = V.int fi))).length ≤ M := Nat.le_trans (List.length_filter_le _ _) mlen
      have fnd := pnd2.filter (fun y => !decide (V.int y = V.int fi))
      have fbd : ∀ y ∈ mr.filter (fun y => !decide (V.int y = V.int fi)), (0 ≤ y ∧ y < (M : Nat)) ∧ y ≠ fi := fun y hy => by
        obtain ⟨h1, h2⟩ := List.mem_filter.mp hy
        exact ⟨pbd2 y h1, fun e => by rw [e] at h2; simp at h2⟩
      generalize mr.filter (fun y => !decide (V.int y = V.int fi)) = fr at eD fl fnd fbd
      refine ⟨F, D2, _, _, rfl, rfl, t6 _ _ eF, eD, by rw [List.length_map, sizeLine_eq]; show 1 + fr.length ≤ 16777216; omega, fun Z hZ => ?_⟩
      have eZ : [V.int fi] ++ fr.map V.int = (fi :: fr).map V.int := rfl
      rw [eZ]
      obtain ⟨G7, qN, t7, gZ⟩ := newE (o := .lst ((fi :: fr).map V.int)) hZ
      rw [qN]; clear qN
      have t27 := t3.trans (t4.trans (t5.trans (t6.trans t7)))
      have Z2 : G2 Z = none := (t3.trans (t4.trans (t5.trans t6))).free hZ
      have nZ : Z ≠ S ∧ Z ≠ W := ⟨(ne_new gS2 Z2).symm, (ne_new gW2 Z2).symm⟩
      refine ⟨W, _, _, rfl, rfl, t27 _ _ gW2, by rw [List.length_map, sizeLine_eq]; omega, ?_⟩
      have tt : Same2 S W G2 (upd G7 W (.lst (zw.map Prod.fst ++ [.ref Z]))) := (Same.two t27).upd2
      refine ⟨_, _, _, zs ++ [(V.ref D1, ss)], zw ++ [(V.ref Z, fi :: fr)], rfl, ((Same.two sG2).trans tt).same hS0 hW2, by rw [upd_ne nSW]; exact t27 _ _ gS2, by rw [upd_same, List.map_append]; rfl, by rw [List.length_append, lzs]; rfl, by rw [List.length_append, lzw]; rfl, ?_, ?_, ?_, ?_⟩
      · refine ZL.app (qs.mono LS.mono (t2.trans tt).new) (ZL.one ⟨D1, rfl, hid2_mk nD1.1 nD1.2 (New.mk (sG.free hD1) (tt _ _ nD1.1 nD1.2 eD2))⟩)
      · refine ZL.app (qw.mono LI.mono (t2.trans tt).new) (ZL.one ⟨Z, rfl, hid2_mk nZ.1 nZ.2 (New.mk (sG2.free Z2) (by rw [upd_ne nZ.2]; exact gZ))⟩)
      · intro x hx
        rcases List.mem_append.mp hx with h | h
        · exact bs x h
        · cases List.mem_singleton.mp h; exact sub
      · intro x hx
        rcases List.mem_append.mp hx with h | h
        · exact bw x h
        · cases List.mem_singleton.mp h
          refine ⟨List.nodup_cons.mpr ⟨fun h => (fbd _ h).2 rfl, fnd⟩, by simp, fun y hy => ?_, by show fr.length + 1 ≤ 20; omega⟩
          rcases List.mem_cons.mp hy with rfl | h
          · exact ⟨f0, f1⟩
          · exact (fbd y h).1
    rintro σ H5 ⟨z7, z8, z9, zs, zw, rfl, sG, gS, gW, lzs, lzw, qs, qw, bs, bw⟩
    have hX5 := sG _ _ hX
    refine ⟨_, rfl, _, rfl, _, _, rfl, rfl, .inl ⟨by decide, by decide⟩, _, _, rfl, rfl, X, _, _, _, rfl, rfl, SqL.of hX5, hx 11 (by omega), _, rfl, _, M, rfl, M1, by omega, fun H6 Pk pk s6 P0 hP pne pnd pbd => ?_⟩
    refine ⟨_, rfl, _, rfl, _, _, rfl, rfl, .inl ⟨by decide, by decide⟩, _, _, rfl, rfl, X, _, _, _, rfl, rfl, SqL.of (s6 _ _ hX5), hx 12 (by omega), _, _, rfl, rfl, by decide, _, _, rfl, rfl, _, rfl, Pk, _, rfl, SqL.of hP, fun R hR => ?_⟩
    have u0 := Int.emod_nonneg (ns[12]'(by omega)) (show (2 : Int) ≠ 0 by decide)
    generalize ns[12]'(by omega) % (2 : Int) = r2 at u0 ⊢
    obtain ⟨u, eu⟩ := Int.eq_ofNat_of_zero_le (show 0 ≤ 1 + r2 by omega)
    have u1 : 1 ≤ u := by omega
    rw [eu, cutV_upto, ← List.map_take]
    clear u0 eu
    have sbk : (pk.take u).Sublist pk := List.take_sublist _ _
    have tnd := pnd.sublist sbk
    have tbd : ∀ y ∈ pk.take u, 0 ≤ y ∧ y < (M : Nat) := fun y hy => pbd y (sbk.subset hy)
    have tne : pk.take u ≠ [] := fun e => by
      have := congrArg List.length e
      rw [List.length_take, List.length_nil] at this
      have : pk.length ≠ 0 := fun z => pne (List.eq_nil_of_length_eq_zero z)
      omega
    generalize pk.take u = sts at tnd tbd tne ⊢
    have tlen : sts.length ≤ M := nodup_len_le tnd tbd
    obtain ⟨H7, qN, s7, eR⟩ := newE (o := .lst (sts.map V.int)) hR
    rw [qN]; clear qN
    -- fair
    refine ⟨by rw [sizeLine_eq]; decide, fun n1 h1 => ?_⟩
    obtain ⟨H8, qN, t1, g1⟩ := newE (o := .lst [.str "am", .str "b"]) h1
    rw [qN]; clear qN
    refine ⟨by rw [sizeLine_eq]; decide, fun n2 h2 => ?_⟩
    obtain ⟨H9, qN, t2, g2⟩ := newE (o := .lst []) h2
    rw [qN]; clear qN
    refine ⟨by rw [sizeLine_eq]; decide, fun n3 h3 => ?_⟩
    obtain ⟨H10, qN, t3, g3⟩ := newE (o := .lst [.str "zeta"]) h3
    rw [qN]; clear qN
    refine ⟨by rw [sizeLine_eq]; decide, fun n4 h4 => ?_⟩
    obtain ⟨H11, qN, t4, g4⟩ := newE (o := .lst []) h4
    rw [qN]; clear qN
    refine ⟨by rw [sizeLine_eq]; exact (by decide : 4 ≤ 16777216), fun n5 h5 => ?_⟩
    obtain ⟨H12, qN, t5, g5⟩ := newE (o := .lst [.ref n1, .ref n2, .ref n3, .ref n4]) h5
    rw [qN]; clear qN
    have s57 := s6.trans s7
    have s7c : Same H7 H12 := t1.trans (t2.trans (t3.trans (t4.trans t5)))
    obtain ⟨v, fs, hv, hf, fnd, fnm, f3⟩ : ∃ (v : V) (fs : List Str), atI [V.ref n1, .ref n2, .ref n3, .ref n4] (ns[13]'(by omega) % 4) = some v ∧ LS (New H7 H12) v fs ∧ fs.Nodup ∧ (∀ x ∈ fs, isNameS x = true) ∧ fs.length ≤ 3 := by
      obtain ⟨_, v, hv, hvm⟩ := at_mod (ts := [V.ref n1, .ref n2, .ref n3, .ref n4]) (ns[13]'(by omega)) (by simp)
      simp only [List.mem_cons, List.not_mem_nil, or_false] at hvm
      rcases hvm with rfl | rfl | rfl | rfl
      · exact ⟨_, ["am", "b"], hv, ⟨n1, rfl, New.mk h1 ((t2.trans (t3.trans (t4.trans t5))) _ _ g1)⟩, by decide +kernel, by decide +kernel, by decide⟩
      · exact ⟨_, [], hv, ⟨n2, rfl, New.mk (t1.free h2) ((t3.trans (t4.trans t5)) _ _ g2)⟩, by simp, by simp, by decide⟩
      · exact ⟨_, ["zeta"], hv, ⟨n3, rfl, New.mk ((t1.trans t2).free h3) ((t4.trans t5) _ _ g3)⟩, by decide +kernel, by decide +kernel, by decide⟩
      · exact ⟨_, [], hv, ⟨n4, rfl, New.mk ((t1.trans (t2.trans t3)).free h4) (t5 _ _ g4)⟩, by simp, by simp, by decide⟩
    refine ⟨_, rfl, _, rfl, _, _, rfl, rfl, .inl ⟨by decide, by decide⟩, _, _, rfl, rfl, X, _, _, _, rfl, rfl, SqL.of ((s57.trans s7c) _ _ hX5), hx 13 (by omega), _, _, rfl, rfl, by decide, n5, _, _, _, rfl, rfl, SqL.of g5, hv, ?_⟩
    refine ⟨_, rfl, _, rfl, _, rfl, _, rfl, by rw [sizeLine_eq]; exact (by decide : 4 ≤ 16777216), fun t ht => ?_⟩
    have st := same_upd (o := .tup [.ref S, .ref W, .ref R, v]) ht
    have s5c := s57.trans (s7c.trans st)
    have sH5 := s02.trans sG
    have hRn : H R = none := (sH5.trans s6).free hR
    refine k _ t _ _ _ _ ⟨zs.map Prod.snd, zw.map Prod.snd, sts, fs⟩ (sH5.trans s5c) ((sH5.trans (s57.trans s7c)).free ht) upd_same ⟨?_, ?_, ?_, ?_⟩ ⟨⟨?_, ?_, ?_, ?_, ?_, ?_, ?_⟩, ?_, ?_⟩
    · exact ZL.ll (New.mk (s02.free hS0) (s5c _ _ gS)) (qs.mono LS.mono (hid2_sub.trans (New.mono s02 s5c)))
    · exact ZL.ll (New.mk (s02.free hW2) (s5c _ _ gW)) (qw.mono LI.mono (hid2_sub.trans (New.mono s02 s5c)))
    · exact ⟨R, rfl, New.mk hRn ((s7c.trans st) _ _ eR)⟩
    · exact LS.mono _ _ _ _ (New.mono (sH5.trans s57) st) hf
    · show 1 ≤ (zs.map Prod.snd).length; rw [List.length_map]; omega
    · show (zs.map Prod.snd).length ≤ 20; rw [List.length_map]; omega
    · show (zw.map Prod.snd).length = (zs.map Prod.snd).length; rw [List.length_map, List.length_map]; omega
    · intro ss hss
      obtain ⟨x, hx, rfl⟩ := List.mem_map.mp hss
      have sb := bs x hx
      have := sb.length_le
      exact ⟨names3.2.sublist sb, fun y hy => names3.1 y (sb.subset hy), Nat.le_trans this (by decide)⟩
    · intro ss hss
      obtain ⟨x, hx, rfl⟩ := List.mem_map.mp hss
      show _ ∧ _ ∧ (∀ y ∈ x.2, 0 ≤ y ∧ y < (((zs.map Prod.snd).length : Nat) : Int)) ∧ _
      rw [List.length_map, lzs]
      exact bw x hx
    · refine ⟨tnd, tne, ?_, by show sts.length ≤ 20; omega⟩
      show ∀ y ∈ sts, 0 ≤ y ∧ y < (((zs.map Prod.snd).length : Nat) : Int)
      rw [List.length_map, lzs]
      exact tbd
    · exact ⟨fnd, fnm, f3⟩
    · show (zs.map Prod.snd).length ≤ 5; rw [List.length_map]; omega
    · intro ss hss
      obtain ⟨x, hx, rfl⟩ := List.mem_map.mp hss
      exact (bs x hx).length_le
end KK

set_option Elab.async false
set_option linter.all false
set_option maxRecDepth 100000
set_option maxHeartbeats 4000000
namespace L3
open PySem PySem.Spec PyProof.Rows L2
/-! ### [f(x) for x in xs], elements that are new lists -/
def RL {α : Type} (g : α → List V) (H : Hp) (v : V) (x : α) : Prop := ∃ b, v = .ref b ∧ H b = some (.lst (g x))
theorem RL.ls {α : Type} {f : α → List Str} {H : Hp} {z : List (V × α)} {a : Addr} {l : List α} (h : H a = some (.lst (z.map Prod.fst))) (e : z.map Prod.snd = l) (q : ZL (RL fun x => (f x).map V.str) H z) : LL LS H (.ref a) (l.map f) := by
  have h2 : z.map Prod.fst = (z.map fun x => (x.1, f x.2)).map Prod.fst := by rw [List.map_map]; rfl
  rw [h2] at h
  have := ZL.ll (r := LS) h fun x hx => by
    obtain ⟨y, hy, rfl⟩ := List.mem_map.mp hx
    exact q y hy
  rw [List.map_map] at this
  rw [← e, List.map_map]
  exact this
theorem RL.li {α : Type} {f : α → List Int} {H : Hp} {z : List (V × α)} {a : Addr} {l : List α} (h : H a = some (.lst (z.map Prod.fst))) (e : z.map Prod.snd = l) (q : ZL (RL fun x => (f x).map V.int) H z) : LL LI H (.ref a) (l.map f) := by
  have h2 : z.map Prod.fst = (z.map fun x => (x.1, f x.2)).map Prod.fst := by rw [List.map_map]; rfl
  rw [h2] at h
  have := ZL.ll (r := LI) h fun x hx => by
    obtain ⟨y, hy, rfl⟩ := List.mem_map.mp hx
    exact q y hy
  rw [List.map_map] at this
  rw [← e, List.map_map]
  exact this
theorem comp_new {α : Type} {J : It} {D : Addr} {te : TE} {τ : St} {H0 : Hp} {Q : VK} (l : List α) (φ : α → V) (g : α → List V) (hD : H0 D = none) (hz : l.length ≤ sizeLine)
    (hgo : ∀ i H, i < l.length → Same H0 H → J.go i H) (hst : ∀ H, Same H0 H → J.stop l.length H) (hy : ∀ i x H H2 (h : i < l.length), Same H0 H → J.yld i H x H2 → H2 = H ∧ x = φ l[i])
    (step : ∀ x ∈ l, ∀ H (N : V → Hp → Prop), Same H0 H → (∀ b H4, Same H H4 → H b = none → H4 b = some (.lst (g x)) → N (.ref b) H4) → te (some (φ x) :: τ) H N)
    (fin : ∀ H' z, H' D = some (.lst (z.map Prod.fst)) → Same H0 H' → z.map Prod.snd = l → ZL (RL g) (New H0 H') z → Q (.ref D) H') : CompL J D (gName 0) tTrue te (none :: τ) H0 Q := by
  refine comp_genL (n := l.length) (fun i σ H => ∃ y z, σ = y :: τ ∧ H D = some (.lst (z.map Prod.fst)) ∧ Same H0 H ∧ z.map Prod.snd = l.take i ∧ ZL (RL g) (hide D (New H0 H)) z) ?_ ?_ ?_ ?_ ?_
  · exact ⟨none, [], rfl, upd_same, same_upd hD, rfl, ZL.nil⟩
  · rintro i σ H hi ⟨y, z, rfl, _, s, _⟩
    exact hgo i H hi s
  · rintro σ H ⟨y, z, rfl, _, s, _⟩
    exact hst H s
  · rintro i x σ H H2 hi ⟨y, z, rfl, hd, s, ez, qz⟩ hyl N N0 hN hN0
    obtain ⟨rfl, rfl⟩ := hy i x H H2 hi s hyl
    have lz : z.length ≤ i := by
      have := congrArg List.length ez
      rw [List.length_map, List.length_take] at this
      omega
    refine tTrue_if (N := fun v H5 => N v (some (φ l[i]) :: τ) H5) (N0 := fun H4 => N0 (some (φ l[i]) :: τ) H4) (step _ (List.getElem_mem hi) H2 _ s fun b H4 s4 hb hb4 => ?_)
    have nb : b ≠ D := fun e => by rw [e, hd] at hb; cases hb
    refine hN _ _ H4 _ (s4 _ _ hd) (by rw [List.length_map]; omega) ⟨_, z ++ [(.ref b, l[i])], rfl, ?_, (SameX.upd (Same.x (s.trans s4))).same hD, ?_, ZL.app (fun x hx => ?_) (ZL.one ⟨b, rfl, hide_mk nb (New.mk (s.free hb) (by rw [upd_ne nb]; exact hb4))⟩)⟩
    · rw [upd_same, List.map_append]; rfl
    · rw [List.map_append, ez, List.take_succ_eq_append_getElem hi]; rfl
    · obtain ⟨c, ec, gc⟩ := qz x hx
      obtain ⟨nc, gc⟩ := hide_some gc
      obtain ⟨g1, g2⟩ := New.of gc
      exact ⟨c, ec, hide_mk nc (New.mk g1 (by rw [upd_ne nc]; exact s4 _ _ g2))⟩
  · rintro σ H ⟨y, z, rfl, hd, s, ez, qz⟩
    rw [List.take_length] at ez
    exact fin H z hd s ez fun x hx => let ⟨c, ec, gc⟩ := qz x hx; ⟨c, ec, hide_sub _ _ gc⟩
theorem comp_newL {α : Type} {K : PySem.W.Frag} {a D : Addr} {te : TE} {τ : St} {H0 : Hp} {Q : VK} (l : List α) (φ : α → V) (g : α → List V) (hD : H0 D = none) (hq : SqL K H0 a (l.map φ)) (hz : l.length ≤ sizeLine)
    (step : ∀ x ∈ l, ∀ H (N : V → Hp → Prop), Same H0 H → (∀ b H4, Same H H4 → H b = none → H4 b = some (.lst (g x)) → N (.ref b) H4) → te (some (φ x) :: τ) H N)
    (fin : ∀ H' z, H' D = some (.lst (z.map Prod.fst)) → Same H0 H' → z.map Prod.snd = l → ZL (RL g) (New H0 H') z → Q (.ref D) H') : CompL (Itl K a) D (gName 0) tTrue te (none :: τ) H0 Q := by
  refine comp_new l φ g hD hz (fun i H hi s => ⟨_, φ l[i], s.seq hq, by rw [List.getElem?_map, List.getElem?_eq_getElem hi]; rfl⟩) (fun H s => ⟨_, s.seq hq, by rw [List.length_map]; exact Nat.le_refl _⟩) (fun i x H H2 hi s hyl => ?_) step fin
  obtain ⟨rfl, hx⟩ := hyl
  have e := hx _ (s.seq hq)
  rw [List.getElem?_map, List.getElem?_eq_getElem hi] at e
  exact ⟨rfl, (Option.some.inj e).symm⟩
theorem comp_newW {α : Type} {J : It} {D : Addr} {te : TE} {τ : St} {H0 : Hp} {Q : VK} (l : List α) (φ : α → V) (g : α → List V) (hD : H0 D = none) (hz : l.length ≤ sizeLine)
    (hgo : ∀ i H, i < l.length → Same H0 H → J.go i H) (hst : ∀ H, Same H0 H → J.stop l.length H) (hy : ∀ i x H H2 (h : i < l.length), Same H0 H → J.yld i H x H2 → H2 = H ∧ x = φ l[i])
    (step : ∀ x ∈ l, ∀ H (N : V → Hp → Prop), Same H0 H → (∀ b H4, Same H H4 → H b = none → H4 b = some (.lst (g x)) → N (.ref b) H4) → te (some (φ x) :: τ) H N)
    (fin : ∀ H' z, H' D = some (.lst (z.map Prod.fst)) → Same H0 H' → z.map Prod.snd = l → ZL (RL g) (New H0 H') z → Q (.ref D) H') : CompW J D (gName 0) tTrue te (none :: τ) H0 Q := by
  refine comp_gen (n := l.length) (fun i σ H => ∃ y z, σ = y :: τ ∧ H D = some (.lst (z.map Prod.fst)) ∧ Same H0 H ∧ z.map Prod.snd = l.take i ∧ ZL (RL g) (hide D (New H0 H)) z) ?_ ?_ ?_ ?_ ?_
  · exact ⟨none, [], rfl, upd_same, same_upd hD, rfl, ZL.nil⟩
  · rintro i σ H hi ⟨y, z, rfl, _, s, _⟩
    exact hgo i H hi s
  · rintro σ H ⟨y, z, rfl, _, s, _⟩
    exact hst H s
  · rintro i x σ H H2 hi ⟨y, z, rfl, hd, s, ez, qz⟩ hyl N N0 hN hN0
    obtain ⟨rfl, rfl⟩ := hy i x H H2 hi s hyl
    have lz : z.length ≤ i := by
      have := congrArg List.length ez
      rw [List.length_map, List.length_take] at this
      omega
    refine tTrue_if (N := fun v H5 => N v (some (φ l[i]) :: τ) H5) (N0 := fun H4 => N0 (some (φ l[i]) :: τ) H4) (step _ (List.getElem_mem hi) H2 _ s fun b H4 s4 hb hb4 => ?_)
    have nb : b ≠ D := fun e => by rw [e, hd] at hb; cases hb
    refine hN _ _ H4 _ (s4 _ _ hd) (by rw [List.length_map]; omega) ⟨_, z ++ [(.ref b, l[i])], rfl, ?_, (SameX.upd (Same.x (s.trans s4))).same hD, ?_, ZL.app (fun x hx => ?_) (ZL.one ⟨b, rfl, hide_mk nb (New.mk (s.free hb) (by rw [upd_ne nb]; exact hb4))⟩)⟩
    · rw [upd_same, List.map_append]; rfl
    · rw [List.map_append, ez, List.take_succ_eq_append_getElem hi]; rfl
    · obtain ⟨c, ec, gc⟩ := qz x hx
      obtain ⟨nc, gc⟩ := hide_some gc
      obtain ⟨g1, g2⟩ := New.of gc
      exact ⟨c, ec, hide_mk nc (New.mk g1 (by rw [upd_ne nc]; exact s4 _ _ g2))⟩
  · rintro σ H ⟨y, z, rfl, hd, s, ez, qz⟩
    rw [List.take_length] at ez
    exact fin H z hd s ez fun x hx => let ⟨c, ec, gc⟩ := qz x hx; ⟨c, ec, hide_sub _ _ gc⟩
theorem comp_newWR {n : Nat} {D : Addr} {te : TE} {τ : St} {H0 : Hp} {Q : VK} (g : Nat → List V) (hD : H0 D = none) (hz : n ≤ sizeLine)
    (step : ∀ k, k < n → ∀ H (N : V → Hp → Prop), Same H0 H → (∀ b H4, Same H H4 → H b = none → H4 b = some (.lst (g k)) → N (.ref b) H4) → te (some (.int (k : Nat)) :: τ) H N)
    (fin : ∀ H' z, H' D = some (.lst (z.map Prod.fst)) → Same H0 H' → z.map Prod.snd = List.range n → ZL (RL g) (New H0 H') z → Q (.ref D) H') : CompW (Itr 0 n) D (gName 0) tTrue te (none :: τ) H0 Q := by
  refine comp_newW (List.range n) (fun k => .int (k : Nat)) g hD (by rw [List.length_range]; exact hz) (fun i H hi _ => by rw [List.length_range] at hi; exact hi) (fun H _ => by rw [List.length_range]; exact Nat.le_refl _) (fun i x H H2 hi s hyl => ?_) (fun x hx => step x (List.mem_range.mp hx)) fin
  obtain ⟨rfl, rfl⟩ := hyl
  refine ⟨rfl, ?_⟩
  rw [List.getElem_range, Int.zero_add]
end L3

set_option Elab.async false
set_option linter.all false
set_option maxRecDepth 100000
set_option maxHeartbeats 8000000
namespace KK
open PySem PySem.Spec L2 L3
def sp__law_made (K : PySem.W.Frag) (a : Adr) : Sp := fun vs H Q _ => ∃ (t : Addr) (s w st f : V) (d : WD), vs = [.ref t] ∧ H t = some (.tup [s, w, st, f]) ∧ PartsV H s w st f d ∧ Good d ∧ ∀ H' o, Same H H' → H o = none → WorldAt a.C_World H' o d → Q (.ref o) H'
theorem ok__law_made {P : Program} {w : World} {K : PySem.W.Frag} {mg : Str → Option Value} {base : Heap} {a : Adr} (T : Txt K mg a) (hw : w.params = a.Pm) : FnOk P w K mg base CX0 8 a._law_made a._law_made_fd ["_law_lists_here"] (sp__law_made K a) := by
  have G_World_init := ok_World_init (P := P) (w := w) (base := base) T hw
  refine T.f__law_made.ok sc__law_made (fun vs H Q E h => ?_) (fun cdv A outer s H vs Q E hr h => ?_)
  · obtain ⟨t, s, w, st, f, d, rfl, _⟩ := h
    rfl
  · obtain ⟨t, sv, wv, stv, fv, d, rfl, ht, pts, gd, k⟩ := h
    refine ⟨_, (@pss_cons _ _ _ _ _ (ps_asg (pv 0) (pg_tupK (K := K) (n := 4) rfl rfl (pgs_cons (pg_name (i := 1) sc__law_made.nd rfl (Or.inl rfl)) (pgs_cons (pg_name (i := 2) sc__law_made.nd rfl (Or.inl rfl)) (pgs_cons (pg_name (i := 3) sc__law_made.nd rfl (Or.inl rfl)) (pgs_cons (pg_name (i := 4) sc__law_made.nd rfl (Or.inl rfl)) pgs_nil))))))
      (@pss_one _ _ _ (@ps_ret _ _ _ _ (pe_make T.mk_World G_World_init (hr.mono (by decide)) rfl T.g_World T.n_World_init .nil pass0 (@pa_c _ _ _ _ _ (pe_compL (Nc := ["_law_one"]) (ix := [none]) (CompOk.of (by decide +kernel : compChk (defScope s__law_made) ["_law_lists_here", "_law_signs", "_law_ways", "_law_starts", "_law_fair"] ["_law_one"] [none] _ = true)) rfl (pi_listK (K := K) rfl (pv 1)) (fun _ _ _ _ _ => (pg_name (i := 0) (show List.Nodup (["_law_one"] : List Str) by decide +kernel) rfl (Or.inl rfl))) (fun _ _ _ _ _ => pts_nil) (fun _ _ _ _ _ => (pe_callTy (call_listK (K := K) rfl rfl) rfl T.b_list PyProof.Rows.Boot.«list» (@pa_cons _ _ _ _ _ (pv 0)
      pa_nil
      (by rfl)))))
      (@pa_c _ _ _ _ _ (pe_compL (Nc := ["_law_one"]) (ix := [none]) (CompOk.of (by decide +kernel : compChk (defScope s__law_made) ["_law_lists_here", "_law_signs", "_law_ways", "_law_starts", "_law_fair"] ["_law_one"] [none] _ = true)) rfl (pi_listK (K := K) rfl (pv 2)) (fun _ _ _ _ _ => (pg_name (i := 0) (show List.Nodup (["_law_one"] : List Str) by decide +kernel) rfl (Or.inl rfl))) (fun _ _ _ _ _ => pts_nil) (fun _ _ _ _ _ => (pe_callTy (call_listK (K := K) rfl rfl) rfl T.b_list PyProof.Rows.Boot.«list» (@pa_cons _ _ _ _ _ (pv 0)
      pa_nil
      (by rfl)))))
      (@pa_c _ _ _ _ _ (pe_callTy (call_listK (K := K) rfl rfl) rfl T.b_list PyProof.Rows.Boot.«list» (@pa_cons _ _ _ _ _ (pv 3)
      pa_nil
      (by rfl)))
      (@pa_c _ _ _ _ _ (pe_callTy (call_listK (K := K) rfl rfl) rfl T.b_list PyProof.Rows.Boot.«list» (@pa_cons _ _ _ _ _ (pv 4)
      pa_nil
      (by rfl)))
      pa_nil
      (by rfl))
      (by rfl))
      (by rfl))
      (by rfl)))))), ?_⟩
    refine ⟨_, rfl, t, _, rfl, SqT.of ht, rfl, _, _, rfl, _, _, rfl, _, _, rfl, _, _, rfl, rfl, ?_⟩
    obtain ⟨S, zs, rfl, hS, ezs, qs⟩ := pts.s.z
    obtain ⟨W, zw, rfl, hW, ezw, qw⟩ := pts.w.z
    obtain ⟨ST, rfl, hST⟩ := pts.st
    obtain ⟨F, rfl, hF⟩ := pts.f
    have n20 := gd.n20
    have wl := gd.wl
    have lzs : zs.length = d.signs.length := by rw [← ezs, List.length_map]
    have lzw : zw.length = d.ways.length := by rw [← ezw, List.length_map]
    refine ⟨_, rfl, S, rfl, ⟨_, SqL.of hS⟩, fun D1 hD1 => ?_⟩
    refine comp_newL zs Prod.fst (fun x => x.2.map V.str) hD1 (SqL.of hS) (by rw [sizeLine_eq]; omega) ?_ ?_
    · intro x hx G N sG hN
      obtain ⟨c, ec, gc⟩ := qs x hx
      rw [ec]
      refine ⟨_, rfl, .inl ⟨c, _, rfl, .inl (SqL.of (sG _ _ gc)), fun l hl => hN l _ (same_upd hl) hl upd_same⟩⟩
    intro H1 z1 e1 s1 ez1 q1
    refine ⟨_, rfl, W, rfl, ⟨_, SqL.of (s1 _ _ hW)⟩, fun D2 hD2 => ?_⟩
    refine comp_newL zw Prod.fst (fun x => x.2.map V.int) hD2 (SqL.of (s1 _ _ hW)) (by rw [sizeLine_eq]; omega) ?_ ?_
    · intro x hx G N sG hN
      obtain ⟨c, ec, gc⟩ := qw x hx
      rw [ec]
      refine ⟨_, rfl, .inl ⟨c, _, rfl, .inl (SqL.of ((s1.trans sG) _ _ gc)), fun l hl => hN l _ (same_upd hl) hl upd_same⟩⟩
    intro H2 z2 e2 s2 ez2 q2
    have s12 := s1.trans s2
    refine ⟨_, rfl, .inl ⟨ST, _, rfl, .inl (SqL.of (s12 _ _ hST)), fun L3 hL3 => ?_⟩⟩
    obtain ⟨H3, qN, s3, e3⟩ := newE (o := .lst (d.starts.map V.int)) hL3
    rw [qN]; clear qN
    refine ⟨_, rfl, .inl ⟨F, _, rfl, .inl (SqL.of ((s12.trans s3) _ _ hF)), fun L4 hL4 => ?_⟩⟩
    obtain ⟨H4, qN, s4, e4⟩ := newE (o := .lst (d.fair.map V.str)) hL4
    rw [qN]; clear qN
    have s14 := s12.trans (s3.trans s4)
    intro o dw no ndw new
    have sm : Same H4 (upd (upd H4 dw (.own o)) o (.ins a.C_World dw [])) := (same_upd ndw).trans (same_upd (by rw [upd_ne (Ne.symm new)]; exact no))
    have pp : PartsV H4 (.ref D1) (.ref D2) (.ref L3) (.ref L4) d := by
      have g1 := RL.ls (f := Prod.snd) (H := H4) ((s2.trans (s3.trans s4)) _ _ e1) ez1 fun x hx => let ⟨c, ec, gc⟩ := q1 x hx; ⟨c, ec, (s2.trans (s3.trans s4)) _ _ (New.of gc).2⟩
      have g2 := RL.li (f := Prod.snd) (H := H4) ((s3.trans s4) _ _ e2) ez2 fun x hx => let ⟨c, ec, gc⟩ := q2 x hx; ⟨c, ec, (s3.trans s4) _ _ (New.of gc).2⟩
      rw [ezs] at g1
      rw [ezw] at g2
      exact ⟨g1, g2, ⟨L3, rfl, s4 _ _ e3⟩, ⟨L4, rfl, e4⟩⟩
    exact ⟨o, dw, _, _, _, _, d, rfl, upd_same, pp.mono sm, gd, fun H5 x5 wa => ⟨rfl, k _ o (fun b u e => x5 b u (ne_of_none (s14 _ _ e) no) (sm b u (s14 _ _ e))) (s14.free no) wa⟩⟩
end KK

set_option Elab.async false
set_option linter.all false
set_option maxRecDepth 100000
set_option maxHeartbeats 8000000
namespace KK
open PySem PySem.Spec L2 L3
/-- a world's four lists in a tuple -/
structure Lists (H : Hp) (t : Addr) (d : WD) : Prop where
  ex : ∃ s w st f, H t = some (.tup [s, w, st, f]) ∧ PartsV H s w st f d
theorem Lists.mono {H H' : Hp} {t : Addr} {d : WD} (s : Same H H') (h : Lists H t d) : Lists H' t d := by
  obtain ⟨a, b, c, e, h1, h2⟩ := h.ex
  exact ⟨a, b, c, e, s _ _ h1, h2.mono s⟩
theorem Lists.way {H : Hp} {t : Addr} {d : WD} (h : Lists H t d) {i : Nat} (hi : i < d.ways.length) : ∃ s st f W vs c, H t = some (.tup [s, .ref W, st, f]) ∧ H W = some (.lst vs) ∧ vs[i]? = some (.ref c) ∧ H c = some (.lst ((waysI d i).map V.int)) := by
  obtain ⟨s, w, st, f, h1, h2⟩ := h.ex
  obtain ⟨W, vs, rfl, g, l, q⟩ := h2.w
  have hi2 : i < vs.length := by omega
  obtain ⟨c, ec, gc⟩ := q i _ _ (List.getElem?_eq_getElem hi2) (List.getElem?_eq_getElem hi)
  exact ⟨s, st, f, W, vs, c, h1, g, by rw [List.getElem?_eq_getElem hi2, ec], by rw [waysI_at hi]; exact gc⟩
theorem Lists.sign {H : Hp} {t : Addr} {d : WD} (h : Lists H t d) {i : Nat} (hi : i < d.signs.length) : ∃ S w st f vs c, H t = some (.tup [.ref S, w, st, f]) ∧ H S = some (.lst vs) ∧ vs.length = d.signs.length ∧ vs[i]? = some (.ref c) ∧ H c = some (.lst ((signsI d i).map V.str)) := by
  obtain ⟨s, w, st, f, h1, h2⟩ := h.ex
  obtain ⟨S, vs, rfl, g, l, q⟩ := h2.s
  have hi2 : i < vs.length := by omega
  obtain ⟨c, ec, gc⟩ := q i _ _ (List.getElem?_eq_getElem hi2) (List.getElem?_eq_getElem hi)
  exact ⟨S, w, st, f, vs, c, h1, g, l, by rw [List.getElem?_eq_getElem hi2, ec], by rw [signsI_at hi]; exact gc⟩
theorem filter_nil_any {α : Type} {l : List α} {p : α → Bool} : l.filter p = [] ↔ l.any p = false := by
  rw [List.filter_eq_nil_iff, List.any_eq_false]
theorem take_all {α : Type} {l : List α} {p : α → Bool} {i : Nat} (hi : i < l.length) (h : (l.take i).all p = true) (hp : p l[i] = true) : (l.take (i + 1)).all p = true := by
  rw [List.take_succ_eq_append_getElem hi, List.all_append, h]
  simp [hp]
def sp__law_goes_on (K : PySem.W.Frag) (a : Adr) : Sp := fun vs H Q _ => ∃ (t1 t2 t L : Addr) (d e : WD) (z : List (V × List Int)) (i j : Nat), vs = [.ref t1, .ref t2, .ref t, .ref L] ∧ Lists H t1 d ∧ Lists H t2 e ∧ Good d ∧ Good e ∧ H t = some (.tup [.int (i : Nat), .int (j : Nat)]) ∧ i < d.signs.length ∧ j < e.signs.length ∧ H L = some (.lst (z.map Prod.fst)) ∧ PZ H z ∧ ∀ H', Same H H' → Q (.bl (goesB d e (z.map Prod.snd) (i : Nat) (j : Nat))) H'
theorem ok__law_goes_on {P : Program} {w : World} {K : PySem.W.Frag} {mg : Str → Option Value} {base : Heap} {a : Adr} (T : Txt K mg a) (hw : w.params = a.Pm) : FnOk P w K mg base CX0 1 a._law_goes_on a._law_goes_on_fd ["_law_one", "_law_other", "_law_pair", "_law_pairs_here"] (sp__law_goes_on K a) := by
  refine T.f__law_goes_on.ok sc__law_goes_on (fun vs H Q E h => ?_) (fun cdv A outer s H vs Q E hr h => ?_)
  · obtain ⟨t1, t2, t, L, d, e, z, i, j, rfl, _⟩ := h
    rfl
  · obtain ⟨t1, t2, t, L, d, e, z, i, j, rfl, l1, l2, gd, ge, ht, hi, hj, hL, pz, k⟩ := h
    refine ⟨_, (@pss_cons _ _ _ _ _ (ps_asg (pv 2) (pg_tupK (K := K) (n := 2) rfl rfl (pgs_cons (pg_name (i := 4) sc__law_goes_on.nd rfl (Or.inl rfl)) (pgs_cons (pg_name (i := 5) sc__law_goes_on.nd rfl (Or.inl rfl)) pgs_nil))))
      (@pss_cons _ _ _ _ _ (ps_for PassesOwn.never rfl (pi_listK (K := K) rfl (@pe_ix _ _ _ _ _ _ _ (ix_listK (K := K) rfl)
      (@pe_ix _ _ _ _ _ _ _ (ix_tupK (K := K) rfl)
      (pv 0)
      pe_int
      (fun _ _ => rfl))
      (pv 4)
      (fun _ _ => rfl))) (pg_name (i := 6) sc__law_goes_on.nd rfl (Or.inr rfl)) (@pss_one _ _ _ (@ps_if _ _ _ _ _ _ _ _ (@pt_cmpR _ _ _ _ _ _ _ _ (op_eqDK (K := K) rfl (Room.units hr))
      (pe_compL (Nc := ["_law_later", "_law_pairs_here", "_law_after"]) (ix := [none, some 3, some 6]) (CompOk.of (by decide +kernel : compChk (defScope s__law_goes_on) ["_law_one", "_law_other", "_law_pair", "_law_pairs_here", "_law_room", "_law_far", "_law_after", "_law_later"] ["_law_later", "_law_pairs_here", "_law_after"] [none, some 3, some 6] _ = true)) rfl (pi_listK (K := K) rfl (@pe_ix _ _ _ _ _ _ _ (ix_listK (K := K) rfl)
      (@pe_ix _ _ _ _ _ _ _ (ix_tupK (K := K) rfl)
      (pv 1)
      pe_int
      (fun _ _ => rfl))
      (pv 5)
      (fun _ _ => rfl))) (fun _ _ _ _ _ => (pg_name (i := 0) (show List.Nodup (["_law_later", "_law_pairs_here", "_law_after"] : List Str) by decide +kernel) rfl (Or.inl rfl))) (fun _ _ _ _ _ => (pts_one (@pt_cmpR _ _ _ _ _ _ _ _ (op_inPl (Room.units hr))
      (@pe_tup _ _ _ _ _ (@pa_cons _ _ _ _ _ (pv 2)
      (@pa_cons _ _ _ _ _ (pv 0)
      pa_nil
      (by rfl))
      (by rfl)))
      (pv 1)
      (by with_unfolding_all rfl)))) (fun _ _ _ _ _ => (pv 0)))
      (@pe_lst _ _ _ _ pa_nil)
      (nomark _))
      (@pss_one _ _ _ (@ps_ret _ _ _ _ pe_bl))
      pss_nil)))
      (@pss_cons _ _ _ _ _ (ps_for PassesOwn.never rfl (pi_listK (K := K) rfl (@pe_ix _ _ _ _ _ _ _ (ix_listK (K := K) rfl)
      (@pe_ix _ _ _ _ _ _ _ (ix_tupK (K := K) rfl)
      (pv 1)
      pe_int
      (fun _ _ => rfl))
      (pv 5)
      (fun _ _ => rfl))) (pg_name (i := 7) sc__law_goes_on.nd rfl (Or.inr rfl)) (@pss_one _ _ _ (@ps_if _ _ _ _ _ _ _ _ (@pt_cmpR _ _ _ _ _ _ _ _ (op_eqDK (K := K) rfl (Room.units hr))
      (pe_compL (Nc := ["_law_after", "_law_pairs_here", "_law_later"]) (ix := [none, some 3, some 7]) (CompOk.of (by decide +kernel : compChk (defScope s__law_goes_on) ["_law_one", "_law_other", "_law_pair", "_law_pairs_here", "_law_room", "_law_far", "_law_after", "_law_later"] ["_law_after", "_law_pairs_here", "_law_later"] [none, some 3, some 7] _ = true)) rfl (pi_listK (K := K) rfl (@pe_ix _ _ _ _ _ _ _ (ix_listK (K := K) rfl)
      (@pe_ix _ _ _ _ _ _ _ (ix_tupK (K := K) rfl)
      (pv 0)
      pe_int
      (fun _ _ => rfl))
      (pv 4)
      (fun _ _ => rfl))) (fun _ _ _ _ _ => (pg_name (i := 0) (show List.Nodup (["_law_after", "_law_pairs_here", "_law_later"] : List Str) by decide +kernel) rfl (Or.inl rfl))) (fun _ _ _ _ _ => (pts_one (@pt_cmpR _ _ _ _ _ _ _ _ (op_inPl (Room.units hr))
      (@pe_tup _ _ _ _ _ (@pa_cons _ _ _ _ _ (pv 0)
      (@pa_cons _ _ _ _ _ (pv 2)
      pa_nil
      (by rfl))
      (by rfl)))
      (pv 1)
      (by with_unfolding_all rfl)))) (fun _ _ _ _ _ => (pv 0)))
      (@pe_lst _ _ _ _ pa_nil)
      (nomark _))
      (@pss_one _ _ _ (@ps_ret _ _ _ _ pe_bl))
      pss_nil)))
      (@pss_one _ _ _ (@ps_ret _ _ _ _ pe_bl))))), ?_⟩
    have hi2 : i < d.ways.length := by rw [gd.wl]; exact hi
    have hj2 : j < e.ways.length := by rw [ge.wl]; exact hj
    have wd := ways_len gd (i : Nat)
    have we := ways_len ge (j : Nat)
    obtain ⟨s1, st1, f1, W1, v1, c1, ht1, hW1, ev1, hc1⟩ := l1.way hi2
    obtain ⟨s2, st2, f2, W2, v2, c2, ht2, hW2, ev2, hc2⟩ := l2.way hj2
    unfold goesB at k
    generalize waysI d (i : Nat) = ws at wd hc1 k
    generalize waysI e (j : Nat) = us at we hc2 k
    generalize hps : z.map Prod.snd = ps at k
    refine ⟨_, rfl, t, _, rfl, SqT.of ht, rfl, _, _, rfl, _, _, rfl, rfl, ?_⟩
    refine ⟨_, rfl, t1, _, _, _, rfl, rfl, SqT.of ht1, rfl, _, rfl, W1, _, _, _, rfl, rfl, SqL.of hW1, atI_nat ev1, c1, rfl, ⟨_, SqL.of hc1⟩, ?_⟩
    refine for_gen (J := Itl K c1) (n := ws.length) (fun n σ G => ∃ z6 : Option V, σ = [some (.ref t1), some (.ref t2), some (.ref t), some (.ref L), some (.int (i : Nat)), some (.int (j : Nat)), z6, none] ∧ Same H G ∧ ((ws.take n).all fun x => us.any fun y => decide ([x, y] ∈ ps)) = true) ?_ ?_ ?_ ?_ ?_
    · exact ⟨_, rfl, .refl _, rfl⟩
    · rintro n σ G hn ⟨z6, rfl, sG, _⟩
      exact ⟨_, _, SqL.of (sG _ _ hc1), by rw [List.getElem?_map, List.getElem?_eq_getElem hn]; rfl⟩
    · rintro σ G ⟨z6, rfl, sG, _⟩
      exact ⟨_, SqL.of (sG _ _ hc1), by rw [List.length_map]; exact Nat.le_refl _⟩
    · rintro n x σ G0 G hn ⟨z6, rfl, sG, hall⟩ ⟨rfl, hx⟩
      have ex := hx _ (SqL.of (sG _ _ hc1))
      rw [List.getElem?_map, List.getElem?_eq_getElem hn] at ex
      have ex' : x = .int ws[n] := (Option.some.inj ex).symm
      subst ex'
      refine ⟨_, rfl, t2, _, _, _, rfl, rfl, SqT.of (sG _ _ ht2), rfl, _, rfl, W2, _, _, _, rfl, rfl, SqL.of (sG _ _ hW2), atI_nat ev2, c2, rfl, ⟨_, SqL.of (sG _ _ hc2)⟩, fun D hD => ?_⟩
      refine comp_selL us V.int (fun y => decide ([ws[n], y] ∈ ps)) V.int hD (SqL.of (sG _ _ hc2)) (by rw [sizeLine_eq]; omega) ?_ ?_
      · intro y hy F N N0 sF h1 h2
        refine ⟨_, rfl, _, rfl, by rw [sizeLine_eq]; exact (by decide : 2 ≤ 16777216), fun b hb => ?_⟩
        obtain ⟨F2, qN, u1, eb⟩ := newE (o := .tup [.int ws[n], .int y]) hb
        rw [qN]; clear qN
        have sF2 := sG.trans (sF.trans u1)
        refine ⟨_, rfl, b, L, [ws[n], y], _, _, rfl, rfl, eb, sF2 _ _ hL, (pz.same sF2).at, _, rfl, ?_⟩
        rw [hps]
        refine ite2 (fun c => ?_) (fun c => ?_)
        · exact ⟨_, rfl, h1 _ u1 c⟩
        · exact h2 _ u1 (by simpa using c)
      intro G1 eD u1
      refine ⟨by decide, fun B hB => ?_⟩
      obtain ⟨G2, qN, u2, eB⟩ := newE (o := .lst []) hB
      rw [qN]; clear qN
      refine eqD_nil (u2 _ _ eD) eB fun c hc => ⟨_, rfl, ite2 (fun c1 => ?_) (fun c1 => ?_)⟩
      · have an := filter_nil_any.mp (hc.mp c1)
        have e0 : (ws.all fun x => us.any fun y => decide ([x, y] ∈ ps)) = false := by
          rw [List.all_eq_false]
          exact ⟨_, List.getElem_mem hn, by rw [an]; exact Bool.false_ne_true⟩
        rw [e0] at k
        exact k _ (sG.trans (u1.trans u2))
      · have an : (us.any fun y => decide ([ws[n], y] ∈ ps)) = true := by
          cases h : us.any fun y => decide ([ws[n], y] ∈ ps) with
          | true => rfl
          | false => exact absurd (hc.mpr (filter_nil_any.mpr h)) c1
        exact ⟨_, rfl, sG.trans (u1.trans u2), take_all hn hall an⟩
    rintro σ G ⟨z6, rfl, sG, hall⟩
    rw [List.take_length] at hall
    rw [hall, Bool.true_and] at k
    refine ⟨_, rfl, t2, _, _, _, rfl, rfl, SqT.of (sG _ _ ht2), rfl, _, rfl, W2, _, _, _, rfl, rfl, SqL.of (sG _ _ hW2), atI_nat ev2, c2, rfl, ⟨_, SqL.of (sG _ _ hc2)⟩, ?_⟩
    refine for_gen (J := Itl K c2) (n := us.length) (fun n σ F => ∃ z7 : Option V, σ = [some (.ref t1), some (.ref t2), some (.ref t), some (.ref L), some (.int (i : Nat)), some (.int (j : Nat)), z6, z7] ∧ Same H F ∧ ((us.take n).all fun y => ws.any fun x => decide ([x, y] ∈ ps)) = true) ?_ ?_ ?_ ?_ ?_
    · exact ⟨_, rfl, sG, rfl⟩
    · rintro n σ F hn ⟨z7, rfl, sF, _⟩
      exact ⟨_, _, SqL.of (sF _ _ hc2), by rw [List.getElem?_map, List.getElem?_eq_getElem hn]; rfl⟩
    · rintro σ F ⟨z7, rfl, sF, _⟩
      exact ⟨_, SqL.of (sF _ _ hc2), by rw [List.length_map]; exact Nat.le_refl _⟩
    · rintro n x σ F0 F hn ⟨z7, rfl, sF, hall2⟩ ⟨rfl, hx⟩
      have ex := hx _ (SqL.of (sF _ _ hc2))
      rw [List.getElem?_map, List.getElem?_eq_getElem hn] at ex
      have ex' : x = .int us[n] := (Option.some.inj ex).symm
      subst ex'
      refine ⟨_, rfl, t1, _, _, _, rfl, rfl, SqT.of (sF _ _ ht1), rfl, _, rfl, W1, _, _, _, rfl, rfl, SqL.of (sF _ _ hW1), atI_nat ev1, c1, rfl, ⟨_, SqL.of (sF _ _ hc1)⟩, fun D hD => ?_⟩
      refine comp_selL ws V.int (fun x => decide ([x, us[n]] ∈ ps)) V.int hD (SqL.of (sF _ _ hc1)) (by rw [sizeLine_eq]; omega) ?_ ?_
      · intro x hx E2 N N0 sE h1 h2
        refine ⟨_, rfl, _, rfl, by rw [sizeLine_eq]; exact (by decide : 2 ≤ 16777216), fun b hb => ?_⟩
        obtain ⟨F2, qN, u1, eb⟩ := newE (o := .tup [.int x, .int us[n]]) hb
        rw [qN]; clear qN
        have sF2 := sF.trans (sE.trans u1)
        refine ⟨_, rfl, b, L, [x, us[n]], _, _, rfl, rfl, eb, sF2 _ _ hL, (pz.same sF2).at, _, rfl, ?_⟩
        rw [hps]
        refine ite2 (fun c => ?_) (fun c => ?_)
        · exact ⟨_, rfl, h1 _ u1 c⟩
        · exact h2 _ u1 (by simpa using c)
      intro G1 eD u1
      refine ⟨by decide, fun B hB => ?_⟩
      obtain ⟨G2, qN, u2, eB⟩ := newE (o := .lst []) hB
      rw [qN]; clear qN
      refine eqD_nil (u2 _ _ eD) eB fun c hc => ⟨_, rfl, ite2 (fun c1 => ?_) (fun c1 => ?_)⟩
      · have an := filter_nil_any.mp (hc.mp c1)
        have e0 : (us.all fun y => ws.any fun x => decide ([x, y] ∈ ps)) = false := by
          rw [List.all_eq_false]
          exact ⟨_, List.getElem_mem hn, by rw [an]; exact Bool.false_ne_true⟩
        rw [e0] at k
        exact k _ (sF.trans (u1.trans u2))
      · have an : (ws.any fun x => decide ([x, us[n]] ∈ ps)) = true := by
          cases h : ws.any fun x => decide ([x, us[n]] ∈ ps) with
          | true => rfl
          | false => exact absurd (hc.mpr (filter_nil_any.mpr h)) c1
        exact ⟨_, rfl, sF.trans (u1.trans u2), take_all hn hall2 an⟩
    rintro σ F ⟨z7, rfl, sF, hall2⟩
    rw [List.take_length] at hall2
    rw [hall2] at k
    exact k _ sF
end KK

set_option Elab.async false
set_option linter.all false
set_option maxRecDepth 100000
set_option maxHeartbeats 8000000
namespace KK
open PySem PySem.Spec L2 L3
def sp__law_is_tie (K : PySem.W.Frag) (a : Adr) : Sp := fun vs H Q _ => ∃ (t1 t2 L : Addr) (d e : WD) (z : List (V × List Int)), vs = [.ref t1, .ref t2, .ref L] ∧ Lists H t1 d ∧ Lists H t2 e ∧ Good d ∧ Good e ∧ H L = some (.lst (z.map Prod.fst)) ∧ PZ H z ∧ (∀ x ∈ z, TwOk d.signs.length e.signs.length x.2) ∧ ∀ H', Same H H' → Q (.bl (tieB d e (z.map Prod.snd))) H'
theorem take_allZ {z : List (V × List Int)} {p : List Int → Bool} {n : Nat} (hn : n < z.length) (h : ((z.take n).all fun x => p x.2) = true) (hp : p z[n].2 = true) : ((z.take (n + 1)).all fun x => p x.2) = true := take_all (p := fun x : V × List Int => p x.2) hn h hp
theorem ok__law_is_tie {P : Program} {w : World} {K : PySem.W.Frag} {mg : Str → Option Value} {base : Heap} {a : Adr} (T : Txt K mg a) (hw : w.params = a.Pm) : FnOk P w K mg base CX0 2 a._law_is_tie a._law_is_tie_fd ["_law_one", "_law_other", "_law_pairs_here"] (sp__law_is_tie K a) := by
  have G__law_goes_on := ok__law_goes_on (P := P) (w := w) (base := base) T hw
  refine T.f__law_is_tie.ok sc__law_is_tie (fun vs H Q E h => ?_) (fun cdv A outer s H vs Q E hr h => ?_)
  · obtain ⟨t1, t2, L, d, e, z, rfl, _⟩ := h
    rfl
  · obtain ⟨t1, t2, L, d, e, z, rfl, l1, l2, gd, ge, hL, pz, tw, k⟩ := h
    refine ⟨_, (@pss_cons _ _ _ _ _ (ps_for PassesOwn.never rfl (pi_listK (K := K) rfl (pv 2)) (pg_tupK (K := K) (n := 2) rfl rfl (pgs_cons (pg_name (i := 3) sc__law_is_tie.nd rfl (Or.inl rfl)) (pgs_cons (pg_name (i := 4) sc__law_is_tie.nd rfl (Or.inl rfl)) pgs_nil))) (@pss_cons _ _ _ _ _ (@ps_if _ _ _ _ _ _ _ _ (@pt_cmpR _ _ _ _ _ _ _ _ (op_neDK (K := K) rfl (Room.units hr))
      (pe_callB (call_sortedK (K := K) rfl) rfl T.b_sorted PyProof.Rows.Boot.«sorted» (@pa_cons _ _ _ _ _ (@pe_ix _ _ _ _ _ _ _ (ix_listK (K := K) rfl)
      (@pe_ix _ _ _ _ _ _ _ (ix_tupK (K := K) rfl)
      (pv 0)
      pe_int
      (fun _ _ => rfl))
      (pv 3)
      (fun _ _ => rfl))
      pa_nil
      (by rfl)))
      (pe_callB (call_sortedK (K := K) rfl) rfl T.b_sorted PyProof.Rows.Boot.«sorted» (@pa_cons _ _ _ _ _ (@pe_ix _ _ _ _ _ _ _ (ix_listK (K := K) rfl)
      (@pe_ix _ _ _ _ _ _ _ (ix_tupK (K := K) rfl)
      (pv 1)
      pe_int
      (fun _ _ => rfl))
      (pv 4)
      (fun _ _ => rfl))
      pa_nil
      (by rfl)))
      (nomark _))
      (@pss_one _ _ _ (@ps_ret _ _ _ _ pe_bl))
      pss_nil)
      (@pss_one _ _ _ (@ps_if _ _ _ _ _ _ _ _ (@pt_not _ _ _ _ (pt_val (pe_call G__law_goes_on (hr.mono (by decide)) rfl T.g__law_goes_on T.f__law_goes_on.kp T.n__law_goes_on .nil pass0 (@pa_c _ _ _ _ _ (pv 0)
      (@pa_c _ _ _ _ _ (pv 1)
      (@pa_c _ _ _ _ _ (@pe_tup _ _ _ _ _ (@pa_cons _ _ _ _ _ (pv 3)
      (@pa_cons _ _ _ _ _ (pv 4)
      pa_nil
      (by rfl))
      (by rfl)))
      (@pa_c _ _ _ _ _ (pv 2)
      pa_nil
      (by rfl))
      (by rfl))
      (by rfl))
      (by rfl)))))
      (@pss_one _ _ _ (@ps_ret _ _ _ _ pe_bl))
      pss_nil))))
      (@pss_one _ _ _ (@ps_ret _ _ _ _ pe_bl))), ?_⟩
    have ek : tieB d e (z.map Prod.snd) = z.all fun x => pairB d e (z.map Prod.snd) x.2 := by unfold tieB; rw [List.all_map]; rfl
    rw [ek] at k
    refine ⟨_, rfl, L, rfl, ⟨_, SqL.of hL⟩, ?_⟩
    refine for_gen (J := Itl K L) (n := z.length) (fun n σ G => ∃ z3 z4 : Option V, σ = [some (.ref t1), some (.ref t2), some (.ref L), z3, z4] ∧ Same H G ∧ ((z.take n).all fun x => pairB d e (z.map Prod.snd) x.2) = true) ?_ ?_ ?_ ?_ ?_
    · exact ⟨_, _, rfl, .refl _, rfl⟩
    · rintro n σ G hn ⟨z3, z4, rfl, sG, _⟩
      exact ⟨_, _, SqL.of (sG _ _ hL), by rw [List.getElem?_map, List.getElem?_eq_getElem hn]; rfl⟩
    · rintro σ G ⟨z3, z4, rfl, sG, _⟩
      exact ⟨_, SqL.of (sG _ _ hL), by rw [List.length_map]; exact Nat.le_refl _⟩
    · rintro n x σ G0 G hn ⟨z3, z4, rfl, sG, hall⟩ ⟨rfl, hx⟩
      have ex := hx _ (SqL.of (sG _ _ hL))
      rw [List.getElem?_map, List.getElem?_eq_getElem hn] at ex
      have ex' : x = z[n].1 := (Option.some.inj ex).symm
      subst ex'
      obtain ⟨b, eb, gb⟩ := pz _ (List.getElem_mem hn)
      obtain ⟨i, j, ep, hi, hj⟩ := tw _ (List.getElem_mem hn)
      rw [eb]
      rw [ep] at gb
      have gbG := sG _ _ gb
      refine ⟨b, _, rfl, SqT.of gbG, rfl, _, _, rfl, _, _, rfl, rfl, ?_⟩
      have bad : pairB d e (z.map Prod.snd) z[n].2 = false → (z.all fun x => pairB d e (z.map Prod.snd) x.2) = false := fun h0 => by
        rw [List.all_eq_false]
        exact ⟨_, List.getElem_mem hn, by rw [h0]; exact Bool.false_ne_true⟩
      have two : pairB d e (z.map Prod.snd) z[n].2 = (decide (sortS (signsI d (i : Nat)) = sortS (signsI e (j : Nat))) && goesB d e (z.map Prod.snd) (i : Nat) (j : Nat)) := by rw [ep]; rfl
      obtain ⟨S1, w1, st1, f1, v1, c1, ht1, hS1, _, ev1, hc1⟩ := (l1.mono sG).sign hi
      have nd : ∀ x ∈ signsI d (i : Nat), isNameS x = true := by rw [signsI_at hi]; exact (gd.sn _ (List.getElem_mem hi)).2.1
      have ne : ∀ x ∈ signsI e (j : Nat), isNameS x = true := by rw [signsI_at hj]; exact (ge.sn _ (List.getElem_mem hj)).2.1
      have ld := signs_len gd (i : Nat)
      have le := signs_len ge (j : Nat)
      refine ⟨_, rfl, t1, _, _, _, rfl, rfl, SqT.of ht1, rfl, _, rfl, S1, _, _, _, rfl, rfl, SqL.of hS1, atI_nat ev1, .inl ⟨c1, _, rfl, SqL.of hc1, by omega, fun m1 hm1 => ?_⟩⟩
      obtain ⟨G1, qN, u1, e1⟩ := newE (o := .lst ((sortS (signsI d (i : Nat))).map V.str)) hm1
      rw [qN]; clear qN
      obtain ⟨S2, w2, st2, f2, v2, c2, ht2, hS2, _, ev2, hc2⟩ := (l2.mono (sG.trans u1)).sign hj
      refine ⟨_, rfl, t2, _, _, _, rfl, rfl, SqT.of ht2, rfl, _, rfl, S2, _, _, _, rfl, rfl, SqL.of hS2, atI_nat ev2, .inl ⟨c2, _, rfl, SqL.of hc2, by omega, fun m2 hm2 => ?_⟩⟩
      obtain ⟨G2, qN, u2, e2⟩ := newE (o := .lst ((sortS (signsI e (j : Nat))).map V.str)) hm2
      rw [qN]; clear qN
      have sG2 := sG.trans (u1.trans u2)
      refine ⟨_, _, LS.dp ⟨m1, rfl, u2 _ _ e1⟩, LS.dp ⟨m2, rfl, e2⟩, (fineS (sorted_names nd)).1, (fineS (sorted_names ne)).1, Nat.le_trans (fineS (sorted_names nd)).2 (by decide), ?_⟩
      rw [eqv_dS]
      refine ⟨_, rfl, ite2 (fun c => ?_) (fun c => ?_)⟩
      · have c' : ¬ sortS (signsI d (i : Nat)) = sortS (signsI e (j : Nat)) := by simpa using c
        rw [bad (by rw [two, decide_eq_false c']; rfl)] at k
        exact k _ sG2
      have c' : sortS (signsI d (i : Nat)) = sortS (signsI e (j : Nat)) := by simpa using c
      rw [decide_eq_true c', Bool.true_and] at two
      refine ⟨_, rfl, _, rfl, _, rfl, _, rfl, by rw [sizeLine_eq]; exact (by decide : 2 ≤ 16777216), fun q hq => ?_⟩
      obtain ⟨G3, qN, u3, e3⟩ := newE (o := .tup [.int (i : Nat), .int (j : Nat)]) hq
      rw [qN]; clear qN
      have sG3 := sG2.trans u3
      refine ⟨_, rfl, t1, t2, q, L, d, e, z, i, j, rfl, l1.mono sG3, l2.mono sG3, gd, ge, e3, hi, hj, sG3 _ _ hL, pz.same sG3, fun G4 u4 => ?_⟩
      rw [← two]
      refine ⟨_, rfl, ite2 (fun c2 => ?_) (fun c2 => ?_)⟩
      · rw [bad (by simpa using c2)] at k
        exact k _ (sG3.trans u4)
      · refine ⟨_, _, rfl, sG3.trans u4, take_allZ hn hall ?_⟩
        cases h : pairB d e (z.map Prod.snd) z[n].2 with
        | true => rfl
        | false => rw [h] at c2; exact absurd rfl c2
    rintro σ G ⟨z3, z4, rfl, sG, hall⟩
    rw [List.take_length] at hall
    rw [hall] at k
    exact k _ sG
end KK

set_option Elab.async false
set_option linter.all false
set_option maxRecDepth 100000
set_option maxHeartbeats 8000000
namespace KK
open PySem PySem.Spec L2 L3
theorem PZ.put {H : Hp} {P : Addr} {xs : List V} {o : HO} {z : List (V × List Int)} (h : H P = some (.lst xs)) (q : PZ H z) : PZ (upd H P o) z := q.mono fun b ys e => by
  rw [upd_ne (fun w => by rw [w, h] at e; cases e)]; exact e
theorem Lists.many {H : Hp} {t : Addr} {d : WD} (h : Lists H t d) : ∃ S w st f vs, H t = some (.tup [.ref S, w, st, f]) ∧ H S = some (.lst vs) ∧ vs.length = d.signs.length := by
  obtain ⟨s, w, st, f, h1, h2⟩ := h.ex
  obtain ⟨S, vs, rfl, g, l, q⟩ := h2.s
  exact ⟨S, w, st, f, vs, h1, g, l⟩
def sp__law_tied (K : PySem.W.Frag) (a : Adr) : Sp := fun vs H Q _ => ∃ (t1 t2 : Addr) (d e : WD), vs = [.ref t1, .ref t2] ∧ Lists H t1 d ∧ Lists H t2 e ∧ Good d ∧ Good e ∧ ∀ H' L (z : List (V × List Int)), Same H H' → H L = none → H' L = some (.lst (z.map Prod.fst)) → PZ H' z → (∀ x ∈ z, TwOk d.signs.length e.signs.length x.2) → z.length ≤ 400 → Q (.ref L) H'
theorem ok__law_tied {P : Program} {w : World} {K : PySem.W.Frag} {mg : Str → Option Value} {base : Heap} {a : Adr} (T : Txt K mg a) (hw : w.params = a.Pm) : FnOk P w K mg base CX0 2 a._law_tied a._law_tied_fd ["_law_one", "_law_other"] (sp__law_tied K a) := by
  have G__law_goes_on := ok__law_goes_on (P := P) (w := w) (base := base) T hw
  refine T.f__law_tied.ok sc__law_tied (fun vs H Q E h => ?_) (fun cdv A outer s H vs Q E hr h => ?_)
  · obtain ⟨t1, t2, d, e, rfl, _⟩ := h
    rfl
  · obtain ⟨t1, t2, d, e, rfl, l1, l2, gd, ge, k⟩ := h
    refine ⟨_, (@pss_cons _ _ _ _ _ (@ps_set _ _ (2) _ _ _ _ sc__law_tied.nd
      rfl
      (Or.inr rfl)
      (@pe_lst _ _ _ _ pa_nil)
      (by rfl)
      (by first | exact .inl rfl | exact .inr rfl | assumption))
      (@pss_cons _ _ _ _ _ (ps_for PassesOwn.never rfl (pi_range1 rfl T.b_range (@pa_cons _ _ _ _ _ (pe_callB (call_lenK (K := K) rfl) rfl T.b_len PyProof.Rows.Boot.«len» (@pa_cons _ _ _ _ _ (@pe_ix _ _ _ _ _ _ _ (ix_tupK (K := K) rfl)
      (pv 0)
      pe_int
      (fun _ _ => rfl))
      pa_nil
      (by rfl)))
      pa_nil
      (by rfl))) (pg_name (i := 3) sc__law_tied.nd rfl (Or.inl rfl)) (@pss_one _ _ _ (ps_for PassesOwn.never rfl (pi_range1 rfl T.b_range (@pa_cons _ _ _ _ _ (pe_callB (call_lenK (K := K) rfl) rfl T.b_len PyProof.Rows.Boot.«len» (@pa_cons _ _ _ _ _ (@pe_ix _ _ _ _ _ _ _ (ix_tupK (K := K) rfl)
      (pv 1)
      pe_int
      (fun _ _ => rfl))
      pa_nil
      (by rfl)))
      pa_nil
      (by rfl))) (pg_name (i := 4) sc__law_tied.nd rfl (Or.inl rfl)) (@pss_one _ _ _ (@ps_if _ _ _ _ _ _ _ _ (@pt_cmpR _ _ _ _ _ _ _ _ (op_eqDK (K := K) rfl (Room.units hr))
      (pe_callB (call_sortedK (K := K) rfl) rfl T.b_sorted PyProof.Rows.Boot.«sorted» (@pa_cons _ _ _ _ _ (@pe_ix _ _ _ _ _ _ _ (ix_listK (K := K) rfl)
      (@pe_ix _ _ _ _ _ _ _ (ix_tupK (K := K) rfl)
      (pv 0)
      pe_int
      (fun _ _ => rfl))
      (pv 3)
      (fun _ _ => rfl))
      pa_nil
      (by rfl)))
      (pe_callB (call_sortedK (K := K) rfl) rfl T.b_sorted PyProof.Rows.Boot.«sorted» (@pa_cons _ _ _ _ _ (@pe_ix _ _ _ _ _ _ _ (ix_listK (K := K) rfl)
      (@pe_ix _ _ _ _ _ _ _ (ix_tupK (K := K) rfl)
      (pv 1)
      pe_int
      (fun _ _ => rfl))
      (pv 4)
      (fun _ _ => rfl))
      pa_nil
      (by rfl)))
      (nomark _))
      (@pss_one _ _ _ (@ps_expr _ _ _ _ (pe_bm PySem.F.plainAttrs_list PySem.F.slot_list_append PySem.F.type_list_append mt_append (pv 2) (@pa_cons _ _ _ _ _ (@pe_tup _ _ _ _ _ (@pa_cons _ _ _ _ _ (pv 3)
      (@pa_cons _ _ _ _ _ (pv 4)
      pa_nil
      (by rfl))
      (by rfl)))
      pa_nil
      (by rfl)))
      (by rfl)))
      pss_nil)))))
      (@pss_one _ _ _ (ps_while PassesOwn.never (pt_val pe_bl) (@pss_cons _ _ _ _ _ (ps_setCompL (i := 5) sc__law_tied.nd rfl rfl (Nc := ["_law_pair", "_law_one", "_law_other", "_law_pairs_here"]) (ix := [none, some 0, some 1, some 2]) (CompOk.of (by decide +kernel : compChk (defScope s__law_tied) ["_law_one", "_law_other", "_law_pairs_here", "_law_room", "_law_far", "_law_left"] ["_law_pair", "_law_one", "_law_other", "_law_pairs_here"] [none, some 0, some 1, some 2] _ = true)) rfl (pi_listK (K := K) rfl (pv 2)) (fun _ _ _ _ _ => (pg_name (i := 0) (show List.Nodup (["_law_pair", "_law_one", "_law_other", "_law_pairs_here"] : List Str) by decide +kernel) rfl (Or.inl rfl))) (fun _ _ _ _ _ => (pts_one (pt_val (pe_call G__law_goes_on (hr.mono (by decide)) rfl T.g__law_goes_on T.f__law_goes_on.kp T.n__law_goes_on .nil pass0 (@pa_c _ _ _ _ _ (pv 1)
      (@pa_c _ _ _ _ _ (pv 2)
      (@pa_c _ _ _ _ _ (pv 0)
      (@pa_c _ _ _ _ _ (pv 3)
      pa_nil
      (by rfl))
      (by rfl))
      (by rfl))
      (by rfl)))))) (fun _ _ _ _ _ => (pv 0)))
      (@pss_cons _ _ _ _ _ (@ps_if _ _ _ _ _ _ _ _ (@pt_cmpR _ _ _ _ _ _ _ _ (op_eqDK (K := K) rfl (Room.units hr))
      (pv 5)
      (pv 2)
      (nomark _))
      (@pss_one _ _ _ (@ps_ret _ _ _ _ (pv 2)))
      pss_nil)
      (@pss_one _ _ _ (@ps_set _ _ (2) _ _ _ _ sc__law_tied.nd
      rfl
      (Or.inr rfl)
      (pv 5)
      (by rfl)
      (by first | exact .inl rfl | exact .inr rfl | assumption))))))))), ?_⟩
    have n20 := gd.n20
    have m20 := ge.n20
    refine ⟨by decide, fun P0 hP0 => ?_⟩
    obtain ⟨H1, qN, s1, e1⟩ := newE (o := .lst []) hP0
    rw [qN]; clear qN
    obtain ⟨S1, w1, st1, f1, v1, ht1, hS1, lv1⟩ := (l1.mono s1).many
    refine ⟨_, rfl, t1, _, _, _, rfl, rfl, SqT.of ht1, rfl, .inl ⟨S1, _, rfl, .inl (SqL.of hS1), _, rfl, by omega, by omega, ?_⟩⟩
    rw [Int.toNat_natCast, lv1]
    refine for_gen (J := Itr 0 d.signs.length) (n := d.signs.length) (fun i σ G => ∃ (z3 z4 : Option V) (z : List (V × List Int)), σ = [some (.ref t1), some (.ref t2), some (.ref P0), z3, z4, none] ∧ Same H G ∧ G P0 = some (.lst (z.map Prod.fst)) ∧ PZ G z ∧ (∀ x ∈ z, TwOk d.signs.length e.signs.length x.2) ∧ z.length ≤ i * 20) ?_ (fun i σ H' hi _ => hi) (fun σ H' _ => Nat.le_refl _) ?_ ?_
    · exact ⟨_, _, [], rfl, s1, e1, PZ.nil, (fun x hx => by cases hx), by simp⟩
    · rintro i x σ G0 G hi ⟨z3, z4, z, rfl, sG, gP, pz, tw, lz⟩ ⟨rfl, rfl⟩
      have ei : (0 : Int) + (i : Int) = ((i : Nat) : Int) := Int.zero_add _
      rw [ei]
      obtain ⟨S2, w2, st2, f2, v2, ht2, hS2, lv2⟩ := (l2.mono sG).many
      refine ⟨_, rfl, t2, _, _, _, rfl, rfl, SqT.of ht2, rfl, .inl ⟨S2, _, rfl, .inl (SqL.of hS2), _, rfl, by omega, by omega, ?_⟩⟩
      rw [Int.toNat_natCast, lv2]
      refine for_gen (J := Itr 0 e.signs.length) (n := e.signs.length) (fun j σ G => ∃ (z4 : Option V) (z : List (V × List Int)), σ = [some (.ref t1), some (.ref t2), some (.ref P0), some (.int (i : Nat)), z4, none] ∧ Same H G ∧ G P0 = some (.lst (z.map Prod.fst)) ∧ PZ G z ∧ (∀ x ∈ z, TwOk d.signs.length e.signs.length x.2) ∧ z.length ≤ i * 20 + j) ?_ (fun i σ H' hi _ => hi) (fun σ H' _ => Nat.le_refl _) ?_ ?_
      · exact ⟨_, z, rfl, sG, gP, pz, tw, by omega⟩
      · rintro j x σ F0 F hj ⟨z4, z, rfl, sF, fP, pz, tw, lz⟩ ⟨rfl, rfl⟩
        have ej : (0 : Int) + (j : Int) = ((j : Nat) : Int) := Int.zero_add _
        rw [ej]
        obtain ⟨S1, w1, st1, f1, v1, c1, ht1, hS1, _, ev1, hc1⟩ := (l1.mono sF).sign hi
        have nd : ∀ x ∈ signsI d (i : Nat), isNameS x = true := by rw [signsI_at hi]; exact (gd.sn _ (List.getElem_mem hi)).2.1
        have ne : ∀ x ∈ signsI e (j : Nat), isNameS x = true := by rw [signsI_at hj]; exact (ge.sn _ (List.getElem_mem hj)).2.1
        have ld := signs_len gd (i : Nat)
        have le := signs_len ge (j : Nat)
        refine ⟨_, rfl, t1, _, _, _, rfl, rfl, SqT.of ht1, rfl, _, rfl, S1, _, _, _, rfl, rfl, SqL.of hS1, atI_nat ev1, .inl ⟨c1, _, rfl, SqL.of hc1, by omega, fun m1 hm1 => ?_⟩⟩
        obtain ⟨G1, qN, u1, e1⟩ := newE (o := .lst ((sortS (signsI d (i : Nat))).map V.str)) hm1
        rw [qN]; clear qN
        obtain ⟨S2, w2, st2, f2, v2, c2, ht2, hS2, _, ev2, hc2⟩ := (l2.mono (sF.trans u1)).sign hj
        refine ⟨_, rfl, t2, _, _, _, rfl, rfl, SqT.of ht2, rfl, _, rfl, S2, _, _, _, rfl, rfl, SqL.of hS2, atI_nat ev2, .inl ⟨c2, _, rfl, SqL.of hc2, by omega, fun m2 hm2 => ?_⟩⟩
        obtain ⟨G2, qN, u2, e2⟩ := newE (o := .lst ((sortS (signsI e (j : Nat))).map V.str)) hm2
        rw [qN]; clear qN
        have u12 := u1.trans u2
        refine ⟨_, _, LS.dp ⟨m1, rfl, u2 _ _ e1⟩, LS.dp ⟨m2, rfl, e2⟩, (fineS (sorted_names nd)).1, (fineS (sorted_names ne)).1, Nat.le_trans (fineS (sorted_names nd)).2 (by decide), ?_⟩
        refine ⟨_, rfl, ite2 (fun c => ?_) (fun c => ?_)⟩
        · refine ⟨_, rfl, .inl ⟨rfl, _, SqL.of (u12 _ _ fP)⟩, _, rfl, _, rfl, by rw [sizeLine_eq]; exact (by decide : 2 ≤ 16777216), fun b hb => ?_⟩
          obtain ⟨G3, qN, u3, e3⟩ := newE (o := .tup [.int (i : Nat), .int (j : Nat)]) hb
          rw [qN]; clear qN
          have u13 := u12.trans u3
          have fP3 := u13 _ _ fP
          refine ⟨P0, _, _, rfl, rfl, fP3, by rw [List.length_map, sizeLine_eq]; omega, ?_⟩
          refine ⟨_, z ++ [(V.ref b, [((i : Nat) : Int), ((j : Nat) : Int)])], rfl, (SameX.upd (Same.x (sF.trans u13))).same hP0, by rw [upd_same, List.map_append]; rfl, PZ.put fP3 ((pz.same u13).app (PZ.one (p := [((i : Nat) : Int), ((j : Nat) : Int)]) e3)), fun x hx => ?_, by rw [List.length_append]; show z.length + 1 ≤ _; omega⟩
          rcases List.mem_append.mp hx with h | h
          · exact tw x h
          · cases List.mem_singleton.mp h
            exact ⟨i, j, rfl, hi, hj⟩
        · exact ⟨_, z, rfl, sF.trans u12, u12 _ _ fP, pz.same u12, tw, by omega⟩
      · rintro σ F ⟨z4, z, rfl, sF, fP, pz, tw, lz⟩
        exact ⟨_, _, z, rfl, sF, fP, pz, tw, by omega⟩
    rintro σ G ⟨z3, z4, z, rfl, sG, gP, pz, tw, lz⟩
    refine ⟨fun m σ G => ∃ (P : Addr) (z5 : Option V) (z : List (V × List Int)), σ = [some (.ref t1), some (.ref t2), some (.ref P), z3, z4, z5] ∧ Same H G ∧ H P = none ∧ G P = some (.lst (z.map Prod.fst)) ∧ PZ G z ∧ (∀ x ∈ z, TwOk d.signs.length e.signs.length x.2) ∧ z.length ≤ 400 ∧ m = z.length, ⟨z.length, P0, _, z, rfl, sG, hP0, gP, pz, tw, by omega, rfl⟩, ?_⟩
    clear lz tw pz gP sG G
    rintro m σ G ⟨P, z5, z, rfl, sG, hP, gP, pz, tw, lz, rfl⟩
    refine ⟨true, rfl, iteT ⟨fun σ G => ∃ (P : Addr) (z5 : Option V) (y : List (V × List Int)), σ = [some (.ref t1), some (.ref t2), some (.ref P), z3, z4, z5] ∧ Same H G ∧ H P = none ∧ G P = some (.lst (y.map Prod.fst)) ∧ PZ G y ∧ (∀ x ∈ y, TwOk d.signs.length e.signs.length x.2) ∧ y.length < z.length, ?_, ?_⟩⟩
    · rintro σ' G' ⟨P', z5', y, rfl, a1, a2, a3, a4, a5, a6⟩
      exact ⟨y.length, a6, P', z5', y, rfl, a1, a2, a3, a4, a5, by omega, rfl⟩
    refine ⟨_, rfl, P, rfl, ⟨_, SqL.of gP⟩, fun D hD => ?_⟩
    refine comp_selL z Prod.fst (fun x => keepB d e (z.map Prod.snd) x.2) Prod.fst hD (SqL.of gP) (by rw [sizeLine_eq]; omega) ?_ ?_
    · intro x hx F N N0 sF h1 h2
      obtain ⟨b, eb, gb⟩ := pz x hx
      obtain ⟨i, j, ep, hi, hj⟩ := tw x hx
      rw [ep] at h1 h2 gb
      rw [eb] at h1 ⊢
      have sHF := sG.trans sF
      refine ⟨_, rfl, _, rfl, _, rfl, _, rfl, t1, t2, b, P, d, e, z, i, j, rfl, l1.mono sHF, l2.mono sHF, gd, ge, sF _ _ gb, hi, hj, sF _ _ gP, pz.same sF, fun F2 u => ⟨_, rfl, ite2 (fun c => ?_) (fun c => ?_)⟩⟩
      · exact ⟨_, rfl, h1 _ u c⟩
      · exact h2 _ u ((Bool.eq_false_iff.mpr c))
    intro G1 eD u1
    have py : PZ G1 (z.filter fun x => keepB d e (z.map Prod.snd) x.2) := (pz.same u1).sub fun x hx => (List.mem_filter.mp hx).1
    have le : (z.filter fun x => keepB d e (z.map Prod.snd) x.2).length ≤ z.length := List.length_filter_le _ _
    have ne : (z.filter fun x => keepB d e (z.map Prod.snd) x.2).length = z.length → (z.filter fun x => keepB d e (z.map Prod.snd) x.2) = z := fun h => List.filter_eq_self.mpr (List.length_filter_eq_length_iff.mp h)
    have ty : ∀ x ∈ (z.filter fun x => keepB d e (z.map Prod.snd) x.2), x ∈ z := fun x hx => (List.mem_filter.mp hx).1
    generalize (z.filter fun x => keepB d e (z.map Prod.snd) x.2) = y at eD py le ne ty
    refine ⟨_, rfl, _, rfl, _, _, Dp.lst (SqL.of eD) (dp_plas py.at), Dp.lst (SqL.of (u1 _ _ gP)) (dp_plas (pz.same u1).at), (fine_plas _).1, (fine_plas _).1, Nat.le_trans (fine_plas _).2 (by decide), ?_⟩
    rw [eqv_plas]
    refine ⟨_, rfl, ite2 (fun c => ?_) (fun c => ?_)⟩
    · exact ⟨_, rfl, k _ P z (sG.trans u1) hP (u1 _ _ gP) (pz.same u1) tw (by omega)⟩
    · refine ⟨_, rfl, D, _, y, rfl, sG.trans u1, sG.free hD, eD, py, fun x hx => tw x (ty x hx), ?_⟩
      refine Nat.lt_of_le_of_ne le fun h => c ?_
      rw [ne h]
      exact decide_eq_true rfl
end KK

set_option Elab.async false
set_option linter.all false
set_option maxRecDepth 100000
set_option maxHeartbeats 8000000
namespace KK
open PySem PySem.Spec L2 L3
theorem erase_mapG {α β : Type} {f : α → β} : ∀ (l : List α) (i : Nat), (l.map f).eraseIdx i = (l.eraseIdx i).map f
  | [], _ => rfl
  | _ :: _, 0 => rfl
  | x :: r, i + 1 => by rw [List.map_cons, List.eraseIdx_cons_succ, List.eraseIdx_cons_succ, List.map_cons, erase_mapG r i]
def PrSt (n : Nat) (H : Hp) (t1 t2 X : Addr) (c wy : Int) (ns : List Int) (d e : WD) (σ : L2.St) (G : Hp) : Prop := ∃ (P EV : Addr) (z ev : List (V × List Int)) (z7 : Option V), σ = [some (.ref t1), some (.ref t2), some (.int c), some (.ref X), some (.ref P), some (.int wy), some (.ref EV), z7] ∧ Same H G ∧ H P = none ∧ P ≠ EV ∧ P ≠ X ∧ G X = some (.lst (ns.map V.int)) ∧ G P = some (.lst (z.map Prod.fst)) ∧ PZ G z ∧ (∀ x ∈ z, TwOk d.signs.length e.signs.length x.2) ∧ z.length ≤ n ∧ G EV = some (.lst (ev.map Prod.fst)) ∧ PZ G ev ∧ (∀ x ∈ ev, TwOk d.signs.length e.signs.length x.2) ∧ ev ≠ [] ∧ ev.length ≤ 400
theorem PrSt.up {n m : Nat} {H : Hp} {t1 t2 X : Addr} {c wy : Int} {ns : List Int} {d e : WD} {σ : L2.St} {G : Hp} (h : n ≤ m) (q : PrSt n H t1 t2 X c wy ns d e σ G) : PrSt m H t1 t2 X c wy ns d e σ G := by
  obtain ⟨P, EV, z, ev, z7, q1, q2, q3, q4, q5, q6, q7, q8, q9, q10, q⟩ := q
  exact ⟨P, EV, z, ev, z7, q1, q2, q3, q4, q5, q6, q7, q8, q9, Nat.le_trans q10 h, q⟩
def sameS (d e : WD) : List Int → Bool
  | [i, j] => decide (sortS (signsI d i) = sortS (signsI e j))
  | _ => false
def pickZ (ev : List (V × List Int)) (x : Int) : V × List Int := (ev[(x % (ev.length : Nat)).toNat]?).getD (.non, [])
theorem pickZ_at {ev : List (V × List Int)} (h : ev ≠ []) (x : Int) : atI (ev.map Prod.fst) (x % (ev.length : Nat)) = some (pickZ ev x).1 ∧ pickZ ev x ∈ ev ∧ (0 : Int) < (ev.length : Nat) := by
  have l0 : 0 < ev.length := Nat.pos_of_ne_zero fun e => h (List.eq_nil_of_length_eq_zero e)
  have a0 := Int.emod_nonneg x (show ((ev.length : Nat) : Int) ≠ 0 by omega)
  have a1 := Int.emod_lt_of_pos x (show (0 : Int) < (ev.length : Nat) by omega)
  obtain ⟨n, en⟩ := Int.eq_ofNat_of_zero_le a0
  unfold pickZ
  rw [en] at a1 ⊢
  have hn : n < ev.length := by omega
  rw [Int.toNat_natCast, List.getElem?_eq_getElem hn]
  exact ⟨atI_nat (by rw [List.getElem?_map, List.getElem?_eq_getElem hn]; rfl), List.getElem_mem hn, by omega⟩
def sp__law_pairs (K : PySem.W.Frag) (a : Adr) : Sp := fun vs H Q _ => ∃ (t1 t2 : Addr) (c : Int) (d e : WD), vs = [.ref t1, .ref t2, .int c] ∧ Lists H t1 d ∧ Lists H t2 e ∧ Good d ∧ Good e ∧ ∀ H' L (z : List (V × List Int)), Same H H' → H' L = some (.lst (z.map Prod.fst)) → PZ H' z → (∀ x ∈ z, TwOk d.signs.length e.signs.length x.2) → z.length ≤ 401 → Q (.ref L) H'
theorem ok__law_pairs {P : Program} {w : World} {K : PySem.W.Frag} {mg : Str → Option Value} {base : Heap} {a : Adr} (T : Txt K mg a) (hw : w.params = a.Pm) : FnOk P w K mg base CX0 3 a._law_pairs a._law_pairs_fd ["_law_one", "_law_other", "_law_cell"] (sp__law_pairs K a) := by
  have G__law_stream := ok__law_stream (P := P) (w := w) (base := base) T hw
  have G__law_tied := ok__law_tied (P := P) (w := w) (base := base) T hw
  refine T.f__law_pairs.ok sc__law_pairs (fun vs H Q E h => ?_) (fun cdv A outer s H vs Q E hr h => ?_)
  · obtain ⟨t1, t2, c, d, e, rfl, _⟩ := h
    rfl
  · obtain ⟨t1, t2, c, d, e, rfl, l1, l2, gd, ge, k⟩ := h
    refine ⟨_, (@pss_cons _ _ _ _ _ (@ps_set _ _ (3) _ _ _ _ sc__law_pairs.nd
      rfl
      (Or.inl rfl)
      (pe_call G__law_stream (hr.mono (by decide)) rfl T.g__law_stream T.f__law_stream.kp T.n__law_stream .nil pass0 (@pa_cons _ _ _ _ _ (pv 2)
      (@pa_cons _ _ _ _ _ pe_int
      pa_nil
      (by rfl))
      (by rfl)))
      (by rfl)
      (by first | exact .inl rfl | exact .inr rfl | assumption))
      (@pss_cons _ _ _ _ _ (@ps_set _ _ (4) _ _ _ _ sc__law_pairs.nd
      rfl
      (Or.inl rfl)
      (pe_call G__law_tied (hr.mono (by decide)) rfl T.g__law_tied T.f__law_tied.kp T.n__law_tied .nil pass0 (@pa_cons _ _ _ _ _ (pv 0)
      (@pa_cons _ _ _ _ _ (pv 1)
      pa_nil
      (by rfl))
      (by rfl)))
      (by rfl)
      (by first | exact .inl rfl | exact .inr rfl | assumption))
      (@pss_cons _ _ _ _ _ (@ps_set _ _ (5) _ _ _ _ sc__law_pairs.nd
      rfl
      (Or.inl rfl)
      (@pe_op _ _ _ _ _ _ _ _ op_mod
      (@pe_ix _ _ _ _ _ _ _ (ix_listK (K := K) rfl)
      (pv 3)
      pe_int
      (fun _ _ => rfl))
      pe_int)
      (by rfl)
      (by first | exact .inl rfl | exact .inr rfl | assumption))
      (@pss_cons _ _ _ _ _ (@ps_set _ _ (6) _ _ _ _ sc__law_pairs.nd
      rfl
      (Or.inr rfl)
      (@pe_lst _ _ _ _ pa_nil)
      (by rfl)
      (by first | exact .inl rfl | exact .inr rfl | assumption))
      (@pss_cons _ _ _ _ _ (ps_for PassesOwn.never rfl (pi_range1 rfl T.b_range (@pa_cons _ _ _ _ _ (pe_callB (call_lenK (K := K) rfl) rfl T.b_len PyProof.Rows.Boot.«len» (@pa_cons _ _ _ _ _ (@pe_ix _ _ _ _ _ _ _ (ix_tupK (K := K) rfl)
      (pv 0)
      pe_int
      (fun _ _ => rfl))
      pa_nil
      (by rfl)))
      pa_nil
      (by rfl))) (pg_name (i := 7) sc__law_pairs.nd rfl (Or.inr rfl)) (@pss_one _ _ _ (@ps_set _ _ (6) _ _ _ _ sc__law_pairs.nd
      rfl
      (Or.inr rfl)
      (@pe_op _ _ _ _ _ _ _ _ op_cat
      (pv 6)
      (pe_compL (Nc := ["_law_far", "_law_room"]) (ix := [none, some 7]) (CompOk.of (by decide +kernel : compChk (defScope s__law_pairs) ["_law_one", "_law_other", "_law_cell", "_law_xs", "_law_pairs_here", "_law_way", "_law_every", "_law_room"] ["_law_far", "_law_room"] [none, some 7] _ = true)) rfl (pi_range1 rfl T.b_range (@pa_cons _ _ _ _ _ (pe_callB (call_lenK (K := K) rfl) rfl T.b_len PyProof.Rows.Boot.«len» (@pa_cons _ _ _ _ _ (@pe_ix _ _ _ _ _ _ _ (ix_tupK (K := K) rfl)
      (pv 1)
      pe_int
      (fun _ _ => rfl))
      pa_nil
      (by rfl)))
      pa_nil
      (by rfl))) (fun _ _ _ _ _ => (pg_name (i := 0) (show List.Nodup (["_law_far", "_law_room"] : List Str) by decide +kernel) rfl (Or.inl rfl))) (fun _ _ _ _ _ => pts_nil) (fun _ _ _ _ _ => (@pe_tup _ _ _ _ _ (@pa_cons _ _ _ _ _ (pv 1)
      (@pa_cons _ _ _ _ _ (pv 0)
      pa_nil
      (by rfl))
      (by rfl))))))
      (by rfl)
      (by first | exact .inl rfl | exact .inr rfl | assumption))))
      (pss_join (@ps_if _ _ _ _ _ _ _ _ (PW.pt (pw_and (@pt_cmpR _ _ _ _ _ _ _ _ op_eq
      (pv 5)
      pe_int
      (nomark _)) (pw_and1 (@pt_cmpR _ _ _ _ _ _ _ _ (op_neDK (K := K) rfl (Room.units hr))
      (pv 4)
      (@pe_lst _ _ _ _ pa_nil)
      (nomark _)))))
      (@pss_one _ _ _ (@ps_expr _ _ _ _ (pe_bm PySem.F.plainAttrs_list PySem.F.slot_list_pop PySem.F.type_list_pop mt_popAt (pv 4) (@pa_cons _ _ _ _ _ (@pe_op _ _ _ _ _ _ _ _ op_mod
      (@pe_ix _ _ _ _ _ _ _ (ix_listK (K := K) rfl)
      (pv 3)
      pe_int
      (fun _ _ => rfl))
      (pe_callB (call_lenK (K := K) rfl) rfl T.b_len PyProof.Rows.Boot.«len» (@pa_cons _ _ _ _ _ (pv 4)
      pa_nil
      (by rfl))))
      pa_nil
      (by rfl)))
      (by rfl)))
      pss_nil)
          (pss_join (@ps_if _ _ _ _ _ _ _ _ (@pt_cmpR _ _ _ _ _ _ _ _ op_eq
      (pv 5)
      pe_int
      (nomark _))
      (@pss_one _ _ _ (@ps_expr _ _ _ _ (pe_bm PySem.F.plainAttrs_list PySem.F.slot_list_append PySem.F.type_list_append mt_append (pv 4) (@pa_cons _ _ _ _ _ (@pe_ix _ _ _ _ _ _ _ (ix_listK (K := K) rfl)
      (pv 6)
      (@pe_op _ _ _ _ _ _ _ _ op_mod
      (@pe_ix _ _ _ _ _ _ _ (ix_listK (K := K) rfl)
      (pv 3)
      pe_int
      (fun _ _ => rfl))
      (pe_callB (call_lenK (K := K) rfl) rfl T.b_len PyProof.Rows.Boot.«len» (@pa_cons _ _ _ _ _ (pv 6)
      pa_nil
      (by rfl))))
      (fun _ _ => rfl))
      pa_nil
      (by rfl)))
      (by rfl)))
      pss_nil)
          (pss_join (@ps_if _ _ _ _ _ _ _ _ (@pt_cmpR _ _ _ _ _ _ _ _ op_eq
      (pv 5)
      pe_int
      (nomark _))
      (@pss_one _ _ _ (ps_setCompL (i := 4) sc__law_pairs.nd rfl rfl (Nc := ["_law_x", "_law_every"]) (ix := [none, some 6]) (CompOk.of (by decide +kernel : compChk (defScope s__law_pairs) ["_law_one", "_law_other", "_law_cell", "_law_xs", "_law_pairs_here", "_law_way", "_law_every", "_law_room"] ["_law_x", "_law_every"] [none, some 6] _ = true)) rfl (pi_listK (K := K) rfl (pe_slice (sl_listK (K := K) rfl) (pv 3) (po_some pe_int) (po_some (@pe_op _ _ _ _ _ _ _ _ op_add
      pe_int
      (@pe_op _ _ _ _ _ _ _ _ op_mod
      (@pe_ix _ _ _ _ _ _ _ (ix_listK (K := K) rfl)
      (pv 3)
      pe_int
      (fun _ _ => rfl))
      pe_int))))) (fun _ _ _ _ _ => (pg_name (i := 0) (show List.Nodup (["_law_x", "_law_every"] : List Str) by decide +kernel) rfl (Or.inl rfl))) (fun _ _ _ _ _ => pts_nil) (fun _ _ _ _ _ => (@pe_ix _ _ _ _ _ _ _ (ix_listK (K := K) rfl)
      (pv 1)
      (@pe_op _ _ _ _ _ _ _ _ op_mod
      (pv 0)
      (pe_callB (call_lenK (K := K) rfl) rfl T.b_len PyProof.Rows.Boot.«len» (@pa_cons _ _ _ _ _ (pv 1)
      pa_nil
      (by rfl))))
      (fun _ _ => rfl)))))
      pss_nil)
          (pss_join (@ps_if _ _ _ _ _ _ _ _ (@pt_cmpR _ _ _ _ _ _ _ _ op_eq
      (pv 5)
      pe_int
      (nomark _))
      (@pss_one _ _ _ (ps_setCompL (i := 4) sc__law_pairs.nd rfl rfl (Nc := ["_law_pair", "_law_one", "_law_other"]) (ix := [none, some 0, some 1]) (CompOk.of (by decide +kernel : compChk (defScope s__law_pairs) ["_law_one", "_law_other", "_law_cell", "_law_xs", "_law_pairs_here", "_law_way", "_law_every", "_law_room"] ["_law_pair", "_law_one", "_law_other"] [none, some 0, some 1] _ = true)) rfl (pi_listK (K := K) rfl (pv 6)) (fun _ _ _ _ _ => (pg_name (i := 0) (show List.Nodup (["_law_pair", "_law_one", "_law_other"] : List Str) by decide +kernel) rfl (Or.inl rfl))) (fun _ _ _ _ _ => (pts_one (@pt_cmpR _ _ _ _ _ _ _ _ (op_eqDK (K := K) rfl (Room.units hr))
      (pe_callB (call_sortedK (K := K) rfl) rfl T.b_sorted PyProof.Rows.Boot.«sorted» (@pa_cons _ _ _ _ _ (@pe_ix _ _ _ _ _ _ _ (ix_listK (K := K) rfl)
      (@pe_ix _ _ _ _ _ _ _ (ix_tupK (K := K) rfl)
      (pv 1)
      pe_int
      (fun _ _ => rfl))
      (@pe_ix _ _ _ _ _ _ _ (ix_tupK (K := K) rfl)
      (pv 0)
      pe_int
      (fun _ _ => rfl))
      (fun _ _ => rfl))
      pa_nil
      (by rfl)))
      (pe_callB (call_sortedK (K := K) rfl) rfl T.b_sorted PyProof.Rows.Boot.«sorted» (@pa_cons _ _ _ _ _ (@pe_ix _ _ _ _ _ _ _ (ix_listK (K := K) rfl)
      (@pe_ix _ _ _ _ _ _ _ (ix_tupK (K := K) rfl)
      (pv 2)
      pe_int
      (fun _ _ => rfl))
      (@pe_ix _ _ _ _ _ _ _ (ix_tupK (K := K) rfl)
      (pv 0)
      pe_int
      (fun _ _ => rfl))
      (fun _ _ => rfl))
      pa_nil
      (by rfl)))
      (nomark _)))) (fun _ _ _ _ _ => (pv 0))))
      pss_nil)
          (pss_join (@ps_if _ _ _ _ _ _ _ _ (@pt_cmpR _ _ _ _ _ _ _ _ op_eq
      (pv 5)
      pe_int
      (nomark _))
      (@pss_one _ _ _ (@ps_set _ _ (4) _ _ _ _ sc__law_pairs.nd
      rfl
      (Or.inl rfl)
      (@pe_ix _ _ _ _ _ _ _ (ix_listK (K := K) rfl)
      (@pe_lst _ _ _ _ (@pa_cons _ _ _ _ _ (@pe_lst _ _ _ _ pa_nil)
      (@pa_cons _ _ _ _ _ (pv 6)
      pa_nil
      (by rfl))
      (by rfl)))
      (@pe_op _ _ _ _ _ _ _ _ op_mod
      (@pe_ix _ _ _ _ _ _ _ (ix_listK (K := K) rfl)
      (pv 3)
      pe_int
      (fun _ _ => rfl))
      pe_int)
      (fun _ _ => rfl))
      (by rfl)
      (by first | exact .inl rfl | exact .inr rfl | assumption)))
      pss_nil)
          (@pss_one _ _ _ (@ps_ret _ _ _ _ (pv 4))))))))))))), ?_⟩
    have n20 := gd.n20
    have m20 := ge.n20
    have n1 := gd.n1
    have m1 := ge.n1
    refine ⟨_, rfl, c, 8, rfl, by decide, fun H1 X ns s1 X0 hX ln => ?_⟩
    have hx : ∀ j : Nat, (hj : j < 8) → atI (ns.map V.int) (j : Int) = some (.int (ns[j]'(by omega))) := fun j hj => atI_nat (by rw [List.getElem?_map, List.getElem?_eq_getElem (by omega)]; rfl)
    refine ⟨_, rfl, _, rfl, t1, t2, d, e, rfl, l1.mono s1, l2.mono s1, gd, ge, fun H2 P z s2 P1 gP pz tw lz => ?_⟩
    refine ⟨_, rfl, X, _, _, _, rfl, rfl, SqL.of (s2 _ _ hX), hx 0 (by omega), _, _, rfl, rfl, by decide, ?_⟩
    generalize ns[0]'(by omega) % (6 : Int) = wy
    refine ⟨by decide, fun E0 hE0 => ?_⟩
    obtain ⟨H3, qN, s3, e3⟩ := newE (o := .lst []) hE0
    rw [qN]; clear qN
    have s13 := s1.trans (s2.trans s3)
    have nPX : P ≠ X := fun h => by rw [h, hX] at P1; cases P1
    have nPE : P ≠ E0 := fun h => by rw [h, hE0] at gP; cases gP
    obtain ⟨S1, w1, st1, f1, v1, ht1, hS1, lv1⟩ := (l1.mono s13).many
    refine ⟨_, rfl, t1, _, _, _, rfl, rfl, SqT.of ht1, rfl, .inl ⟨S1, _, rfl, .inl (SqL.of hS1), _, rfl, by omega, by omega, ?_⟩⟩
    rw [Int.toNat_natCast, lv1]
    refine for_gen (J := Itr 0 d.signs.length) (n := d.signs.length) (fun i σ G => ∃ (EV : Addr) (ev : List (V × List Int)) (z7 : Option V), σ = [some (.ref t1), some (.ref t2), some (.int c), some (.ref X), some (.ref P), some (.int wy), some (.ref EV), z7] ∧ Same H2 G ∧ P ≠ EV ∧ G EV = some (.lst (ev.map Prod.fst)) ∧ PZ G ev ∧ (∀ x ∈ ev, TwOk d.signs.length e.signs.length x.2) ∧ ev.length = i * e.signs.length) ?_ (fun i σ H' hi _ => hi) (fun σ H' _ => Nat.le_refl _) ?_ ?_
    · exact ⟨E0, [], _, rfl, s3, nPE, e3, PZ.nil, (fun x hx => by cases hx), by simp⟩
    · rintro i x σ G0 G hi ⟨EV, ev, z7, rfl, sG, nE, gE, pe, te, le⟩ ⟨rfl, rfl⟩
      have ei : (0 : Int) + (i : Int) = ((i : Nat) : Int) := Int.zero_add _
      rw [ei]
      have sHG := s1.trans (s2.trans sG)
      obtain ⟨S2, w2, st2, f2, v2, ht2, hS2, lv2⟩ := (l2.mono sHG).many
      have le2 : ev.length ≤ 400 := by
        have := Nat.mul_le_mul (show i ≤ 20 by omega) m20
        omega
      refine ⟨_, rfl, _, rfl, t2, _, _, _, rfl, rfl, SqT.of ht2, rfl, .inl ⟨S2, _, rfl, .inl (SqL.of hS2), _, rfl, by omega, by omega, ?_⟩⟩
      rw [Int.toNat_natCast, lv2]
      intro D hD
      refine comp_genL (J := Itr 0 e.signs.length) (n := e.signs.length) (fun j σ F => ∃ (y : Option V) (nw : List (V × List Int)), σ = [y, some (.int (i : Nat))] ∧ Same G F ∧ F D = some (.lst (nw.map Prod.fst)) ∧ PZ F nw ∧ (∀ x ∈ nw, TwOk d.signs.length e.signs.length x.2) ∧ nw.length = j) ?_ (fun i σ H' hi _ => hi) (fun σ H' _ => Nat.le_refl _) ?_ ?_
      · exact ⟨_, [], rfl, same_upd hD, upd_same, PZ.nil, (fun x hx => by cases hx), rfl⟩
      · rintro j x σ F0 F hj ⟨y, nw, rfl, sF, fD, pn, tn, ln2⟩ ⟨rfl, rfl⟩ N N0 hN hN0
        have ej : (0 : Int) + (j : Int) = ((j : Nat) : Int) := Int.zero_add _
        rw [ej]
        refine tTrue_if (te := tTup (tCons (tVar 1) (tCons (tVar 0) tNil))) (σ := [some (.int (j : Nat)), some (.int (i : Nat))]) (H := F) (N := fun v H5 => N v [some (.int (j : Nat)), some (.int (i : Nat))] H5) (N0 := fun H4 => N0 [some (.int (j : Nat)), some (.int (i : Nat))] H4) ?_
        refine ⟨_, rfl, _, rfl, by rw [sizeLine_eq]; exact (by decide : 2 ≤ 16777216), fun b hb => ?_⟩
        obtain ⟨F2, qN, u1, eb⟩ := newE (o := .tup [.int (i : Nat), .int (j : Nat)]) hb
        rw [qN]; clear qN
        have fD2 := u1 _ _ fD
        refine hN _ _ F2 _ fD2 (by rw [List.length_map, sizeLine_eq]; omega) ⟨_, nw ++ [(V.ref b, [((i : Nat) : Int), ((j : Nat) : Int)])], rfl, (SameX.upd (Same.x (sF.trans u1))).same hD, by rw [upd_same, List.map_append]; rfl, PZ.put fD2 ((pn.same u1).app (PZ.one (p := [((i : Nat) : Int), ((j : Nat) : Int)]) eb)), fun x hx => ?_, by rw [List.length_append, ln2]; rfl⟩
        rcases List.mem_append.mp hx with h | h
        · exact tn x h
        · cases List.mem_singleton.mp h
          exact ⟨i, j, rfl, hi, hj⟩
      rintro σ F ⟨y, nw, rfl, sF, fD, pn, tn, ln2⟩
      refine ⟨EV, D, _, _, rfl, rfl, sF _ _ gE, fD, by rw [List.length_map, List.length_map, sizeLine_eq]; omega, fun R hR => ?_⟩
      rw [← List.map_append]
      obtain ⟨F2, qN, u1, eR⟩ := newE (o := .lst ((ev ++ nw).map Prod.fst)) hR
      rw [qN]; clear qN
      refine ⟨R, ev ++ nw, _, rfl, sG.trans (sF.trans u1), ?_, eR, ((pe.same sF).app pn).same u1, fun x hx => (List.mem_append.mp hx).elim (te x) (tn x), ?_⟩
      · intro h
        rw [← h, (sG.trans sF) _ _ gP] at hR; cases hR
      · rw [List.length_append, le, ln2, Nat.succ_mul]
    rintro σ H4 ⟨EV, ev, z7, rfl, s4, nE, gE, pe, te, le⟩
    have le2 : ev.length ≤ 400 := by
      have := Nat.mul_le_mul n20 m20
      omega
    have en : ev ≠ [] := fun h => by
      have h0 : ev.length = 0 := by rw [h]; rfl
      have := Nat.mul_le_mul n1 m1
      omega
    have s14 := s1.trans (s2.trans s4)
    have st0 : PrSt 400 H t1 t2 X c wy ns d e [some (.ref t1), some (.ref t2), some (.int c), some (.ref X), some (.ref P), some (.int wy), some (.ref EV), z7] H4 := ⟨P, EV, z, ev, z7, rfl, s14, s1.free P1, nE, nPX, (s2.trans s4) _ _ hX, s4 _ _ gP, pz.same s4, tw, lz, gE, pe, te, en, le2⟩
    clear st1 ht1 hS1 lv1 v1 f1 w1 S1 le te pe gE nE s4 pz tw lz gP s13 e3 s3 nPE nPX P1 hE0 E0
    generalize [some (V.ref t1), some (V.ref t2), some (V.int c), some (V.ref X), some (V.ref P), some (V.int wy), some (V.ref EV), z7] = σ at st0 ⊢
    clear s14 en le2
    -- way 1
    refine ⟨PrSt 400 H t1 t2 X c wy ns d e, ?_, ?_⟩
    · obtain ⟨P, EV, z, ev, z7, rfl, sG, hP, nPE, nPX, gX, gP, pz, tw, lz, gE, pe, te, en, le⟩ := st0
      refine ⟨_, rfl, rfl, _, rfl, ite2 (fun c1 => ?_) (fun c1 => iteF ?_)⟩
      · refine ⟨_, rfl, by decide, fun B hB => ?_⟩
        obtain ⟨G1, qN, u1, eB⟩ := newE (o := .lst []) hB
        rw [qN]; clear qN
        have gP1 := u1 _ _ gP
        refine ⟨_, .list (([] : List (List Int)).map dPla), Dp.lst (SqL.of gP1) (dp_plas (pz.same u1).at), Dp.lst (SqL.of eB) .nil, (fine_plas _).1, (fine_plas _).1, Nat.le_trans (fine_plas _).2 (by decide), ?_⟩
        rw [eqv_plas]
        refine ⟨_, rfl, ite2 (fun c2 => ?_) (fun c2 => ?_)⟩
        · have zn : z ≠ [] := fun h => by rw [h] at c2; simp at c2
          have l0 : 0 < z.length := Nat.pos_of_ne_zero fun e => zn (List.eq_nil_of_length_eq_zero e)
          have a0 := Int.emod_nonneg (ns[1]'(by omega)) (show ((z.length : Nat) : Int) ≠ 0 by omega)
          have a1 := Int.emod_lt_of_pos (ns[1]'(by omega)) (show (0 : Int) < (z.length : Nat) by omega)
          refine ⟨_, rfl, .inl ⟨rfl, _, SqL.of gP1⟩, _, rfl, X, _, _, _, rfl, rfl, SqL.of (u1 _ _ gX), hx 1 (by omega), _, rfl, .inl ⟨P, _, rfl, .inl (SqL.of gP1), ?_⟩⟩
          rw [List.length_map]
          obtain ⟨n, hn⟩ := Int.eq_ofNat_of_zero_le a0
          refine ⟨_, _, rfl, rfl, by omega, ?_⟩
          rw [hn] at a1 ⊢
          have hn2 : n < z.length := by omega
          refine ⟨P, _, _, n, _, rfl, rfl, gP1, by omega, by omega, by rw [List.length_map]; exact seqIndex_of (by omega) (by omega), List.getElem?_eq_getElem (by rw [List.length_map]; exact hn2), ?_⟩
          rw [erase_mapG]
          have sub : ∀ x ∈ z.eraseIdx n, x ∈ z := fun x hx => (List.eraseIdx_sublist z n).subset hx
          refine ⟨P, EV, z.eraseIdx n, ev, _, rfl, (SameX.upd (Same.x (sG.trans u1))).same hP, hP, nPE, nPX, by rw [upd_ne (Ne.symm nPX)]; exact u1 _ _ gX, upd_same, PZ.put gP1 ((pz.same u1).sub sub), fun x hx => tw x (sub x hx), ?_, by rw [upd_ne (Ne.symm nPE)]; exact u1 _ _ gE, PZ.put gP1 (pe.same u1), te, en, le⟩
          have := (List.eraseIdx_sublist z n).length_le
          omega
        · exact ⟨P, EV, z, ev, _, rfl, sG.trans u1, hP, nPE, nPX, u1 _ _ gX, gP1, pz.same u1, tw, lz, u1 _ _ gE, pe.same u1, te, en, le⟩
      · exact ⟨P, EV, z, ev, _, rfl, sG, hP, nPE, nPX, gX, gP, pz, tw, lz, gE, pe, te, en, le⟩
    clear st0 σ H4
    intro σ G st0
    -- way 2
    refine ⟨PrSt 401 H t1 t2 X c wy ns d e, ?_, ?_⟩
    · obtain ⟨P, EV, z, ev, z7, rfl, sG, hP, nPE, nPX, gX, gP, pz, tw, lz, gE, pe, te, en, le⟩ := st0
      refine ⟨_, rfl, rfl, _, rfl, ite2 (fun c1 => ?_) (fun c1 => ?_)⟩
      · obtain ⟨at1, mem1, pos1⟩ := pickZ_at en (ns[1]'(by omega))
        refine ⟨_, rfl, .inl ⟨rfl, _, SqL.of gP⟩, _, rfl, _, rfl, X, _, _, _, rfl, rfl, SqL.of gX, hx 1 (by omega), _, rfl, .inl ⟨EV, _, rfl, .inl (SqL.of gE), ?_⟩⟩
        rw [List.length_map]
        refine ⟨_, _, rfl, rfl, pos1, EV, _, _, _, rfl, rfl, SqL.of gE, at1, P, _, _, rfl, rfl, gP, by rw [List.length_map, sizeLine_eq]; omega, ?_⟩
        refine ⟨P, EV, z ++ [pickZ ev (ns[1]'(by omega))], ev, _, rfl, (SameX.upd (Same.x sG)).same hP, hP, nPE, nPX, by rw [upd_ne (Ne.symm nPX)]; exact gX, by rw [upd_same, List.map_append]; rfl, PZ.put gP (pz.app (pe.sub fun x hx => by rw [List.mem_singleton.mp hx]; exact mem1)), fun x hx => ?_, ?_, by rw [upd_ne (Ne.symm nPE)]; exact gE, PZ.put gP pe, te, en, le⟩
        · rcases List.mem_append.mp hx with h | h
          · exact tw x h
          · rw [List.mem_singleton.mp h]; exact te _ mem1
        · rw [List.length_append]; show z.length + 1 ≤ 401; omega
      · exact PrSt.up (by decide) ⟨P, EV, z, ev, _, rfl, sG, hP, nPE, nPX, gX, gP, pz, tw, lz, gE, pe, te, en, le⟩
    clear st0 σ G
    intro σ G st0
    -- way 3
    refine ⟨PrSt 401 H t1 t2 X c wy ns d e, ?_, ?_⟩
    · obtain ⟨P, EV, z, ev, z7, rfl, sG, hP, nPE, nPX, gX, gP, pz, tw, lz, gE, pe, te, en, le⟩ := st0
      refine ⟨_, rfl, rfl, _, rfl, ite2 (fun c1 => ?_) (fun c1 => ?_)⟩
      · refine ⟨_, rfl, _, rfl, _, rfl, X, _, _, _, rfl, rfl, SqL.of gX, hx 1 (by omega), _, _, rfl, rfl, by decide, _, _, rfl, rfl, _, rfl, X, _, rfl, SqL.of gX, fun R hR => ?_⟩
        obtain ⟨zs, ezs, lzs⟩ := cut_ints ns (some 2) (some ((3 : Int) + ns[1]'(by omega) % 6))
        rw [ezs]
        obtain ⟨G1, qN, u1, eR⟩ := newE (o := .lst (zs.map V.int)) hR
        rw [qN]; clear qN
        refine ⟨R, rfl, ⟨_, SqL.of eR⟩, fun D hD => ?_⟩
        refine comp_selML zs V.int (fun x => (pickZ ev x).1) hD (SqL.of eR) (by rw [sizeLine_eq]; omega) ?_ ?_
        · intro x hx F N sF hN
          obtain ⟨at1, mem1, pos1⟩ := pickZ_at en x
          have gE1 := (u1.trans sF) _ _ gE
          refine ⟨_, rfl, _, rfl, _, rfl, .inl ⟨EV, _, rfl, .inl (SqL.of gE1), ?_⟩⟩
          rw [List.length_map]
          exact ⟨_, _, rfl, rfl, pos1, EV, _, _, _, rfl, rfl, SqL.of gE1, at1, hN _ (.refl _)⟩
        intro G2 eD u2
        have u12 := u1.trans u2
        have mm : ∀ x ∈ zs.map (pickZ ev), x ∈ ev := fun x hx => by
          obtain ⟨y, _, rfl⟩ := List.mem_map.mp hx
          exact (pickZ_at en y).2.1
        have hD0 : G D = none := u1.free hD
        refine ⟨D, EV, zs.map (pickZ ev), ev, _, rfl, sG.trans u12, sG.free hD0, (ne_new gE hD0).symm, (ne_new gX hD0).symm, u12 _ _ gX, by rw [eD, List.map_map]; rfl, (pe.same u12).sub mm, fun x hx => te x (mm x hx), by rw [List.length_map]; omega, u12 _ _ gE, pe.same u12, te, en, le⟩
      · exact ⟨P, EV, z, ev, _, rfl, sG, hP, nPE, nPX, gX, gP, pz, tw, lz, gE, pe, te, en, le⟩
    clear st0 σ G
    intro σ G st0
    -- way 4
    refine ⟨PrSt 401 H t1 t2 X c wy ns d e, ?_, ?_⟩
    · obtain ⟨P, EV, z, ev, z7, rfl, sG, hP, nPE, nPX, gX, gP, pz, tw, lz, gE, pe, te, en, le⟩ := st0
      refine ⟨_, rfl, rfl, _, rfl, ite2 (fun c1 => ?_) (fun c1 => ?_)⟩
      · refine ⟨_, rfl, EV, rfl, ⟨_, SqL.of gE⟩, fun D hD => ?_⟩
        refine comp_selL ev Prod.fst (fun x => sameS d e x.2) Prod.fst hD (SqL.of gE) (by rw [sizeLine_eq]; omega) ?_ ?_
        · intro x hx F N N0 sF h1 h2
          obtain ⟨b, eb, gb⟩ := pe x hx
          obtain ⟨i, j, ep, hi, hj⟩ := te x hx
          rw [ep] at h1 h2 gb
          rw [eb] at h1 ⊢
          have sHF := sG.trans sF
          obtain ⟨S1, w1, st1, f1, v1, c1, ht1, hS1, _, ev1, hc1⟩ := (l1.mono sHF).sign hi
          have nd : ∀ x ∈ signsI d (i : Nat), isNameS x = true := by rw [signsI_at hi]; exact (gd.sn _ (List.getElem_mem hi)).2.1
          have ne : ∀ x ∈ signsI e (j : Nat), isNameS x = true := by rw [signsI_at hj]; exact (ge.sn _ (List.getElem_mem hj)).2.1
          have ld := signs_len gd (i : Nat)
          have le := signs_len ge (j : Nat)
          refine ⟨_, rfl, t1, _, _, _, rfl, rfl, SqT.of ht1, rfl, _, rfl, b, _, _, _, rfl, rfl, SqT.of (sF _ _ gb), rfl, S1, _, _, _, rfl, rfl, SqL.of hS1, atI_nat ev1, .inl ⟨c1, _, rfl, SqL.of hc1, by omega, fun m1 hm1 => ?_⟩⟩
          obtain ⟨G1, qN, u1, e1⟩ := newE (o := .lst ((sortS (signsI d (i : Nat))).map V.str)) hm1
          rw [qN]; clear qN
          obtain ⟨S2, w2, st2, f2, v2, c2, ht2, hS2, _, ev2, hc2⟩ := (l2.mono (sHF.trans u1)).sign hj
          refine ⟨_, rfl, t2, _, _, _, rfl, rfl, SqT.of ht2, rfl, _, rfl, b, _, _, _, rfl, rfl, SqT.of ((sF.trans u1) _ _ gb), rfl, S2, _, _, _, rfl, rfl, SqL.of hS2, atI_nat ev2, .inl ⟨c2, _, rfl, SqL.of hc2, by omega, fun m2 hm2 => ?_⟩⟩
          obtain ⟨G2, qN, u2, e2⟩ := newE (o := .lst ((sortS (signsI e (j : Nat))).map V.str)) hm2
          rw [qN]; clear qN
          have u12 := u1.trans u2
          refine ⟨_, _, LS.dp ⟨m1, rfl, u2 _ _ e1⟩, LS.dp ⟨m2, rfl, e2⟩, (fineS (sorted_names nd)).1, (fineS (sorted_names ne)).1, Nat.le_trans (fineS (sorted_names nd)).2 (by decide), ?_⟩
          rw [eqv_dS]
          refine ⟨_, rfl, ite2 (fun c => ?_) (fun c => ?_)⟩
          · exact ⟨_, rfl, h1 _ u12 c⟩
          · exact h2 _ u12 ((Bool.eq_false_iff.mpr c))
        intro G1 eD u1
        have mm : ∀ x ∈ ev.filter (fun x => sameS d e x.2), x ∈ ev := fun x hx => (List.mem_filter.mp hx).1
        refine ⟨D, EV, ev.filter (fun x => sameS d e x.2), ev, _, rfl, sG.trans u1, sG.free hD, (ne_new gE hD).symm, (ne_new gX hD).symm, u1 _ _ gX, eD, (pe.same u1).sub mm, fun x hx => te x (mm x hx), Nat.le_trans (List.length_filter_le _ _) (by omega), u1 _ _ gE, pe.same u1, te, en, le⟩
      · exact ⟨P, EV, z, ev, _, rfl, sG, hP, nPE, nPX, gX, gP, pz, tw, lz, gE, pe, te, en, le⟩
    clear st0 σ G
    intro σ G st0
    -- way 5
    refine ⟨fun σ G => ∃ (P EV : Addr) (z : List (V × List Int)) (z7 : Option V), σ = [some (.ref t1), some (.ref t2), some (.int c), some (.ref X), some (.ref P), some (.int wy), some (.ref EV), z7] ∧ Same H G ∧ G P = some (.lst (z.map Prod.fst)) ∧ PZ G z ∧ (∀ x ∈ z, TwOk d.signs.length e.signs.length x.2) ∧ z.length ≤ 401, ?_, ?_⟩
    · obtain ⟨P, EV, z, ev, z7, rfl, sG, hP, nPE, nPX, gX, gP, pz, tw, lz, gE, pe, te, en, le⟩ := st0
      refine ⟨_, rfl, rfl, _, rfl, ite2 (fun c1 => ?_) (fun c1 => ?_)⟩
      · refine ⟨by decide, fun n1 h1 => ?_⟩
        obtain ⟨G1, qN, u1, e1⟩ := newE (o := .lst []) h1
        rw [qN]; clear qN
        refine ⟨_, rfl, by rw [sizeLine_eq]; exact (by decide : 2 ≤ 16777216), fun n2 h2 => ?_⟩
        obtain ⟨G2, qN, u2, e2⟩ := newE (o := .lst [.ref n1, .ref EV]) h2
        rw [qN]; clear qN
        have u12 := u1.trans u2
        obtain ⟨_, v, hv, hvm⟩ := at_mod (ts := [V.ref n1, .ref EV]) (ns[1]'(by omega)) (by simp)
        refine ⟨_, rfl, X, _, _, _, rfl, rfl, SqL.of (u12 _ _ gX), hx 1 (by omega), _, _, rfl, rfl, by decide, n2, _, _, _, rfl, rfl, SqL.of e2, hv, ?_⟩
        simp only [List.mem_cons, List.not_mem_nil, or_false] at hvm
        rcases hvm with rfl | rfl
        · exact ⟨n1, EV, [], _, rfl, sG.trans u12, u2 _ _ e1, PZ.nil, (fun x hx => by cases hx), by decide⟩
        · exact ⟨EV, EV, ev, _, rfl, sG.trans u12, u12 _ _ gE, pe.same u12, te, by omega⟩
      · exact ⟨P, EV, z, _, rfl, sG, gP, pz, tw, lz⟩
    clear st0 σ G
    rintro σ G ⟨P, EV, z, z7, rfl, sG, gP, pz, tw, lz⟩
    exact ⟨_, rfl, k _ P z sG gP pz tw lz⟩
end KK

set_option Elab.async false
set_option linter.all false
set_option maxRecDepth 100000
set_option maxHeartbeats 4000000
namespace L3
open PySem PySem.Spec PyProof.Rows L2
/-! ### a world's lists, one of them changed in place -/
theorem new_upd {H0 G : Hp} {c : Addr} {o : HO} (h : H0 c = none) : New H0 (upd G c o) = upd (New H0 G) c o := by
  funext b
  unfold New upd
  by_cases e : b = c
  · subst e; rw [h]; simp
  · simp [e]
theorem sep_si {H : Hp} {a b : Addr} {l1 : List Str} {l2 : List Int} (h1 : H a = some (.lst (l1.map V.str))) (h2 : H b = some (.lst (l2.map V.int))) (n : l2 ≠ []) : a ≠ b := fun e => by
  subst e
  rw [h1] at h2
  have h3 : l1.map V.str = l2.map V.int := by injection h2 with h2; injection h2
  cases l2 with
  | nil => exact n rfl
  | cons x r => cases l1 with
    | nil => cases h3
    | cons y s => rw [List.map_cons, List.map_cons] at h3; injection h3 with h3 _; cases h3
theorem sep_r {H : Hp} {a b : Addr} {vs xs : List V} (h1 : H a = some (.lst vs)) (h2 : H b = some (.lst xs)) (r : ∃ c, vs[0]? = some (.ref c)) (q : ∀ x ∈ xs, ∀ c, x ≠ .ref c) : a ≠ b := fun e => by
  subst e
  rw [h1] at h2
  have h3 : vs = xs := by injection h2 with h2; injection h2
  obtain ⟨c, hc⟩ := r
  rw [h3] at hc
  exact q _ (List.mem_of_getElem? hc) c rfl
theorem no_ref_s (l : List Str) : ∀ x ∈ l.map V.str, ∀ c, x ≠ V.ref c := fun x hx c e => by
  obtain ⟨y, _, rfl⟩ := List.mem_map.mp hx
  cases e
theorem no_ref_i (l : List Int) : ∀ x ∈ l.map V.int, ∀ c, x ≠ V.ref c := fun x hx c e => by
  obtain ⟨y, _, rfl⟩ := List.mem_map.mp hx
  cases e
theorem head_ref {α : Type} {r : Hp → V → α → Prop} {H : Hp} {z : List (V × α)} (q : ZL r H z) (hr : ∀ v x, r H v x → ∃ c, v = .ref c) (n : 0 < z.length) : ∃ c, (z.map Prod.fst)[0]? = some (V.ref c) := by
  obtain ⟨c, hc⟩ := hr _ _ (q _ (List.getElem_mem n))
  exact ⟨c, by rw [List.getElem?_map, List.getElem?_eq_getElem n, ← hc]; rfl⟩
/-- the things of a list, one address of them changed -/
def putZ {α : Type} (c : Addr) (y : α) (z : List (V × α)) : List (V × α) := z.map fun x => if x.1 = .ref c then (x.1, y) else x
theorem putZ_fst {α : Type} {c : Addr} {y : α} {z : List (V × α)} : (putZ c y z).map Prod.fst = z.map Prod.fst := by
  unfold putZ
  rw [List.map_map]
  refine List.map_congr_left fun x _ => ?_
  show (if x.1 = .ref c then (x.1, y) else x).1 = x.1
  split <;> rfl
theorem putZ_len {α : Type} {c : Addr} {y : α} {z : List (V × α)} : (putZ c y z).length = z.length := List.length_map _
theorem putZ_mem {α : Type} {c : Addr} {y : α} {z : List (V × α)} {x : α} (h : x ∈ (putZ c y z).map Prod.snd) : x = y ∨ x ∈ z.map Prod.snd := by
  obtain ⟨p, hp, rfl⟩ := List.mem_map.mp h
  unfold putZ at hp
  obtain ⟨q, hq, rfl⟩ := List.mem_map.mp hp
  split
  · exact .inl rfl
  · exact .inr (List.mem_map.mpr ⟨q, hq, rfl⟩)
theorem putZ_ls {N : Hp} {c : Addr} {y : List Str} {z : List (V × List Str)} (q : ZL LS N z) : ZL LS (upd N c (.lst (y.map V.str))) (putZ c y z) := fun x hx => by
  unfold putZ at hx
  obtain ⟨p, hp, rfl⟩ := List.mem_map.mp hx
  obtain ⟨b, e, g⟩ := q p hp
  by_cases h : p.1 = .ref c
  · rw [if_pos h]; exact ⟨c, h, upd_same⟩
  · rw [if_neg h]; exact ⟨b, e, by rw [upd_ne (fun w => h (by rw [e, w]))]; exact g⟩
theorem putZ_li {N : Hp} {c : Addr} {y : List Int} {z : List (V × List Int)} (q : ZL LI N z) : ZL LI (upd N c (.lst (y.map V.int))) (putZ c y z) := fun x hx => by
  unfold putZ at hx
  obtain ⟨p, hp, rfl⟩ := List.mem_map.mp hx
  obtain ⟨b, e, g⟩ := q p hp
  by_cases h : p.1 = .ref c
  · rw [if_pos h]; exact ⟨c, h, upd_same⟩
  · rw [if_neg h]; exact ⟨b, e, by rw [upd_ne (fun w => h (by rw [e, w]))]; exact g⟩
theorem upd_other {N : Hp} {a c : Addr} {o u : HO} (n : a ≠ c) (h : N a = some u) : upd N c o a = some u := by rw [upd_ne n]; exact h
theorem parts_sign {N : Hp} {S c : Addr} {w st f : V} {d : WD} {vs : List V} {i : Nat} {y : List Str} (pv : PartsV N (.ref S) w st f d) (gd : Good d) (hS : N S = some (.lst vs)) (hv : vs[i]? = some (.ref c)) (hf : f ∉ vs) (ok : y.Nodup ∧ (∀ x ∈ y, isNameS x = true) ∧ y.length ≤ 30) :
    ∃ d', PartsV (upd N c (.lst (y.map V.str))) (.ref S) w st f d' ∧ Good d' ∧ d'.signs.length = d.signs.length := by
  obtain ⟨S', zs, e, g, ezs, qs⟩ := pv.s.z
  cases e
  rw [hS] at g
  have evs : vs = zs.map Prod.fst := by injection g with g; injection g
  obtain ⟨W, zw, rfl, gW, ezw, qw⟩ := pv.w.z
  obtain ⟨a1, rfl, g1⟩ := pv.st
  obtain ⟨a2, rfl, g2⟩ := pv.f
  have lzs : zs.length = d.signs.length := by rw [← ezs, List.length_map]
  have lzw : zw.length = d.ways.length := by rw [← ezw, List.length_map]
  have n1 := gd.n1
  have wl := gd.wl
  have mem : V.ref c ∈ zs.map Prod.fst := by rw [← evs]; exact List.mem_of_getElem? hv
  obtain ⟨p, hp, ep⟩ := List.mem_map.mp mem
  obtain ⟨c', ec, gc⟩ := qs p hp
  rw [ep] at ec
  cases ec
  have rS : ∃ c, vs[0]? = some (V.ref c) := by rw [evs]; exact head_ref qs (fun v x h => let ⟨a, e, _⟩ := h; ⟨a, e⟩) (by omega)
  have rW := head_ref qw (fun v x h => let ⟨a, e, _⟩ := h; ⟨a, e⟩) (by omega)
  have nS : S ≠ c := sep_r hS gc rS (no_ref_s _)
  have nW : W ≠ c := sep_r gW gc rW (no_ref_s _)
  refine ⟨⟨(putZ c y zs).map Prod.snd, d.ways, d.starts, d.fair⟩, ⟨ZL.ll (by rw [putZ_fst, ← evs]; exact upd_other nS hS) (putZ_ls qs), ?_, ⟨a1, rfl, upd_other (sep_si gc g1 gd.stn.2.1).symm g1⟩, ⟨a2, rfl, upd_other (fun e => hf (by rw [e]; exact List.mem_of_getElem? hv)) g2⟩⟩, ?_, by rw [List.length_map, putZ_len, lzs]⟩
  · show LL LI _ _ d.ways
    rw [← ezw]
    refine ZL.ll (upd_other nW gW) fun x hx => ?_
    obtain ⟨b, e, g⟩ := qw x hx
    have hw : x.2 ≠ [] := (gd.wn _ (by rw [← ezw]; exact List.mem_map.mpr ⟨x, hx, rfl⟩)).2.1
    exact ⟨b, e, upd_other (sep_si gc g hw).symm g⟩
  · have le : ((putZ c y zs).map Prod.snd).length = d.signs.length := by rw [List.length_map, putZ_len, lzs]
    refine ⟨by show 1 ≤ ((putZ c y zs).map Prod.snd).length; omega, by show ((putZ c y zs).map Prod.snd).length ≤ 20; rw [le]; exact gd.n20, by show d.ways.length = ((putZ c y zs).map Prod.snd).length; rw [le]; exact wl, fun ss hss => ?_, fun ns hns => ?_, ?_, gd.fn⟩
    · rcases putZ_mem hss with h | h
      · rw [h]; exact ok
      · rw [ezs] at h; exact gd.sn _ h
    · show _ ∧ _ ∧ (∀ x ∈ ns, 0 ≤ x ∧ x < ((((putZ c y zs).map Prod.snd).length : Nat) : Int)) ∧ _
      rw [le]; exact gd.wn ns hns
    · show _ ∧ _ ∧ (∀ x ∈ d.starts, 0 ≤ x ∧ x < ((((putZ c y zs).map Prod.snd).length : Nat) : Int)) ∧ _
      rw [le]; exact gd.stn
theorem parts_way {N : Hp} {W c : Addr} {s st f : V} {d : WD} {vs : List V} {i : Nat} {y : List Int} (pv : PartsV N s (.ref W) st f d) (gd : Good d) (hW : N W = some (.lst vs)) (hv : vs[i]? = some (.ref c)) (hs : st ∉ vs) (ok : y.Nodup ∧ y ≠ [] ∧ (∀ x ∈ y, 0 ≤ x ∧ x < d.signs.length) ∧ y.length ≤ 20) :
    ∃ d', PartsV (upd N c (.lst (y.map V.int))) s (.ref W) st f d' ∧ Good d' ∧ d'.signs.length = d.signs.length := by
  obtain ⟨W', zw, e, g, ezw, qw⟩ := pv.w.z
  cases e
  rw [hW] at g
  have evs : vs = zw.map Prod.fst := by injection g with g; injection g
  obtain ⟨S, zs, rfl, gS, ezs, qs⟩ := pv.s.z
  obtain ⟨a1, rfl, g1⟩ := pv.st
  obtain ⟨a2, rfl, g2⟩ := pv.f
  have lzs : zs.length = d.signs.length := by rw [← ezs, List.length_map]
  have lzw : zw.length = d.ways.length := by rw [← ezw, List.length_map]
  have n1 := gd.n1
  have wl := gd.wl
  have mem : V.ref c ∈ zw.map Prod.fst := by rw [← evs]; exact List.mem_of_getElem? hv
  obtain ⟨p, hp, ep⟩ := List.mem_map.mp mem
  obtain ⟨c', ec, gc⟩ := qw p hp
  rw [ep] at ec
  cases ec
  have pn : p.2 ≠ [] := (gd.wn _ (by rw [← ezw]; exact List.mem_map.mpr ⟨p, hp, rfl⟩)).2.1
  have rW : ∃ c, vs[0]? = some (V.ref c) := by rw [evs]; exact head_ref qw (fun v x h => let ⟨a, e, _⟩ := h; ⟨a, e⟩) (by omega)
  have rS := head_ref qs (fun v x h => let ⟨a, e, _⟩ := h; ⟨a, e⟩) (by omega)
  have nS : S ≠ c := sep_r gS gc rS (no_ref_i _)
  have nW : W ≠ c := sep_r hW gc rW (no_ref_i _)
  refine ⟨⟨d.signs, (putZ c y zw).map Prod.snd, d.starts, d.fair⟩, ⟨?_, ZL.ll (by rw [putZ_fst, ← evs]; exact upd_other nW hW) (putZ_li qw), ⟨a1, rfl, upd_other (fun e => hs (by rw [e]; exact List.mem_of_getElem? hv)) g1⟩, ⟨a2, rfl, upd_other (sep_si g2 gc pn) g2⟩⟩, ?_, rfl⟩
  · show LL LS _ _ d.signs
    rw [← ezs]
    refine ZL.ll (upd_other nS gS) fun x hx => ?_
    obtain ⟨b, e, g⟩ := qs x hx
    exact ⟨b, e, upd_other (sep_si g gc pn) g⟩
  · refine ⟨n1, gd.n20, by show ((putZ c y zw).map Prod.snd).length = d.signs.length; rw [List.length_map, putZ_len, lzw, wl], gd.sn, fun ns hns => ?_, gd.stn, gd.fn⟩
    rcases putZ_mem hns with h | h
    · rw [h]; exact ok
    · rw [ezw] at h; exact gd.wn _ h
theorem parts_start {N : Hp} {W c : Addr} {s f : V} {d : WD} {vs : List V} {y : List Int} (pv : PartsV N s (.ref W) (.ref c) f d) (gd : Good d) (hW : N W = some (.lst vs)) (hs : V.ref c ∉ vs) (ok : y.Nodup ∧ y ≠ [] ∧ (∀ x ∈ y, 0 ≤ x ∧ x < d.signs.length) ∧ y.length ≤ 20) :
    ∃ d', PartsV (upd N c (.lst (y.map V.int))) s (.ref W) (.ref c) f d' ∧ Good d' ∧ d'.signs.length = d.signs.length := by
  obtain ⟨W', zw, e, g, ezw, qw⟩ := pv.w.z
  cases e
  rw [hW] at g
  have evs : vs = zw.map Prod.fst := by injection g with g; injection g
  obtain ⟨S, zs, rfl, gS, ezs, qs⟩ := pv.s.z
  obtain ⟨a1, e1, gc⟩ := pv.st
  cases e1
  obtain ⟨a2, rfl, g2⟩ := pv.f
  have lzs : zs.length = d.signs.length := by rw [← ezs, List.length_map]
  have lzw : zw.length = d.ways.length := by rw [← ezw, List.length_map]
  have n1 := gd.n1
  have wl := gd.wl
  have pn := gd.stn.2.1
  have rW : ∃ c, vs[0]? = some (V.ref c) := by rw [evs]; exact head_ref qw (fun v x h => let ⟨a, e, _⟩ := h; ⟨a, e⟩) (by omega)
  have rS := head_ref qs (fun v x h => let ⟨a, e, _⟩ := h; ⟨a, e⟩) (by omega)
  have nS : S ≠ c := sep_r gS gc rS (no_ref_i _)
  have nW : W ≠ c := sep_r hW gc rW (no_ref_i _)
  refine ⟨⟨d.signs, d.ways, y, d.fair⟩, ⟨?_, ?_, ⟨c, rfl, upd_same⟩, ⟨a2, rfl, upd_other (sep_si g2 gc pn) g2⟩⟩, ⟨n1, gd.n20, wl, gd.sn, gd.wn, ok, gd.fn⟩, rfl⟩
  · show LL LS _ _ d.signs
    rw [← ezs]
    refine ZL.ll (upd_other nS gS) fun x hx => ?_
    obtain ⟨b, e, g⟩ := qs x hx
    exact ⟨b, e, upd_other (sep_si g gc pn) g⟩
  · show LL LI _ _ d.ways
    rw [← ezw]
    refine ZL.ll (upd_other nW (by rw [hW, evs])) fun x hx => ?_
    obtain ⟨b, e, g⟩ := qw x hx
    exact ⟨b, e, upd_other (fun h => hs (by rw [evs, ← h, ← e]; exact List.mem_map.mpr ⟨x, hx, rfl⟩)) g⟩
end L3

set_option Elab.async false
set_option linter.all false
set_option maxRecDepth 100000
set_option maxHeartbeats 8000000
namespace KK
open PySem PySem.Spec L2 L3
theorem first_at {α : Type} [DecidableEq α] {x : α} : ∀ {l : List α}, x ∈ l → ∃ j : Nat, l[j]? = some x ∧ ∀ m : Nat, m < j → l[m]? ≠ some x
  | y :: r, h => by
    by_cases e : y = x
    · exact ⟨0, by rw [e]; rfl, fun m hm => absurd hm (Nat.not_lt_zero m)⟩
    · obtain ⟨j, h1, h2⟩ := first_at (l := r) ((List.mem_cons.mp h).elim (fun q => absurd q.symm e) id)
      refine ⟨j + 1, by rw [List.getElem?_cons_succ]; exact h1, fun m hm => ?_⟩
      cases m with
      | zero => exact fun q => e (Option.some.inj q)
      | succ k => rw [List.getElem?_cons_succ]; exact h2 k (by omega)
theorem inV_intK {n : Int} {ns : List Int} : inV (.int n) (ns.map V.int) = decide (n ∈ ns) := by
  unfold inV
  induction ns with
  | nil => rfl
  | cons x r ih =>
    rw [List.map_cons, List.any_cons, ih]
    show ((x == n) || decide (n ∈ r)) = _
    by_cases h : x = n
    · subst h; simp
    · have h1 : (x == n) = false := by simpa using h
      have h2 : ¬ n = x := fun e => h e.symm
      rw [h1]; simp [h2]
theorem flat_intsK (ns : List Int) : (ns.map V.int).all flatV = true := by
  rw [List.all_eq_true]
  intro x hx
  obtain ⟨y, _, rfl⟩ := List.mem_map.mp hx
  rfl
def TuSt (H0 : Hp) (t S W B : Addr) (f : V) (n r : Nat) (c : Int) (wv : List V) (σ : L2.St) (G : Hp) : Prop := ∃ (d : WD) (z7 z8 : Option V), σ = [some (.ref t), some (.int c), some (.ref S), some (.ref W), some (.ref B), some f, some (.int (r : Nat)), z7, z8] ∧ Same H0 G ∧ G t = some (.tup [.ref S, .ref W, .ref B, f]) ∧ PartsV (New H0 G) (.ref S) (.ref W) (.ref B) f d ∧ Good d ∧ d.signs.length = n ∧ New H0 G W = some (.lst wv) ∧ V.ref B ∉ wv
/-- one of the lists changed in place -/
theorem TuSt.put {H0 G : Hp} {t S W B c0 : Addr} {f : V} {n r : Nat} {c : Int} {wv : List V} {z7 z8 : Option V} {xs : List V} {o : HO} {d : WD} (sG : Same H0 G) (ht : G t = some (.tup [.ref S, .ref W, .ref B, f])) (hc : New H0 G c0 = some (.lst xs)) (nW : W ≠ c0) (hW : New H0 G W = some (.lst wv)) (hB : V.ref B ∉ wv)
    (q : ∃ d', PartsV (upd (New H0 G) c0 o) (.ref S) (.ref W) (.ref B) f d' ∧ Good d' ∧ d'.signs.length = d.signs.length) (hn : d.signs.length = n) : TuSt H0 t S W B f n r c wv [some (.ref t), some (.int c), some (.ref S), some (.ref W), some (.ref B), some f, some (.int (r : Nat)), z7, z8] (upd G c0 o) := by
  obtain ⟨d', pv, gd, ln⟩ := q
  obtain ⟨h0, h1⟩ := New.of hc
  refine ⟨d', z7, z8, rfl, (SameX.upd (Same.x sG)).same h0, ?_, by rw [new_upd h0]; exact pv, gd, by omega, by rw [new_upd h0, upd_ne nW]; exact hW, hB⟩
  rw [upd_ne (fun e => by rw [e, h1] at ht; cases ht)]; exact ht
def sp__law_turned (K : PySem.W.Frag) (a : Adr) : Sp := fun vs H Q _ => ∃ (t : Addr) (c : Int) (H0 : Hp) (s w st f : V) (d : WD), vs = [.ref t, .int c] ∧ Same H0 H ∧ H t = some (.tup [s, w, st, f]) ∧ PartsV (New H0 H) s w st f d ∧ Small 20 3 d ∧ (∀ S vs, s = .ref S → H S = some (.lst vs) → f ∉ vs) ∧ (∀ W vs, w = .ref W → H W = some (.lst vs) → st ∉ vs) ∧ ∀ H' d', Same H0 H' → H' t = some (.tup [s, w, st, f]) → PartsV (New H0 H') s w st f d' → Good d' → d'.signs.length = d.signs.length → Q (.ref t) H'
theorem ok__law_turned {P : Program} {w : World} {K : PySem.W.Frag} {mg : Str → Option Value} {base : Heap} {a : Adr} (T : Txt K mg a) (hw : w.params = a.Pm) : FnOk P w K mg base CX0 1 a._law_turned a._law_turned_fd ["_law_lists_here", "_law_cell"] (sp__law_turned K a) := by
  refine T.f__law_turned.ok sc__law_turned (fun vs H Q E h => ?_) (fun cdv A outer s H vs Q E hr h => ?_)
  · obtain ⟨t, c, H0, s, w, st, f, d, rfl, _⟩ := h
    rfl
  · obtain ⟨t, c, H0, sv, wv, stv, f, d, rfl, s0, ht, pts, sm, sepF, sepW, k⟩ := h
    refine ⟨_, (@pss_cons _ _ _ _ _ (ps_asg (pv 0) (pg_tupK (K := K) (n := 4) rfl rfl (pgs_cons (pg_name (i := 2) sc__law_turned.nd rfl (Or.inl rfl)) (pgs_cons (pg_name (i := 3) sc__law_turned.nd rfl (Or.inl rfl)) (pgs_cons (pg_name (i := 4) sc__law_turned.nd rfl (Or.inl rfl)) (pgs_cons (pg_name (i := 5) sc__law_turned.nd rfl (Or.inl rfl)) pgs_nil))))))
      (@pss_cons _ _ _ _ _ (@ps_set _ _ (6) _ _ _ _ sc__law_turned.nd
      rfl
      (Or.inl rfl)
      (@pe_op _ _ _ _ _ _ _ _ op_mod
      (@pe_op _ _ _ _ _ _ _ _ op_fdiv
      (pv 1)
      pe_int)
      (pe_callB (call_lenK (K := K) rfl) rfl T.b_len PyProof.Rows.Boot.«len» (@pa_cons _ _ _ _ _ (pv 2)
      pa_nil
      (by rfl))))
      (by rfl)
      (by first | exact .inl rfl | exact .inr rfl | assumption))
      (pss_join (@ps_if _ _ _ _ _ _ _ _ (@pt_cmpR _ _ _ _ _ _ _ _ op_eq
      (@pe_op _ _ _ _ _ _ _ _ op_mod
      (pv 1)
      pe_int)
      pe_int
      (nomark _))
      (@pss_cons _ _ _ _ _ (@ps_set _ _ (7) _ _ _ _ sc__law_turned.nd
      rfl
      (Or.inl rfl)
      (@pe_ix _ _ _ _ _ _ _ (ix_listK (K := K) rfl)
      (@pe_lst _ _ _ _ (@pa_c _ _ _ _ _ pe_str
      (@pa_c _ _ _ _ _ pe_str
      (@pa_c _ _ _ _ _ pe_str
      pa_nil
      (by rfl))
      (by rfl))
      (by rfl)))
      (@pe_op _ _ _ _ _ _ _ _ op_mod
      (@pe_op _ _ _ _ _ _ _ _ op_fdiv
      (pv 1)
      pe_int)
      pe_int)
      (fun _ _ => rfl))
      (by rfl)
      (by first | exact .inl rfl | exact .inr rfl | assumption))
      (@pss_one _ _ _ (@ps_if _ _ _ _ _ _ _ _ (@pt_cmpR _ _ _ _ _ _ _ _ (op_inK (K := K) rfl)
      (pv 7)
      (@pe_ix _ _ _ _ _ _ _ (ix_listK (K := K) rfl)
      (pv 2)
      (pv 6)
      (fun _ _ => rfl))
      (by with_unfolding_all rfl))
      (@pss_one _ _ _ (@ps_expr _ _ _ _ (pe_bm PySem.F.plainAttrs_list PySem.F.slot_list_remove PySem.F.type_list_remove mt_remove (@pe_ix _ _ _ _ _ _ _ (ix_listK (K := K) rfl)
      (pv 2)
      (pv 6)
      (fun _ _ => rfl)) (@pa_cons _ _ _ _ _ (pv 7)
      pa_nil
      (by rfl)))
      (by rfl)))
      (@pss_one _ _ _ (@ps_expr _ _ _ _ (pe_bm PySem.F.plainAttrs_list PySem.F.slot_list_append PySem.F.type_list_append mt_append (@pe_ix _ _ _ _ _ _ _ (ix_listK (K := K) rfl)
      (pv 2)
      (pv 6)
      (fun _ _ => rfl)) (@pa_cons _ _ _ _ _ (pv 7)
      pa_nil
      (by rfl)))
      (by rfl))))))
      pss_nil)
          (pss_join (@ps_if _ _ _ _ _ _ _ _ (@pt_cmpR _ _ _ _ _ _ _ _ op_eq
      (@pe_op _ _ _ _ _ _ _ _ op_mod
      (pv 1)
      pe_int)
      pe_int
      (nomark _))
      (@pss_cons _ _ _ _ _ (@ps_set _ _ (8) _ _ _ _ sc__law_turned.nd
      rfl
      (Or.inl rfl)
      (@pe_op _ _ _ _ _ _ _ _ op_mod
      (@pe_op _ _ _ _ _ _ _ _ op_fdiv
      (pv 1)
      pe_int)
      (pe_callB (call_lenK (K := K) rfl) rfl T.b_len PyProof.Rows.Boot.«len» (@pa_cons _ _ _ _ _ (pv 2)
      pa_nil
      (by rfl))))
      (by rfl)
      (by first | exact .inl rfl | exact .inr rfl | assumption))
      (@pss_one _ _ _ (@ps_if _ _ _ _ _ _ _ _ (@pt_cmpR _ _ _ _ _ _ _ _ (op_notInK (K := K) rfl)
      (pv 8)
      (@pe_ix _ _ _ _ _ _ _ (ix_listK (K := K) rfl)
      (pv 3)
      (pv 6)
      (fun _ _ => rfl))
      (by with_unfolding_all rfl))
      (@pss_one _ _ _ (@ps_expr _ _ _ _ (pe_bm PySem.F.plainAttrs_list PySem.F.slot_list_append PySem.F.type_list_append mt_append (@pe_ix _ _ _ _ _ _ _ (ix_listK (K := K) rfl)
      (pv 3)
      (pv 6)
      (fun _ _ => rfl)) (@pa_cons _ _ _ _ _ (pv 8)
      pa_nil
      (by rfl)))
      (by rfl)))
      pss_nil)))
      pss_nil)
          (pss_join (@ps_if _ _ _ _ _ _ _ _ (PW.pt (pw_and (@pt_cmpR _ _ _ _ _ _ _ _ op_eq
      (@pe_op _ _ _ _ _ _ _ _ op_mod
      (pv 1)
      pe_int)
      pe_int
      (nomark _)) (pw_and1 (@pt_cmpR _ _ _ _ _ _ _ _ op_gt
      (pe_callB (call_lenK (K := K) rfl) rfl T.b_len PyProof.Rows.Boot.«len» (@pa_cons _ _ _ _ _ (@pe_ix _ _ _ _ _ _ _ (ix_listK (K := K) rfl)
      (pv 3)
      (pv 6)
      (fun _ _ => rfl))
      pa_nil
      (by rfl)))
      pe_int
      (nomark _)))))
      (@pss_one _ _ _ (@ps_expr _ _ _ _ (pe_bm PySem.F.plainAttrs_list PySem.F.slot_list_pop PySem.F.type_list_pop mt_popAt (@pe_ix _ _ _ _ _ _ _ (ix_listK (K := K) rfl)
      (pv 3)
      (pv 6)
      (fun _ _ => rfl)) (@pa_cons _ _ _ _ _ (@pe_op _ _ _ _ _ _ _ _ op_mod
      (@pe_op _ _ _ _ _ _ _ _ op_fdiv
      (pv 1)
      pe_int)
      (pe_callB (call_lenK (K := K) rfl) rfl T.b_len PyProof.Rows.Boot.«len» (@pa_cons _ _ _ _ _ (@pe_ix _ _ _ _ _ _ _ (ix_listK (K := K) rfl)
      (pv 3)
      (pv 6)
      (fun _ _ => rfl))
      pa_nil
      (by rfl))))
      pa_nil
      (by rfl)))
      (by rfl)))
      pss_nil)
          (pss_join (@ps_if _ _ _ _ _ _ _ _ (PW.pt (pw_and (@pt_cmpR _ _ _ _ _ _ _ _ op_eq
      (@pe_op _ _ _ _ _ _ _ _ op_mod
      (pv 1)
      pe_int)
      pe_int
      (nomark _)) (pw_and1 (@pt_cmpR _ _ _ _ _ _ _ _ (op_notInK (K := K) rfl)
      (pv 6)
      (pv 4)
      (by with_unfolding_all rfl)))))
      (@pss_one _ _ _ (@ps_expr _ _ _ _ (pe_bm PySem.F.plainAttrs_list PySem.F.slot_list_append PySem.F.type_list_append mt_append (pv 4) (@pa_cons _ _ _ _ _ (pv 6)
      pa_nil
      (by rfl)))
      (by rfl)))
      pss_nil)
          (@pss_one _ _ _ (@ps_ret _ _ _ _ (pv 0))))))))), ?_⟩
    have gd := sm.g
    have n1 := gd.n1
    have n20 := gd.n20
    obtain ⟨S, vs, e1, gS, lS, qS⟩ := pts.s
    obtain ⟨W, ws, e2, gW, lW, qW⟩ := pts.w
    obtain ⟨B, e3, gB⟩ := pts.st
    subst e1
    subst e2
    subst e3
    have hS := New.sub _ _ gS
    have hW := New.sub _ _ gW
    have nF := sepF S vs rfl hS
    have nB := sepW W ws rfl hW
    generalize hn : d.signs.length = n at k n1 n20
    refine ⟨_, rfl, t, _, rfl, SqT.of ht, rfl, _, _, rfl, _, _, rfl, _, _, rfl, _, _, rfl, rfl, ?_⟩
    refine ⟨_, rfl, _, _, rfl, rfl, ⟨by decide, by decide⟩, _, rfl, .inl ⟨S, _, rfl, .inl (SqL.of hS), ?_⟩⟩
    rw [lS, hn]
    refine ⟨_, _, rfl, rfl, by omega, ?_⟩
    have r0 := Int.emod_nonneg (c / 4) (show ((n : Nat) : Int) ≠ 0 by omega)
    have r1 := Int.emod_lt_of_pos (c / 4) (show (0 : Int) < (n : Nat) by omega)
    obtain ⟨r, er⟩ := Int.eq_ofNat_of_zero_le r0
    rw [er] at r1 ⊢
    have hr2 : r < n := by omega
    clear r0 r1 er
    have wlen : ∀ {d : WD} {G : Hp}, Good d → d.signs.length = n → PartsV (New H0 G) (.ref S) (.ref W) (.ref B) f d → New H0 G W = some (.lst ws) → ∃ (c0 : Addr) (ns : List Int), ws[r]? = some (.ref c0) ∧ New H0 G c0 = some (.lst (ns.map V.int)) ∧ W ≠ c0 ∧ ns.Nodup ∧ ns ≠ [] ∧ (∀ x ∈ ns, 0 ≤ x ∧ x < d.signs.length) ∧ ns.length ≤ 20 := fun {d G} g hn p hw => by
      obtain ⟨W', zw, e, gw, ezw, qw⟩ := p.w.z
      cases e
      rw [hw] at gw
      have evs : ws = zw.map Prod.fst := by injection gw with gw; injection gw
      have lz : zw.length = n := by rw [← hn, ← g.wl, ← ezw, List.length_map]
      obtain ⟨c0, e0, g0⟩ := qw _ (List.getElem_mem (show r < zw.length by omega))
      refine ⟨c0, _, by rw [evs, List.getElem?_map, List.getElem?_eq_getElem (show r < zw.length by omega), ← e0]; rfl, g0, ?_, g.wn _ (by rw [← ezw]; exact List.mem_map.mpr ⟨_, List.getElem_mem (show r < zw.length by omega), rfl⟩)⟩
      exact sep_r hw g0 (by rw [evs]; exact head_ref qw (fun v x h => let ⟨a, e, _⟩ := h; ⟨a, e⟩) (by omega)) (no_ref_i _)
    -- a sign
    refine ⟨TuSt H0 t S W B f n r c ws, ?_, ?_⟩
    · refine ⟨_, rfl, _, _, rfl, rfl, by decide, rfl, _, rfl, ite2 (fun c1 => ?_) (fun c1 => ?_)⟩
      · refine ⟨by rw [sizeLine_eq]; exact (by decide : 3 ≤ 16777216), fun l hl => ?_⟩
        obtain ⟨H1, qN, s1, el⟩ := newE (o := .lst [.str "zeta", .str "b", .str "am"]) hl
        rw [qN]; clear qN
        obtain ⟨nm, hv, nmok⟩ : ∃ nm : Str, atI [V.str "zeta", .str "b", .str "am"] (c / 32 % 3) = some (.str nm) ∧ isNameS nm = true := by
          obtain ⟨_, v, hv, hvm⟩ := at_mod (ts := [V.str "zeta", .str "b", .str "am"]) (c / 32) (by simp)
          simp only [List.mem_cons, List.not_mem_nil, or_false] at hvm
          rcases hvm with rfl | rfl | rfl
          · exact ⟨_, hv, names3.1 _ (by simp)⟩
          · exact ⟨_, hv, names3.1 _ (by simp)⟩
          · exact ⟨_, hv, names3.1 _ (by simp)⟩
        refine ⟨_, rfl, _, _, rfl, rfl, ⟨by decide, by decide⟩, _, _, rfl, rfl, by decide, l, _, _, _, rfl, rfl, SqL.of el, hv, ?_⟩
        have hrS : r < vs.length := by omega
        have hrd : r < d.signs.length := by omega
        obtain ⟨c0, ec, gc⟩ := qS r _ _ (List.getElem?_eq_getElem hrS) (List.getElem?_eq_getElem hrd)
        have okS := gd.sn _ (List.getElem_mem hrd)
        have ok3 := sm.s _ (List.getElem_mem hrd)
        generalize d.signs[r] = ss at gc okS ok3
        have evr : vs[r]? = some (.ref c0) := by rw [List.getElem?_eq_getElem hrS, ec]
        have s01 := s0.trans s1
        have gc1 : New H0 H1 c0 = some (.lst (ss.map V.str)) := New.mono (.refl _) s1 _ _ gc
        have hc1 := New.sub _ _ gc1
        have hS1 := s1 _ _ hS
        have nm1 : PartsV (New H0 H1) (.ref S) (.ref W) (.ref B) f d := pts.mono (New.mono (.refl _) s1)
        have gS1 := New.mono (.refl _) s1 _ _ gS
        have gW1 := New.mono (.refl _) s1 _ _ gW
        obtain ⟨_, _, _, hW2, _⟩ := wlen gd hn nm1 gW1
        have nWc : W ≠ c0 := by
          obtain ⟨W', zw, e, gw, ezw, qw⟩ := nm1.w.z
          cases e
          have wl := gd.wl
          have lz : zw.length = n := by rw [← hn, ← wl, ← ezw, List.length_map]
          exact sep_r gw gc1 (head_ref qw (fun v x h => let ⟨a, e, _⟩ := h; ⟨a, e⟩) (by omega)) (no_ref_s _)
        refine ⟨_, rfl, _, rfl, _, rfl, S, _, _, _, rfl, rfl, SqL.of hS1, atI_nat evr, c0, _, rfl, .inl (SqL.of hc1), rfl, flat_strs _, _, rfl, ite2 (fun c2 => ?_) (fun c2 => ?_)⟩
        · have mem : nm ∈ ss := inV_str.mp c2
          obtain ⟨j, j1, j2⟩ := first_at mem
          refine ⟨_, rfl, _, rfl, S, _, _, _, rfl, rfl, SqL.of hS1, atI_nat evr, .inl ⟨rfl, _, SqL.of hc1⟩, _, rfl, c0, _, _, j, rfl, rfl, hc1, rfl, flat_strs _, ⟨.str nm, by rw [List.getElem?_map, j1]; rfl, beq_self_eq_true nm⟩, fun m w hm hw => ?_, ?_⟩
          · rw [List.getElem?_map] at hw
            cases hh : ss[m]? with
            | none => rw [hh] at hw; cases hw
            | some y =>
              rw [hh] at hw
              cases hw
              have : y ≠ nm := fun e => j2 m hm (by rw [hh, e])
              show (y == nm) = false
              simpa using this
          · rw [erase_mapG]
            have sb := List.eraseIdx_sublist ss j
            refine TuSt.put s01 (s1 _ _ ht) gc1 nWc gW1 nB (parts_sign nm1 gd gS1 evr nF ⟨okS.1.sublist sb, fun x hx => okS.2.1 x (sb.subset hx), ?_⟩) hn
            have := sb.length_le
            omega
        · have mem : nm ∉ ss := fun h => c2 (inV_str.mpr h)
          refine ⟨_, rfl, _, rfl, S, _, _, _, rfl, rfl, SqL.of hS1, atI_nat evr, .inl ⟨rfl, _, SqL.of hc1⟩, _, rfl, c0, _, _, rfl, rfl, hc1, by rw [List.length_map, sizeLine_eq]; omega, ?_⟩
          have ea : ss.map V.str ++ [V.str nm] = (ss ++ [nm]).map V.str := by rw [List.map_append]; rfl
          rw [ea]
          refine TuSt.put s01 (s1 _ _ ht) gc1 nWc gW1 nB (parts_sign nm1 gd gS1 evr nF ⟨nodup_push okS.1 mem, fun x hx => ?_, by rw [List.length_append]; show ss.length + 1 ≤ 30; omega⟩) hn
          rcases List.mem_append.mp hx with h | h
          · exact okS.2.1 x h
          · rw [List.mem_singleton.mp h]; exact nmok
      · exact ⟨d, _, _, rfl, s0, ht, pts, gd, hn, gW, nB⟩
    clear qW qS gB lW nF sepF sepW hS hW gW gS ht s0 pts sm gd hn
    intro σ G st0
    -- a way more
    refine ⟨TuSt H0 t S W B f n r c ws, ?_, ?_⟩
    · obtain ⟨d, z7, z8, rfl, s0, ht, pts, gd, hn, gW, nB⟩ := st0
      obtain ⟨c0, ns, evr, gc, nWc, nnd, nne, nbd, nl⟩ := wlen gd hn pts gW
      obtain ⟨S', vs', e1, gS, lS, qS⟩ := pts.s
      cases e1
      refine ⟨_, rfl, _, _, rfl, rfl, by decide, rfl, _, rfl, ite2 (fun c1 => ?_) (fun c1 => ?_)⟩
      · refine ⟨_, rfl, _, _, rfl, rfl, ⟨by decide, by decide⟩, _, rfl, .inl ⟨S, _, rfl, .inl (SqL.of (New.sub _ _ gS)), ?_⟩⟩
        rw [lS, hn]
        refine ⟨_, _, rfl, rfl, by omega, ?_⟩
        have f0 := Int.emod_nonneg (c / 32) (show ((n : Nat) : Int) ≠ 0 by omega)
        have f1 := Int.emod_lt_of_pos (c / 32) (show (0 : Int) < (n : Nat) by omega)
        generalize c / 32 % ((n : Nat) : Int) = fr at f0 f1 ⊢
        have hc1 := New.sub _ _ gc
        refine ⟨_, rfl, _, rfl, _, rfl, W, _, _, _, rfl, rfl, SqL.of (New.sub _ _ gW), atI_nat evr, c0, _, rfl, .inl (SqL.of hc1), rfl, flat_intsK _, _, rfl, ite2 (fun c2 => ?_) (fun c2 => ?_)⟩
        · rw [inV_intK] at c2
          have mem : fr ∉ ns := by simpa using c2
          refine ⟨_, rfl, _, rfl, W, _, _, _, rfl, rfl, SqL.of (New.sub _ _ gW), atI_nat evr, .inl ⟨rfl, _, SqL.of hc1⟩, _, rfl, c0, _, _, rfl, rfl, hc1, by rw [List.length_map, sizeLine_eq]; omega, ?_⟩
          have ea : ns.map V.int ++ [V.int fr] = (ns ++ [fr]).map V.int := by rw [List.map_append]; rfl
          rw [ea]
          have nd2 := nodup_push nnd mem
          have bd2 : ∀ x ∈ ns ++ [fr], 0 ≤ x ∧ x < ((d.signs.length : Nat) : Int) := fun x hx => by
            rcases List.mem_append.mp hx with h | h
            · exact nbd x h
            · rw [List.mem_singleton.mp h, hn]; exact ⟨f0, f1⟩
          have ln2 := nodup_len_le nd2 bd2
          exact TuSt.put s0 ht gc nWc gW nB (parts_way pts gd gW evr nB ⟨nd2, by simp, bd2, by omega⟩) hn
        · exact ⟨d, _, _, rfl, s0, ht, pts, gd, hn, gW, nB⟩
      · exact ⟨d, _, _, rfl, s0, ht, pts, gd, hn, gW, nB⟩
    clear st0 σ G
    intro σ G st0
    -- a way less
    refine ⟨TuSt H0 t S W B f n r c ws, ?_, ?_⟩
    · obtain ⟨d, z7, z8, rfl, s0, ht, pts, gd, hn, gW, nB⟩ := st0
      obtain ⟨c0, ns, evr, gc, nWc, nnd, nne, nbd, nl⟩ := wlen gd hn pts gW
      have hc1 := New.sub _ _ gc
      refine ⟨_, rfl, _, _, rfl, rfl, by decide, rfl, _, rfl, ite2 (fun c1 => ?_) (fun c1 => iteF ?_)⟩
      · refine ⟨_, rfl, _, rfl, W, _, _, _, rfl, rfl, SqL.of (New.sub _ _ gW), atI_nat evr, .inl ⟨c0, _, rfl, .inl (SqL.of hc1), _, _, rfl, rfl, _, rfl, ite2 (fun c2 => ?_) (fun c2 => ?_)⟩⟩
        · have l2 : 1 < ns.length := by have := of_decide_eq_true c2; rw [List.length_map] at this; omega
          refine ⟨_, rfl, _, rfl, W, _, _, _, rfl, rfl, SqL.of (New.sub _ _ gW), atI_nat evr, .inl ⟨rfl, _, SqL.of hc1⟩, _, rfl, _, _, rfl, rfl, ⟨by decide, by decide⟩, _, rfl, _, rfl, W, _, _, _, rfl, rfl, SqL.of (New.sub _ _ gW), atI_nat evr, .inl ⟨c0, _, rfl, .inl (SqL.of hc1), ?_⟩⟩
          rw [List.length_map]
          refine ⟨_, _, rfl, rfl, by omega, ?_⟩
          have a0 := Int.emod_nonneg (c / 32) (show ((ns.length : Nat) : Int) ≠ 0 by omega)
          have a1 := Int.emod_lt_of_pos (c / 32) (show (0 : Int) < (ns.length : Nat) by omega)
          obtain ⟨j, ej⟩ := Int.eq_ofNat_of_zero_le a0
          rw [ej] at a1 ⊢
          have hj : j < ns.length := by omega
          refine ⟨c0, _, _, j, _, rfl, rfl, hc1, by omega, by omega, by rw [List.length_map]; exact seqIndex_of (by omega) (by omega), List.getElem?_eq_getElem (by rw [List.length_map]; exact hj), ?_⟩
          rw [erase_mapG]
          have sb := List.eraseIdx_sublist ns j
          have le := List.length_eraseIdx_of_lt hj
          refine TuSt.put s0 ht gc nWc gW nB (parts_way pts gd gW evr nB ⟨nnd.sublist sb, fun e => ?_, fun x hx => nbd x (sb.subset hx), by omega⟩) hn
          rw [e] at le
          simp at le
          omega
        · exact ⟨d, _, _, rfl, s0, ht, pts, gd, hn, gW, nB⟩
      · exact ⟨d, _, _, rfl, s0, ht, pts, gd, hn, gW, nB⟩
    clear st0 σ G
    intro σ G st0
    -- a start more
    refine ⟨TuSt H0 t S W B f n r c ws, ?_, ?_⟩
    · obtain ⟨d, z7, z8, rfl, s0, ht, pts, gd, hn, gW, nB⟩ := st0
      obtain ⟨B', eb, gB⟩ := pts.st
      cases eb
      have hB := New.sub _ _ gB
      refine ⟨_, rfl, _, _, rfl, rfl, by decide, rfl, _, rfl, ite2 (fun c1 => ?_) (fun c1 => iteF ?_)⟩
      · refine ⟨_, rfl, _, rfl, B, _, rfl, .inl (SqL.of hB), rfl, flat_intsK _, _, rfl, ite2 (fun c2 => ?_) (fun c2 => ?_)⟩
        · rw [inV_intK] at c2
          have mem : ((r : Nat) : Int) ∉ d.starts := by simpa using c2
          have sl := gd.stn
          refine ⟨_, rfl, .inl ⟨rfl, _, SqL.of hB⟩, _, rfl, B, _, _, rfl, rfl, hB, by rw [List.length_map, sizeLine_eq]; omega, ?_⟩
          have ea : d.starts.map V.int ++ [V.int (r : Nat)] = (d.starts ++ [((r : Nat) : Int)]).map V.int := by rw [List.map_append]; rfl
          rw [ea]
          have nd2 := nodup_push sl.1 mem
          have bd2 : ∀ x ∈ d.starts ++ [((r : Nat) : Int)], 0 ≤ x ∧ x < ((d.signs.length : Nat) : Int) := fun x hx => by
            rcases List.mem_append.mp hx with h | h
            · exact sl.2.2.1 x h
            · rw [List.mem_singleton.mp h, hn]; omega
          have ln2 := nodup_len_le nd2 bd2
          obtain ⟨W', zw, e, gw, ezw, qw⟩ := pts.w.z
          cases e
          have wl := gd.wl
          have lz : zw.length = n := by rw [← hn, ← wl, ← ezw, List.length_map]
          have nWB : W ≠ B := sep_r gw gB (head_ref qw (fun v x h => let ⟨a, e, _⟩ := h; ⟨a, e⟩) (by omega)) (no_ref_i _)
          exact TuSt.put s0 ht gB nWB gW nB (parts_start pts gd gW nB ⟨nd2, by simp, bd2, by omega⟩) hn
        · exact ⟨d, _, _, rfl, s0, ht, pts, gd, hn, gW, nB⟩
      · exact ⟨d, _, _, rfl, s0, ht, pts, gd, hn, gW, nB⟩
    clear st0 σ G
    rintro σ G ⟨d, z7, z8, rfl, s0, ht, pts, gd, hn, gW, nB⟩
    exact ⟨_, rfl, k _ d s0 ht pts gd hn⟩
end KK

set_option Elab.async false
set_option linter.all false
set_option maxRecDepth 100000
set_option maxHeartbeats 4000000
namespace L3
open PySem PySem.Spec PyProof.Rows L2
/-! ### copies of rooms, as plain functions -/
def cpy (rs : List Int) (r : Int) : List Int := ((List.range rs.length).filter fun k => decide (V.int (rs.getD k 0) = V.int r)).map fun k : Nat => (k : Int)
theorem mem_cpy {rs : List Int} {r x : Int} (h : x ∈ cpy rs r) : 0 ≤ x ∧ x < (rs.length : Nat) ∧ rs.getD x.toNat 0 = r := by
  unfold cpy at h
  obtain ⟨k, hk, rfl⟩ := List.mem_map.mp h
  obtain ⟨h1, h2⟩ := List.mem_filter.mp hk
  have := List.mem_range.mp h1
  have e := V.int.inj (of_decide_eq_true h2)
  exact ⟨by omega, by omega, by rw [Int.toNat_natCast]; exact e⟩
theorem cpy_nodup (rs : List Int) (r : Int) : (cpy rs r).Nodup := by
  unfold cpy
  exact nodup_map (fun a b h => by omega) (List.nodup_range.filter _)
theorem cpy_ne {rs : List Int} {r : Int} (h : r ∈ rs) : cpy rs r ≠ [] := fun e => by
  obtain ⟨k, hk, ek⟩ := List.getElem_of_mem h
  have : (k : Int) ∈ cpy rs r := by
    unfold cpy
    refine List.mem_map.mpr ⟨k, List.mem_filter.mpr ⟨List.mem_range.mpr hk, ?_⟩, rfl⟩
    rw [List.getD_eq_getElem?_getD, List.getElem?_eq_getElem hk, ← ek]
    exact decide_eq_true rfl
  rw [e] at this
  cases this
theorem cpy_len {rs : List Int} {r : Int} : (cpy rs r).length ≤ rs.length := nodup_len_le (cpy_nodup rs r) fun y hy => let ⟨a, b, _⟩ := mem_cpy hy; ⟨a, b⟩
def selI (cp picks : List Int) : List Int := picks.map fun p => cp.getD p.toNat 0
theorem selI_at {cp : List Int} {p : Int} (h0 : 0 ≤ p) (h1 : p < (cp.length : Nat)) : atI (cp.map V.int) p = some (.int (cp.getD p.toNat 0)) ∧ cp.getD p.toNat 0 ∈ cp := by
  obtain ⟨n, rfl⟩ := Int.eq_ofNat_of_zero_le h0
  have hn : n < cp.length := by omega
  rw [Int.toNat_natCast, List.getD_eq_getElem?_getD, List.getElem?_eq_getElem hn]
  exact ⟨atI_nat (by rw [List.getElem?_map, List.getElem?_eq_getElem hn]; rfl), List.getElem_mem hn⟩
theorem selI_mem {cp picks : List Int} (b : ∀ p ∈ picks, 0 ≤ p ∧ p < (cp.length : Nat)) {x : Int} (h : x ∈ selI cp picks) : x ∈ cp := by
  unfold selI at h
  obtain ⟨p, hp, rfl⟩ := List.mem_map.mp h
  exact (selI_at (b p hp).1 (b p hp).2).2
theorem selI_nodup {cp picks : List Int} (nc : cp.Nodup) (np : picks.Nodup) (b : ∀ p ∈ picks, 0 ≤ p ∧ p < (cp.length : Nat)) : (selI cp picks).Nodup := by
  unfold selI List.Nodup
  rw [List.pairwise_map]
  refine List.Pairwise.imp_of_mem (fun {p q} hp hq n e => n ?_) np
  obtain ⟨i, rfl⟩ := Int.eq_ofNat_of_zero_le (b p hp).1
  obtain ⟨j, rfl⟩ := Int.eq_ofNat_of_zero_le (b q hq).1
  have hi : i < cp.length := by have := (b _ hp).2; omega
  have hj : j < cp.length := by have := (b _ hq).2; omega
  rw [Int.toNat_natCast, Int.toNat_natCast, List.getD_eq_getElem?_getD, List.getD_eq_getElem?_getD, List.getElem?_eq_getElem hi, List.getElem?_eq_getElem hj] at e
  have := (List.getElem_inj nc).mp (show cp[i] = cp[j] from e)
  omega
/-- what was gathered over the rooms that are done -/
structure Aft (rs done l : List Int) : Prop where
  nd : l.Nodup
  b : ∀ x ∈ l, 0 ≤ x ∧ x < (rs.length : Nat) ∧ rs.getD x.toNat 0 ∈ done
  ne : done ≠ [] → l ≠ []
theorem Aft.start {rs : List Int} : Aft rs [] [] := ⟨by simp, (fun x hx => by cases hx), fun h => absurd rfl h⟩
theorem Aft.step {rs done l picks : List Int} {o : Int} (a : Aft rs done l) (no : o ∉ done) (pne : picks ≠ []) (pnd : picks.Nodup) (pbd : ∀ p ∈ picks, 0 ≤ p ∧ p < ((cpy rs o).length : Nat)) : Aft rs (done ++ [o]) (l ++ selI (cpy rs o) picks) := by
  refine ⟨?_, fun x hx => ?_, fun _ e => ?_⟩
  · rw [List.nodup_append]
    refine ⟨a.nd, selI_nodup (cpy_nodup rs o) pnd pbd, fun x hx y hy e => ?_⟩
    have h1 := (a.b x hx).2.2
    have h2 := (mem_cpy (selI_mem pbd hy)).2.2
    rw [e, h2] at h1
    exact no h1
  · rcases List.mem_append.mp hx with h | h
    · obtain ⟨h1, h2, h3⟩ := a.b x h
      exact ⟨h1, h2, List.mem_append.mpr (.inl h3)⟩
    · obtain ⟨h1, h2, h3⟩ := mem_cpy (selI_mem pbd h)
      exact ⟨h1, h2, List.mem_append.mpr (.inr (by rw [h3]; exact List.mem_singleton.mpr rfl))⟩
  · have := (List.append_eq_nil_iff.mp e).2
    unfold selI at this
    exact pne (List.map_eq_nil_iff.mp this)
theorem Aft.ok {rs done l : List Int} (a : Aft rs done l) (h : done ≠ []) (hl : rs.length ≤ 20) : l.Nodup ∧ l ≠ [] ∧ (∀ x ∈ l, 0 ≤ x ∧ x < (rs.length : Nat)) ∧ l.length ≤ 20 := by
  have bb : ∀ x ∈ l, 0 ≤ x ∧ x < (rs.length : Nat) := fun x hx => ⟨(a.b x hx).1, (a.b x hx).2.1⟩
  exact ⟨a.nd, a.ne h, bb, Nat.le_trans (nodup_len_le a.nd bb) hl⟩
theorem nodup_take {α : Type} {l : List α} {i : Nat} (h : l.Nodup) (hi : i < l.length) : l[i] ∉ l.take i := fun m => by
  obtain ⟨j, hj, e⟩ := List.getElem_of_mem m
  rw [List.length_take] at hj
  rw [List.getElem_take] at e
  have := (List.getElem_inj h).mp e
  omega
/-- rooms, each there at least once, turned about -/
theorem rooms_ok {M u cu : Nat} (f : Nat → Int) (hf : ∀ k, k < u → 0 ≤ f k ∧ f k < (M : Nat)) :
    ∀ rs0, rs0 = upTo (M : Int) ++ (List.range u).map f → (rs0.drop cu ++ rs0.take cu).length = M + u ∧ (∀ r ∈ rs0.drop cu ++ rs0.take cu, 0 ≤ r ∧ r < (M : Nat)) ∧ ∀ j : Nat, j < M → (j : Int) ∈ rs0.drop cu ++ rs0.take cu := by
  intro rs0 e0
  have mem : ∀ r, r ∈ rs0.drop cu ++ rs0.take cu ↔ r ∈ rs0 := fun r => by
    rw [List.mem_append]
    constructor
    · exact fun h => h.elim (fun q => List.mem_of_mem_drop q) (fun q => List.mem_of_mem_take q)
    · intro h
      rw [← List.take_append_drop cu rs0, List.mem_append] at h
      exact h.symm
  have len0 : rs0.length = M + u := by rw [e0, List.length_append, List.length_map, List.length_range]; unfold upTo; rw [List.length_map, List.length_range, Int.toNat_natCast]
  refine ⟨by rw [List.length_append, List.length_drop, List.length_take, len0]; omega, fun r hr => ?_, fun j hj => ?_⟩
  · rw [mem, e0, List.mem_append] at hr
    rcases hr with h | h
    · unfold upTo at h
      rw [Int.toNat_natCast] at h
      obtain ⟨k, hk, rfl⟩ := List.mem_map.mp h
      have := List.mem_range.mp hk
      omega
    · obtain ⟨k, hk, rfl⟩ := List.mem_map.mp h
      exact hf k (List.mem_range.mp hk)
  · rw [mem, e0, List.mem_append]
    refine .inl ?_
    unfold upTo
    rw [Int.toNat_natCast]
    exact List.mem_map.mpr ⟨j, List.mem_range.mpr hj, rfl⟩
end L3

set_option Elab.async false
set_option linter.all false
set_option maxRecDepth 100000
set_option maxHeartbeats 8000000
namespace KK
open PySem PySem.Spec L2 L3
theorem copies_at {H : Hp} {M : Nat} {rs : List Int} {zc : List (V × Nat)} (e : zc.map Prod.snd = List.range M) (q : ZL (RL fun r : Nat => (cpy rs (r : Nat)).map V.int) H zc) {j : Nat} (hj : j < M) : ∃ b, (zc.map Prod.fst)[j]? = some (.ref b) ∧ H b = some (.lst ((cpy rs (j : Nat)).map V.int)) := by
  have lz : zc.length = M := by rw [← List.length_map (f := Prod.snd), e, List.length_range]
  have hz : j < zc.length := by omega
  have e2 : zc[j].2 = j := by
    have : (zc.map Prod.snd)[j]? = (List.range M)[j]? := by rw [e]
    rw [List.getElem?_map, List.getElem?_eq_getElem hz, List.getElem?_range hj] at this
    exact Option.some.inj this
  obtain ⟨b, e1, g⟩ := q _ (List.getElem_mem hz)
  rw [e2] at g
  exact ⟨b, by rw [List.getElem?_map, List.getElem?_eq_getElem hz, ← e1]; rfl, g⟩
def sp__law_twin (K : PySem.W.Frag) (a : Adr) : Sp := fun vs H Q _ => ∃ (t : Addr) (c : Int) (d : WD), vs = [.ref t, .int c, .int 2] ∧ Lists H t d ∧ Small 5 3 d ∧ ∀ H' t' s w st f d', Same H H' → H t' = none → H' t' = some (.tup [s, w, st, f]) → PartsV (New H H') s w st f d' → Small 20 3 d' → (∀ S vs, s = .ref S → H' S = some (.lst vs) → f ∉ vs) → (∀ W vs, w = .ref W → H' W = some (.lst vs) → st ∉ vs) → Q (.ref t') H'
theorem ok__law_twin {P : Program} {w : World} {K : PySem.W.Frag} {mg : Str → Option Value} {base : Heap} {a : Adr} (T : Txt K mg a) (hw : w.params = a.Pm) : FnOk P w K mg base CX0 2 a._law_twin a._law_twin_fd ["_law_lists_here", "_law_cell", "_law_more"] (sp__law_twin K a) := by
  have G__law_stream := ok__law_stream (P := P) (w := w) (base := base) T hw
  have G__law_some := ok__law_some (P := P) (w := w) (base := base) T hw
  refine T.f__law_twin.ok sc__law_twin (fun vs H Q E h => ?_) (fun cdv A outer s H vs Q E hr h => ?_)
  · obtain ⟨t, c, d, rfl, _⟩ := h
    rfl
  · obtain ⟨t, c, d, rfl, lt, sm, k⟩ := h
    refine ⟨_, (@pss_cons _ _ _ _ _ (ps_asg (pv 0) (pg_tupK (K := K) (n := 4) rfl rfl (pgs_cons (pg_name (i := 3) sc__law_twin.nd rfl (Or.inr rfl)) (pgs_cons (pg_name (i := 4) sc__law_twin.nd rfl (Or.inl rfl)) (pgs_cons (pg_name (i := 5) sc__law_twin.nd rfl (Or.inl rfl)) (pgs_cons (pg_name (i := 6) sc__law_twin.nd rfl (Or.inl rfl)) pgs_nil))))))
      (@pss_cons _ _ _ _ _ (@ps_set _ _ (7) _ _ _ _ sc__law_twin.nd
      rfl
      (Or.inr rfl)
      (pe_callB (call_lenK (K := K) rfl) rfl T.b_len PyProof.Rows.Boot.«len» (@pa_cons _ _ _ _ _ (pv 3)
      pa_nil
      (by rfl)))
      (by rfl)
      (by first | exact .inl rfl | exact .inr rfl | assumption))
      (@pss_cons _ _ _ _ _ (@ps_set _ _ (8) _ _ _ _ sc__law_twin.nd
      rfl
      (Or.inr rfl)
      (pe_call G__law_stream (hr.mono (by decide)) rfl T.g__law_stream T.f__law_stream.kp T.n__law_stream .nil pass0 (@pa_cons _ _ _ _ _ (pv 1)
      (@pa_cons _ _ _ _ _ pe_int
      pa_nil
      (by rfl))
      (by rfl)))
      (by rfl)
      (by first | exact .inl rfl | exact .inr rfl | assumption))
      (@pss_cons _ _ _ _ _ (@ps_set _ _ (9) _ _ _ _ sc__law_twin.nd
      rfl
      (Or.inr rfl)
      (@pe_op _ _ _ _ _ _ _ _ op_cat
      (pe_callTy (call_listK (K := K) rfl rfl) rfl T.b_list PyProof.Rows.Boot.«list» (@pa_cons _ _ _ _ _ (pe_callTy (call_rng) rfl T.b_range PyProof.Rows.Boot.«range» (@pa_cons _ _ _ _ _ (pv 7)
      pa_nil
      (by rfl)))
      pa_nil
      (by rfl)))
      (pe_compL (Nc := ["_law_k", "_law_many", "_law_xs"]) (ix := [none, some 7, some 8]) (CompOk.of (by decide +kernel : compChk (defScope s__law_twin) ["_law_lists_here", "_law_cell", "_law_more", "_law_signs", "_law_ways", "_law_starts", "_law_fair", "_law_many", "_law_xs", "_law_rooms", "_law_cut", "_law_copies", "_law_found", "_law_at", "_law_room", "_law_after", "_law_other", "_law_picks", "_law_begins", "_law_start"] ["_law_k", "_law_many", "_law_xs"] [none, some 7, some 8] _ = true)) rfl (pi_range1 rfl T.b_range (@pa_cons _ _ _ _ _ (@pe_op _ _ _ _ _ _ _ _ op_mod
      (@pe_ix _ _ _ _ _ _ _ (ix_listK (K := K) rfl)
      (pv 8)
      pe_int
      (fun _ _ => rfl))
      (@pe_op _ _ _ _ _ _ _ _ op_add
      (pv 2)
      pe_int))
      pa_nil
      (by rfl))) (fun _ _ _ _ _ => (pg_name (i := 0) (show List.Nodup (["_law_k", "_law_many", "_law_xs"] : List Str) by decide +kernel) rfl (Or.inl rfl))) (fun _ _ _ _ _ => pts_nil) (fun _ _ _ _ _ => (@pe_op _ _ _ _ _ _ _ _ op_mod
      (@pe_ix _ _ _ _ _ _ _ (ix_listK (K := K) rfl)
      (pv 2)
      (pv 0)
      (fun _ _ => rfl))
      (pv 1)))))
      (by rfl)
      (by first | exact .inl rfl | exact .inr rfl | assumption))
      (@pss_cons _ _ _ _ _ (@ps_set _ _ (10) _ _ _ _ sc__law_twin.nd
      rfl
      (Or.inl rfl)
      (@pe_op _ _ _ _ _ _ _ _ op_mod
      (@pe_ix _ _ _ _ _ _ _ (ix_listK (K := K) rfl)
      (pv 8)
      pe_int
      (fun _ _ => rfl))
      (pe_callB (call_lenK (K := K) rfl) rfl T.b_len PyProof.Rows.Boot.«len» (@pa_cons _ _ _ _ _ (pv 9)
      pa_nil
      (by rfl))))
      (by rfl)
      (by first | exact .inl rfl | exact .inr rfl | assumption))
      (@pss_cons _ _ _ _ _ (@ps_set _ _ (9) _ _ _ _ sc__law_twin.nd
      rfl
      (Or.inr rfl)
      (@pe_op _ _ _ _ _ _ _ _ op_cat
      (pe_slice (sl_listK (K := K) rfl) (pv 9) (po_some (pv 10)) po_none)
      (pe_slice (sl_listK (K := K) rfl) (pv 9) po_none (po_some (pv 10))))
      (by rfl)
      (by first | exact .inl rfl | exact .inr rfl | assumption))
      (@pss_cons _ _ _ _ _ (@ps_set _ _ (11) _ _ _ _ sc__law_twin.nd
      rfl
      (Or.inr rfl)
      (pe_compC (Nc := ["_law_room", "_law_rooms"]) (ix := [none, some 9]) (CompOkC.of (by decide +kernel : compChkC (defScope s__law_twin) ["_law_lists_here", "_law_cell", "_law_more", "_law_signs", "_law_ways", "_law_starts", "_law_fair", "_law_many", "_law_xs", "_law_rooms", "_law_cut", "_law_copies", "_law_found", "_law_at", "_law_room", "_law_after", "_law_other", "_law_picks", "_law_begins", "_law_start"] ["_law_room", "_law_rooms"] [none, some 9] _ = true)) rfl (pi_range1 rfl T.b_range (@pa_cons _ _ _ _ _ (pv 7)
      pa_nil
      (by rfl))) (fun _ _ _ _ _ => (pg_name (i := 0) (show List.Nodup (["_law_room", "_law_rooms"] : List Str) by decide +kernel) rfl (by first | exact Or.inl rfl | exact Or.inr rfl))) (fun _ _ _ _ _ => pts_nil) (fun _ _ _ _ _ => (pe_compL (Nc := ["_law_k", "_law_room", "_law_rooms"]) (ix := [none, some 0, some 1]) (CompOk.ofR (N := ["_law_room", "_law_rooms"]) (sc0 := defScope s__law_twin) rfl (by decide +kernel)) rfl (pi_range1 rfl T.b_range (@pa_cons _ _ _ _ _ (pe_callB (call_lenK (K := K) rfl) rfl T.b_len PyProof.Rows.Boot.«len» (@pa_cons _ _ _ _ _ (pv 1)
      pa_nil
      (by rfl)))
      pa_nil
      (by rfl))) (fun _ _ _ _ _ => (pg_name (i := 0) (show List.Nodup (["_law_k", "_law_room", "_law_rooms"] : List Str) by decide +kernel) rfl (Or.inl rfl))) (fun _ _ _ _ _ => (pts_one (@pt_cmpR _ _ _ _ _ _ _ _ op_eq
      (@pe_ix _ _ _ _ _ _ _ (ix_listK (K := K) rfl)
      (pv 2)
      (pv 0)
      (fun _ _ => rfl))
      (pv 1)
      (nomark _)))) (fun _ _ _ _ _ => (pv 0)))))
      (by rfl)
      (by first | exact .inl rfl | exact .inr rfl | assumption))
      (@pss_cons _ _ _ _ _ (@ps_set _ _ (12) _ _ _ _ sc__law_twin.nd
      rfl
      (Or.inl rfl)
      (@pe_lst _ _ _ _ pa_nil)
      (by rfl)
      (by first | exact .inl rfl | exact .inr rfl | assumption))
      (@pss_cons _ _ _ _ _ (@ps_set _ _ (13) _ _ _ _ sc__law_twin.nd
      rfl
      (Or.inl rfl)
      pe_int
      (by rfl)
      (by first | exact .inl rfl | exact .inr rfl | assumption))
      (@pss_cons _ _ _ _ _ (ps_for PassesOwn.never rfl (pi_listK (K := K) rfl (pv 9)) (pg_name (i := 14) sc__law_twin.nd rfl (Or.inl rfl)) (@pss_cons _ _ _ _ _ (@ps_set _ _ (15) _ _ _ _ sc__law_twin.nd
      rfl
      (Or.inl rfl)
      (@pe_lst _ _ _ _ pa_nil)
      (by rfl)
      (by first | exact .inl rfl | exact .inr rfl | assumption))
      (@pss_cons _ _ _ _ _ (ps_for PassesOwn.never rfl (pi_listK (K := K) rfl (@pe_ix _ _ _ _ _ _ _ (ix_listK (K := K) rfl)
      (pv 4)
      (pv 14)
      (fun _ _ => rfl))) (pg_name (i := 16) sc__law_twin.nd rfl (Or.inr rfl)) (@pss_cons _ _ _ _ _ (@ps_set _ _ (17) _ _ _ _ sc__law_twin.nd
      rfl
      (Or.inl rfl)
      (pe_call G__law_some (hr.mono (by decide)) rfl T.g__law_some T.f__law_some.kp T.n__law_some .nil pass0 (@pa_cons _ _ _ _ _ (@pe_ix _ _ _ _ _ _ _ (ix_listK (K := K) rfl)
      (pv 8)
      (@pe_op _ _ _ _ _ _ _ _ op_mod
      (pv 13)
      pe_int)
      (fun _ _ => rfl))
      (@pa_cons _ _ _ _ _ (pe_callB (call_lenK (K := K) rfl) rfl T.b_len PyProof.Rows.Boot.«len» (@pa_cons _ _ _ _ _ (@pe_ix _ _ _ _ _ _ _ (ix_listK (K := K) rfl)
      (pv 11)
      (pv 16)
      (fun _ _ => rfl))
      pa_nil
      (by rfl)))
      pa_nil
      (by rfl))
      (by rfl)))
      (by rfl)
      (by first | exact .inl rfl | exact .inr rfl | assumption))
      (@pss_cons _ _ _ _ _ (@ps_set _ _ (15) _ _ _ _ sc__law_twin.nd
      rfl
      (Or.inl rfl)
      (@pe_op _ _ _ _ _ _ _ _ op_cat
      (pv 15)
      (pe_compL (Nc := ["_law_pick", "_law_copies", "_law_other"]) (ix := [none, some 11, some 16]) (CompOk.of (by decide +kernel : compChk (defScope s__law_twin) ["_law_lists_here", "_law_cell", "_law_more", "_law_signs", "_law_ways", "_law_starts", "_law_fair", "_law_many", "_law_xs", "_law_rooms", "_law_cut", "_law_copies", "_law_found", "_law_at", "_law_room", "_law_after", "_law_other", "_law_picks", "_law_begins", "_law_start"] ["_law_pick", "_law_copies", "_law_other"] [none, some 11, some 16] _ = true)) rfl (pi_listK (K := K) rfl (pv 17)) (fun _ _ _ _ _ => (pg_name (i := 0) (show List.Nodup (["_law_pick", "_law_copies", "_law_other"] : List Str) by decide +kernel) rfl (Or.inl rfl))) (fun _ _ _ _ _ => pts_nil) (fun _ _ _ _ _ => (@pe_ix _ _ _ _ _ _ _ (ix_listK (K := K) rfl)
      (@pe_ix _ _ _ _ _ _ _ (ix_listK (K := K) rfl)
      (pv 1)
      (pv 2)
      (fun _ _ => rfl))
      (pv 0)
      (fun _ _ => rfl)))))
      (by rfl)
      (by first | exact .inl rfl | exact .inr rfl | assumption))
      (@pss_one _ _ _ (@ps_set _ _ (13) _ _ _ _ sc__law_twin.nd
      rfl
      (Or.inl rfl)
      (@pe_op _ _ _ _ _ _ _ _ op_add
      (pv 13)
      pe_int)
      (by rfl)
      (by first | exact .inl rfl | exact .inr rfl | assumption))))))
      (@pss_one _ _ _ (@ps_expr _ _ _ _ (pe_bm PySem.F.plainAttrs_list PySem.F.slot_list_append PySem.F.type_list_append mt_append (pv 12) (@pa_cons _ _ _ _ _ (pv 15)
      pa_nil
      (by rfl)))
      (by rfl))))))
      (@pss_cons _ _ _ _ _ (@ps_set _ _ (18) _ _ _ _ sc__law_twin.nd
      rfl
      (Or.inl rfl)
      (@pe_lst _ _ _ _ pa_nil)
      (by rfl)
      (by first | exact .inl rfl | exact .inr rfl | assumption))
      (@pss_cons _ _ _ _ _ (ps_for PassesOwn.never rfl (pi_listK (K := K) rfl (pv 5)) (pg_name (i := 19) sc__law_twin.nd rfl (Or.inr rfl)) (@pss_cons _ _ _ _ _ (@ps_set _ _ (17) _ _ _ _ sc__law_twin.nd
      rfl
      (Or.inl rfl)
      (pe_call G__law_some (hr.mono (by decide)) rfl T.g__law_some T.f__law_some.kp T.n__law_some .nil pass0 (@pa_cons _ _ _ _ _ (@pe_ix _ _ _ _ _ _ _ (ix_listK (K := K) rfl)
      (pv 8)
      (@pe_op _ _ _ _ _ _ _ _ op_mod
      (pv 13)
      pe_int)
      (fun _ _ => rfl))
      (@pa_cons _ _ _ _ _ (pe_callB (call_lenK (K := K) rfl) rfl T.b_len PyProof.Rows.Boot.«len» (@pa_cons _ _ _ _ _ (@pe_ix _ _ _ _ _ _ _ (ix_listK (K := K) rfl)
      (pv 11)
      (pv 19)
      (fun _ _ => rfl))
      pa_nil
      (by rfl)))
      pa_nil
      (by rfl))
      (by rfl)))
      (by rfl)
      (by first | exact .inl rfl | exact .inr rfl | assumption))
      (@pss_cons _ _ _ _ _ (@ps_set _ _ (18) _ _ _ _ sc__law_twin.nd
      rfl
      (Or.inl rfl)
      (@pe_op _ _ _ _ _ _ _ _ op_cat
      (pv 18)
      (pe_compL (Nc := ["_law_pick", "_law_copies", "_law_start"]) (ix := [none, some 11, some 19]) (CompOk.of (by decide +kernel : compChk (defScope s__law_twin) ["_law_lists_here", "_law_cell", "_law_more", "_law_signs", "_law_ways", "_law_starts", "_law_fair", "_law_many", "_law_xs", "_law_rooms", "_law_cut", "_law_copies", "_law_found", "_law_at", "_law_room", "_law_after", "_law_other", "_law_picks", "_law_begins", "_law_start"] ["_law_pick", "_law_copies", "_law_start"] [none, some 11, some 19] _ = true)) rfl (pi_listK (K := K) rfl (pv 17)) (fun _ _ _ _ _ => (pg_name (i := 0) (show List.Nodup (["_law_pick", "_law_copies", "_law_start"] : List Str) by decide +kernel) rfl (Or.inl rfl))) (fun _ _ _ _ _ => pts_nil) (fun _ _ _ _ _ => (@pe_ix _ _ _ _ _ _ _ (ix_listK (K := K) rfl)
      (@pe_ix _ _ _ _ _ _ _ (ix_listK (K := K) rfl)
      (pv 1)
      (pv 2)
      (fun _ _ => rfl))
      (pv 0)
      (fun _ _ => rfl)))))
      (by rfl)
      (by first | exact .inl rfl | exact .inr rfl | assumption))
      (@pss_one _ _ _ (@ps_set _ _ (13) _ _ _ _ sc__law_twin.nd
      rfl
      (Or.inl rfl)
      (@pe_op _ _ _ _ _ _ _ _ op_add
      (pv 13)
      pe_int)
      (by rfl)
      (by first | exact .inl rfl | exact .inr rfl | assumption))))))
      (@pss_one _ _ _ (@ps_ret _ _ _ _ (@pe_tup _ _ _ _ _ (@pa_c _ _ _ _ _ (pe_compL (Nc := ["_law_room", "_law_signs"]) (ix := [none, some 3]) (CompOk.of (by decide +kernel : compChk (defScope s__law_twin) ["_law_lists_here", "_law_cell", "_law_more", "_law_signs", "_law_ways", "_law_starts", "_law_fair", "_law_many", "_law_xs", "_law_rooms", "_law_cut", "_law_copies", "_law_found", "_law_at", "_law_room", "_law_after", "_law_other", "_law_picks", "_law_begins", "_law_start"] ["_law_room", "_law_signs"] [none, some 3] _ = true)) rfl (pi_listK (K := K) rfl (pv 9)) (fun _ _ _ _ _ => (pg_name (i := 0) (show List.Nodup (["_law_room", "_law_signs"] : List Str) by decide +kernel) rfl (Or.inl rfl))) (fun _ _ _ _ _ => pts_nil) (fun _ _ _ _ _ => (pe_callTy (call_listK (K := K) rfl rfl) rfl T.b_list PyProof.Rows.Boot.«list» (@pa_cons _ _ _ _ _ (@pe_ix _ _ _ _ _ _ _ (ix_listK (K := K) rfl)
      (pv 1)
      (pv 0)
      (fun _ _ => rfl))
      pa_nil
      (by rfl)))))
      (@pa_c _ _ _ _ _ (pv 12)
      (@pa_c _ _ _ _ _ (pv 18)
      (@pa_c _ _ _ _ _ (pe_revK (K := K) rfl (pv 6) (po_some (pe_un un_neg pe_int)))
      pa_nil
      (by rfl))
      (by rfl))
      (by rfl))
      (by rfl))))))))))))))))), ?_⟩
    have gd := sm.g
    have n1 := gd.n1
    have n5 := sm.n
    have wl := gd.wl
    obtain ⟨sv, wv, stv, fv, ht, pts⟩ := lt.ex
    obtain ⟨S, vs, e1, gS, lS, qS⟩ := id pts.s
    obtain ⟨W, ws, e2, gW, lW, qW⟩ := id pts.w
    obtain ⟨B, e3, gB⟩ := id pts.st
    obtain ⟨F, e4, gF⟩ := id pts.f
    subst e1
    subst e2
    subst e3
    subst e4
    refine ⟨_, rfl, t, _, rfl, SqT.of ht, rfl, _, _, rfl, _, _, rfl, _, _, rfl, _, _, rfl, rfl, ?_⟩
    refine ⟨_, rfl, .inl ⟨S, _, rfl, .inl (SqL.of gS), ?_⟩⟩
    rw [lS]
    generalize hM : d.signs.length = M at n1 n5 lS wl
    refine ⟨_, rfl, c, 60, rfl, by decide, fun H1 X ns s1 X0 hX ln => ?_⟩
    have hx : ∀ j : Nat, (hj : j < 60) → atI (ns.map V.int) (j : Int) = some (.int (ns.getD j 0)) := fun j hj => atI_nat (at_of (by omega))
    have hxm : ∀ n : Int, atI (ns.map V.int) (n % 59) = some (.int (ns.getD (n % 59).toNat 0)) := fun n => by
      have a0 := Int.emod_nonneg n (show (59 : Int) ≠ 0 by decide)
      have a1 := Int.emod_lt_of_pos n (show (0 : Int) < 59 by decide)
      obtain ⟨j, ej⟩ := Int.eq_ofNat_of_zero_le a0
      rw [ej] at a1 ⊢
      rw [Int.toNat_natCast]
      exact hx j (by omega)
    -- rooms
    refine ⟨_, rfl, _, rfl, fun P hP => ?_⟩
    obtain ⟨H2, qN, s2, eP⟩ := newE (o := .rng 0 (M : Int)) hP
    rw [qN]; clear qN
    refine .inr ⟨P, _, rfl, eP, by omega, by omega, fun L1 hL1 => ?_⟩
    obtain ⟨H3, qN, s3, eL1⟩ := newE (o := .lst ((L3.upTo (M : Int)).map V.int)) hL1
    rw [qN]; clear qN
    have s13 := s2.trans s3
    refine ⟨_, rfl, X, _, _, _, rfl, rfl, SqL.of (s13 _ _ hX), hx 9 (by omega), _, rfl, _, _, rfl, rfl, _, _, rfl, rfl, by decide, _, rfl, ?_⟩
    have u0 := Int.emod_nonneg (ns.getD 9 0) (show (2 : Int) + 1 ≠ 0 by decide)
    have u1 := Int.emod_lt_of_pos (ns.getD 9 0) (show (0 : Int) < 2 + 1 by decide)
    obtain ⟨u, eu⟩ := Int.eq_ofNat_of_zero_le u0
    rw [eu] at u1 ⊢
    have u2 : u ≤ 2 := by omega
    clear u0 eu
    refine ⟨by omega, by omega, ?_⟩
    rw [Int.toNat_natCast]
    intro D1 hD1
    refine comp_selMR (fun j => .int (ns.getD j 0 % ((M : Nat) : Int))) hD1 (by rw [sizeLine_eq]; omega) ?_ ?_
    · intro j hj G N sG hN
      refine ⟨_, rfl, _, rfl, X, _, _, _, rfl, rfl, SqL.of ((s13.trans sG) _ _ hX), hx j (by omega), _, rfl, _, _, rfl, rfl, by omega, hN _ (.refl _)⟩
    intro H4 eD1 s4
    have em : (List.range u).map (fun j => V.int (ns.getD j 0 % ((M : Nat) : Int))) = ((List.range u).map fun j => ns.getD j 0 % ((M : Nat) : Int)).map V.int := by rw [List.map_map]; rfl
    rw [em] at eD1
    refine ⟨L1, D1, _, _, rfl, rfl, s4 _ _ eL1, eD1, ?_, fun R0 hR0 => ?_⟩
    · rw [List.length_map, List.length_map, List.length_map, List.length_range, sizeLine_eq]
      unfold L3.upTo
      rw [List.length_map, List.length_range, Int.toNat_natCast]
      omega
    rw [← List.map_append]
    have rok := @rooms_ok M u
    have rok := fun cu => @rok cu (fun j => ns.getD j 0 % ((M : Nat) : Int)) (fun j hj => ⟨Int.emod_nonneg _ (by omega), Int.emod_lt_of_pos _ (by omega)⟩) _ rfl
    have rl : (L3.upTo (M : Int) ++ (List.range u).map fun j => ns.getD j 0 % ((M : Nat) : Int)).length = M + u := by
      rw [List.length_append, List.length_map, List.length_range]; unfold L3.upTo; rw [List.length_map, List.length_range, Int.toNat_natCast]
    generalize (L3.upTo (M : Int) ++ (List.range u).map fun j => ns.getD j 0 % ((M : Nat) : Int)) = rs0 at rok rl ⊢
    obtain ⟨H5, qN, s5, eR0⟩ := newE (o := .lst (rs0.map V.int)) hR0
    rw [qN]; clear qN
    have s15 := s13.trans (s4.trans s5)
    -- cut
    refine ⟨_, rfl, X, _, _, _, rfl, rfl, SqL.of (s15 _ _ hX), hx 10 (by omega), _, rfl, .inl ⟨R0, _, rfl, .inl (SqL.of eR0), ?_⟩⟩
    rw [List.length_map, rl]
    refine ⟨_, _, rfl, rfl, by omega, ?_⟩
    have c0 := Int.emod_nonneg (ns.getD 10 0) (show ((M + u : Nat) : Int) ≠ 0 by omega)
    have c1 := Int.emod_lt_of_pos (ns.getD 10 0) (show (0 : Int) < ((M + u : Nat) : Int) by omega)
    obtain ⟨cu, ec⟩ := Int.eq_ofNat_of_zero_le c0
    rw [ec] at c1 ⊢
    have hcu : cu ≤ rs0.length := by omega
    clear c0 ec
    refine ⟨_, rfl, _, rfl, _, rfl, R0, _, rfl, SqL.of eR0, fun P1 hP1 => ?_⟩
    rw [cutV_from _ _ (by rw [List.length_map]; exact hcu), ← List.map_drop]
    obtain ⟨H6, qN, s6, eP1⟩ := newE (o := .lst ((rs0.drop cu).map V.int)) hP1
    rw [qN]; clear qN
    refine ⟨_, rfl, _, rfl, _, rfl, R0, _, rfl, SqL.of (s6 _ _ eR0), fun P2 hP2 => ?_⟩
    rw [cutV_upto, ← List.map_take]
    obtain ⟨H7, qN, s7, eP2⟩ := newE (o := .lst ((rs0.take cu).map V.int)) hP2
    rw [qN]; clear qN
    obtain ⟨rlen, rbd, rcov⟩ := rok cu
    refine ⟨P1, P2, _, _, rfl, rfl, s7 _ _ eP1, eP2, ?_, fun RM hRM => ?_⟩
    · rw [List.length_map, List.length_map, List.length_drop, List.length_take, sizeLine_eq]; omega
    rw [← List.map_append]
    generalize rs0.drop cu ++ rs0.take cu = rs at rlen rbd rcov ⊢
    obtain ⟨H8, qN, s8, eRM⟩ := newE (o := .lst (rs.map V.int)) hRM
    rw [qN]; clear qN
    have s18 := s15.trans (s6.trans (s7.trans s8))
    have s08 := s1.trans s18
    have hX8 := s18 _ _ hX
    clear rok rl hcu c1 eP1 eP2 eR0 eD1 em eL1 eP hP hL1 hD1 hR0 hP1 hP2
    have l7 : rs.length ≤ 7 := by omega
    have l1 : 1 ≤ rs.length := by omega
    -- copies
    refine ⟨_, rfl, _, rfl, by omega, by omega, ?_⟩
    rw [Int.toNat_natCast]
    intro CP hCP
    refine comp_newWR (fun r : Nat => (cpy rs (r : Nat)).map V.int) hCP (by rw [sizeLine_eq]; omega) ?_ ?_
    · intro r hr G N sG hN
      refine ⟨_, rfl, .inl ⟨RM, _, rfl, .inl (SqL.of (sG _ _ eRM)), _, rfl, by rw [List.length_map]; omega, by rw [List.length_map]; omega, ?_⟩⟩
      rw [Int.toNat_natCast, List.length_map]
      intro D hD
      refine comp_selR (fun j => decide (V.int (rs.getD j 0) = V.int (r : Nat))) (fun j => .int (j : Nat)) hD (by rw [sizeLine_eq]; omega) ?_ ?_
      · intro j hj G2 N' N0' sG2 h1 h2
        refine ⟨_, rfl, _, rfl, RM, _, _, _, rfl, rfl, SqL.of ((sG.trans sG2) _ _ eRM), atI_nat (at_of hj), _, rfl, rfl, _, rfl, ite2 (fun c => ?_) (fun c => ?_)⟩
        · exact ⟨_, rfl, h1 _ (.refl _) c⟩
        · exact h2 _ (.refl _) (by simpa using c)
      intro G3 e3 s3
      refine hN D G3 s3 hD ?_
      rw [e3]
      unfold cpy
      rw [List.map_map]; rfl
    intro H9 zc eCP s9 ezc qc
    have cat : ∀ {j : Nat}, j < M → ∃ b, (zc.map Prod.fst)[j]? = some (.ref b) ∧ H9 b = some (.lst ((cpy rs (j : Nat)).map V.int)) := fun hj => copies_at (H := H9) ezc (fun x hx => let ⟨b, e, g⟩ := qc x hx; ⟨b, e, New.sub _ _ g⟩) hj
    have hX9 := s9 _ _ hX8
    have s09 := s08.trans s9
    have eRM9 := s9 _ _ eRM
    clear qc ezc hCP
    -- found
    refine ⟨by rw [sizeLine_eq]; decide, fun FD hFD => ?_⟩
    obtain ⟨Ha, qN, sa, eFD⟩ := newE (o := .lst []) hFD
    rw [qN]; clear qN
    refine ⟨_, rfl, RM, rfl, ⟨_, SqL.of (sa _ _ eRM9)⟩, ?_⟩
    refine for_gen (J := Itl K RM) (n := rs.length) (fun i σ G => ∃ (av : Int) (z14 z15 z16 z17 : Option V) (zf : List (V × List Int)), σ = [some (.ref t), some (.int c), some (.int 2), some (.ref S), some (.ref W), some (.ref B), some (.ref F), some (.int (M : Nat)), some (.ref X), some (.ref RM), some (.int (cu : Nat)), some (.ref CP), some (.ref FD), some (.int av), z14, z15, z16, z17, none, none] ∧ Same H9 G ∧ G FD = some (.lst (zf.map Prod.fst)) ∧ zf.length = i ∧ ZL LI (hide FD (New H9 G)) zf ∧ ∀ x ∈ zf, x.2.Nodup ∧ x.2 ≠ [] ∧ (∀ y ∈ x.2, 0 ≤ y ∧ y < (rs.length : Nat)) ∧ x.2.length ≤ 20) ?_ ?_ ?_ ?_ ?_
    · exact ⟨_, _, _, _, _, [], rfl, sa, eFD, rfl, ZL.nil, fun x hx => by cases hx⟩
    · rintro i σ G hi ⟨av, z14, z15, z16, z17, zf, rfl, sG, _⟩
      exact ⟨_, _, SqL.of (sG _ _ eRM9), by rw [List.getElem?_map, List.getElem?_eq_getElem hi]; rfl⟩
    · rintro σ G ⟨av, z14, z15, z16, z17, zf, rfl, sG, _⟩
      exact ⟨_, SqL.of (sG _ _ eRM9), by rw [List.length_map]; exact Nat.le_refl _⟩
    · rintro i x σ G0 G hi ⟨av, z14, z15, z16, z17, zf, rfl, sG, gFD, lzf, qf, bf⟩ ⟨rfl, hxx⟩
      have ex := hxx _ (SqL.of (sG _ _ eRM9))
      rw [List.getElem?_map, List.getElem?_eq_getElem hi] at ex
      have ex' : x = .int rs[i] := (Option.some.inj ex).symm
      subst ex'
      obtain ⟨r0, r1⟩ := rbd _ (List.getElem_mem hi)
      obtain ⟨r, er⟩ := Int.eq_ofNat_of_zero_le r0
      rw [er] at r1 ⊢
      have hrM : r < M := by omega
      have hrw : r < d.ways.length := by omega
      obtain ⟨s', st', f', W', wv', c0, ht', hW', evr, hc0⟩ := lt.way hrw
      rw [ht] at ht'
      have eW : W' = W := by injection ht' with h; injection h with h; injection h with _ h; injection h with h _; injection h with h; exact h.symm
      subst eW
      rw [gW] at hW'
      have ews : wv' = ws := by injection hW' with h; injection h with h; exact h.symm
      subst ews
      have wok := gd.wn _ (List.getElem_mem hrw)
      rw [← waysI_at hrw] at wok
      obtain ⟨wnd, wne, wbd, wl20⟩ := wok
      generalize waysI d (r : Nat) = wr at hc0 wnd wne wbd wl20
      refine ⟨by rw [sizeLine_eq]; decide, fun A0 hA0 => ?_⟩
      obtain ⟨G1, qN, t1, eA0⟩ := newE (o := .lst []) hA0
      rw [qN]; clear qN
      have s0G := s09.trans sG
      refine ⟨_, rfl, _, rfl, W', _, _, _, rfl, rfl, SqL.of ((s0G.trans t1) _ _ gW), atI_nat evr, c0, rfl, ⟨_, SqL.of ((s0G.trans t1) _ _ hc0)⟩, ?_⟩
      refine for_gen (J := Itl K c0) (n := wr.length) (fun j σ G' => ∃ (av : Int) (AF : Addr) (l : List Int) (z16 z17 : Option V), σ = [some (.ref t), some (.int c), some (.int 2), some (.ref S), some (.ref W'), some (.ref B), some (.ref F), some (.int (M : Nat)), some (.ref X), some (.ref RM), some (.int (cu : Nat)), some (.ref CP), some (.ref FD), some (.int av), some (.int (r : Nat)), some (.ref AF), z16, z17, none, none] ∧ Same G G' ∧ G AF = none ∧ G' AF = some (.lst (l.map V.int)) ∧ Aft rs (wr.take j) l) ?_ ?_ ?_ ?_ ?_
      · exact ⟨_, A0, [], _, _, rfl, t1, hA0, eA0, Aft.start⟩
      · rintro j σ G' hj ⟨av, AF, l, z16, z17, rfl, sG', _⟩
        exact ⟨_, _, SqL.of ((s0G.trans sG') _ _ hc0), by rw [List.getElem?_map, List.getElem?_eq_getElem hj]; rfl⟩
      · rintro σ G' ⟨av, AF, l, z16, z17, rfl, sG', _⟩
        exact ⟨_, SqL.of ((s0G.trans sG') _ _ hc0), by rw [List.length_map]; exact Nat.le_refl _⟩
      · rintro j x σ G'0 G' hj ⟨av, AF, l, z16, z17, rfl, sG', nAF, gAF, aft⟩ ⟨rfl, hxx⟩
        have ex := hxx _ (SqL.of ((s0G.trans sG') _ _ hc0))
        rw [List.getElem?_map, List.getElem?_eq_getElem hj] at ex
        have ex' : x = .int wr[j] := (Option.some.inj ex).symm
        subst ex'
        have nto := nodup_take wnd hj
        have tk : wr.take (j + 1) = wr.take j ++ [wr[j]] := List.take_succ_eq_append_getElem hj
        rw [tk]
        obtain ⟨o0, o1⟩ := wbd _ (List.getElem_mem hj)
        obtain ⟨o, eo⟩ := Int.eq_ofNat_of_zero_le o0
        rw [eo] at o1 nto ⊢
        have hoM : o < M := by omega
        obtain ⟨b, evb, gb⟩ := cat hoM
        have cne := cpy_ne (rcov o hoM)
        have cl := @cpy_len rs (o : Nat)
        have cp0 : 0 < (cpy rs (o : Nat)).length := Nat.pos_of_ne_zero fun e => cne (List.eq_nil_of_length_eq_zero e)
        have s9G := sG.trans sG'
        refine ⟨_, rfl, _, rfl, _, _, rfl, rfl, by decide, X, _, _, _, rfl, rfl, SqL.of (s9G _ _ hX9), hxm av, _, rfl, _, rfl, CP, _, _, _, rfl, rfl, SqL.of (s9G _ _ eCP), atI_nat evb, .inl ⟨b, _, rfl, .inl (SqL.of (s9G _ _ gb)), ?_⟩⟩
        rw [List.length_map]
        refine ⟨_, (cpy rs (o : Nat)).length, rfl, cp0, by omega, fun G2 PK pk t2 P0 hPK pne pnd pbd => ?_⟩
        refine ⟨_, rfl, _, rfl, PK, rfl, ⟨_, SqL.of hPK⟩, fun D hD => ?_⟩
        have plen : pk.length ≤ 7 := Nat.le_trans (nodup_len_le pnd pbd) (by omega)
        refine comp_selML pk V.int (fun p => .int ((cpy rs (o : Nat)).getD p.toNat 0)) hD (SqL.of hPK) (by rw [sizeLine_eq]; omega) ?_ ?_
        · intro p hp G3 N sG3 hN
          have s3 := s9G.trans (t2.trans sG3)
          exact ⟨_, rfl, _, rfl, CP, _, _, _, rfl, rfl, SqL.of (s3 _ _ eCP), atI_nat evb, _, rfl, b, _, _, _, rfl, rfl, SqL.of (s3 _ _ gb), (selI_at (pbd p hp).1 (pbd p hp).2).1, hN _ (.refl _)⟩
        intro G3 eD t3
        have es : pk.map (fun p => V.int ((cpy rs (o : Nat)).getD p.toNat 0)) = (selI (cpy rs (o : Nat)) pk).map V.int := by unfold selI; rw [List.map_map]; rfl
        rw [es] at eD
        have ll : l.length ≤ 7 := Nat.le_trans (nodup_len_le aft.nd fun x hx => ⟨(aft.b x hx).1, (aft.b x hx).2.1⟩) l7
        have sl : (selI (cpy rs (o : Nat)) pk).length ≤ 7 := by unfold selI; rw [List.length_map]; exact plen
        have aft2 := aft.step nto pne pnd pbd
        refine ⟨AF, D, _, _, rfl, rfl, (t2.trans t3) _ _ gAF, eD, by rw [List.length_map, List.length_map, sizeLine_eq]; omega, fun R hR => ?_⟩
        rw [← List.map_append]
        obtain ⟨G4, qN, t4, eR⟩ := newE (o := .lst ((l ++ selI (cpy rs (o : Nat)) pk).map V.int)) hR
        rw [qN]; clear qN
        refine ⟨_, rfl, _, _, rfl, rfl, ?_⟩
        exact ⟨_, R, _, _, _, rfl, sG'.trans (t2.trans (t3.trans t4)), (sG'.trans (t2.trans t3)).free hR, eR, aft2⟩
      rintro σ G' ⟨av, AF, l, z16, z17, rfl, sG', nAF, gAF, aft⟩
      rw [List.take_length] at aft
      have gFD' := sG' _ _ gFD
      have nFA : AF ≠ FD := (ne_new gFD nAF).symm
      refine ⟨_, rfl, .inl ⟨rfl, _, SqL.of gFD'⟩, _, rfl, FD, _, _, rfl, rfl, gFD', by rw [List.length_map, sizeLine_eq]; omega, ?_⟩
      refine ⟨_, _, _, _, _, zf ++ [(V.ref AF, l)], rfl, (SameX.upd (Same.x (sG.trans sG'))).same hFD, by rw [upd_same, List.map_append]; rfl, by rw [List.length_append, lzf]; rfl, ZL.app (fun y hy => ?_) (ZL.one ⟨AF, rfl, hide_mk nFA (New.mk (sG.free nAF) (by rw [upd_ne nFA]; exact gAF))⟩), fun y hy => ?_⟩
      · obtain ⟨q, eq, gq⟩ := qf y hy
        obtain ⟨nq, gq⟩ := hide_some gq
        obtain ⟨g1, g2⟩ := New.of gq
        exact ⟨q, eq, hide_mk nq (New.mk g1 (by rw [upd_ne nq]; exact sG' _ _ g2))⟩
      · rcases List.mem_append.mp hy with h | h
        · exact bf y h
        · cases List.mem_singleton.mp h
          exact aft.ok wne (by omega)
    rintro σ Hb ⟨av, z14, z15, z16, z17, zf, rfl, sb, gFD, lzf, qf, bf⟩
    have s0b := s09.trans sb
    -- begins
    obtain ⟨snd, sne, sbd, sl20⟩ := gd.stn
    refine ⟨by rw [sizeLine_eq]; decide, fun B0 hB0 => ?_⟩
    obtain ⟨Hc, qN, sc, eB0⟩ := newE (o := .lst []) hB0
    rw [qN]; clear qN
    refine ⟨_, rfl, B, rfl, ⟨_, SqL.of ((s0b.trans sc) _ _ gB)⟩, ?_⟩
    refine for_gen (J := Itl K B) (n := d.starts.length) (fun j σ G' => ∃ (av : Int) (AF : Addr) (l : List Int) (z17 z19 : Option V), σ = [some (.ref t), some (.int c), some (.int 2), some (.ref S), some (.ref W), some (.ref B), some (.ref F), some (.int (M : Nat)), some (.ref X), some (.ref RM), some (.int (cu : Nat)), some (.ref CP), some (.ref FD), some (.int av), z14, z15, z16, z17, some (.ref AF), z19] ∧ Same Hb G' ∧ Hb AF = none ∧ G' AF = some (.lst (l.map V.int)) ∧ Aft rs (d.starts.take j) l) ?_ ?_ ?_ ?_ ?_
    · exact ⟨_, B0, [], _, _, rfl, sc, hB0, eB0, Aft.start⟩
    · rintro j σ G' hj ⟨av, AF, l, z17, z19, rfl, sG', _⟩
      exact ⟨_, _, SqL.of ((s0b.trans sG') _ _ gB), by rw [List.getElem?_map, List.getElem?_eq_getElem hj]; rfl⟩
    · rintro σ G' ⟨av, AF, l, z17, z19, rfl, sG', _⟩
      exact ⟨_, SqL.of ((s0b.trans sG') _ _ gB), by rw [List.length_map]; exact Nat.le_refl _⟩
    · rintro j x σ G'0 G' hj ⟨av, AF, l, z17, z19, rfl, sG', nAF, gAF, aft⟩ ⟨rfl, hxx⟩
      have ex := hxx _ (SqL.of ((s0b.trans sG') _ _ gB))
      rw [List.getElem?_map, List.getElem?_eq_getElem hj] at ex
      have ex' : x = .int d.starts[j] := (Option.some.inj ex).symm
      subst ex'
      have nto := nodup_take snd hj
      have tk : d.starts.take (j + 1) = d.starts.take j ++ [d.starts[j]] := List.take_succ_eq_append_getElem hj
      rw [tk]
      obtain ⟨o0, o1⟩ := sbd _ (List.getElem_mem hj)
      obtain ⟨o, eo⟩ := Int.eq_ofNat_of_zero_le o0
      rw [eo] at o1 nto ⊢
      have hoM : o < M := by omega
      obtain ⟨b, evb, gb⟩ := cat hoM
      have cne := cpy_ne (rcov o hoM)
      have cl := @cpy_len rs (o : Nat)
      have cp0 : 0 < (cpy rs (o : Nat)).length := Nat.pos_of_ne_zero fun e => cne (List.eq_nil_of_length_eq_zero e)
      have s9G := sb.trans sG'
      refine ⟨_, rfl, _, rfl, _, _, rfl, rfl, by decide, X, _, _, _, rfl, rfl, SqL.of (s9G _ _ hX9), hxm av, _, rfl, _, rfl, CP, _, _, _, rfl, rfl, SqL.of (s9G _ _ eCP), atI_nat evb, .inl ⟨b, _, rfl, .inl (SqL.of (s9G _ _ gb)), ?_⟩⟩
      rw [List.length_map]
      refine ⟨_, (cpy rs (o : Nat)).length, rfl, cp0, by omega, fun G2 PK pk t2 P0 hPK pne pnd pbd => ?_⟩
      refine ⟨_, rfl, _, rfl, PK, rfl, ⟨_, SqL.of hPK⟩, fun D hD => ?_⟩
      have plen : pk.length ≤ 7 := Nat.le_trans (nodup_len_le pnd pbd) (by omega)
      refine comp_selML pk V.int (fun p => .int ((cpy rs (o : Nat)).getD p.toNat 0)) hD (SqL.of hPK) (by rw [sizeLine_eq]; omega) ?_ ?_
      · intro p hp G3 N sG3 hN
        have s3 := s9G.trans (t2.trans sG3)
        exact ⟨_, rfl, _, rfl, CP, _, _, _, rfl, rfl, SqL.of (s3 _ _ eCP), atI_nat evb, _, rfl, b, _, _, _, rfl, rfl, SqL.of (s3 _ _ gb), (selI_at (pbd p hp).1 (pbd p hp).2).1, hN _ (.refl _)⟩
      intro G3 eD t3
      have es : pk.map (fun p => V.int ((cpy rs (o : Nat)).getD p.toNat 0)) = (selI (cpy rs (o : Nat)) pk).map V.int := by unfold selI; rw [List.map_map]; rfl
      rw [es] at eD
      have ll : l.length ≤ 7 := Nat.le_trans (nodup_len_le aft.nd fun x hx => ⟨(aft.b x hx).1, (aft.b x hx).2.1⟩) l7
      have sl : (selI (cpy rs (o : Nat)) pk).length ≤ 7 := by unfold selI; rw [List.length_map]; exact plen
      have aft2 := aft.step nto pne pnd pbd
      refine ⟨AF, D, _, _, rfl, rfl, (t2.trans t3) _ _ gAF, eD, by rw [List.length_map, List.length_map, sizeLine_eq]; omega, fun R hR => ?_⟩
      rw [← List.map_append]
      obtain ⟨G4, qN, t4, eR⟩ := newE (o := .lst ((l ++ selI (cpy rs (o : Nat)) pk).map V.int)) hR
      rw [qN]; clear qN
      refine ⟨_, rfl, _, _, rfl, rfl, ?_⟩
      exact ⟨_, R, _, _, _, rfl, sG'.trans (t2.trans (t3.trans t4)), (sG'.trans (t2.trans t3)).free hR, eR, aft2⟩
    rintro σ Hd ⟨av, AF, bg, z17, z19, rfl, sd, nAF, gAF, aft⟩
    rw [List.take_length] at aft
    have bok := aft.ok sne (by omega)
    have s0d := s0b.trans sd
    -- all
    refine ⟨_, rfl, RM, rfl, ⟨_, SqL.of ((sb.trans sd) _ _ eRM9)⟩, fun SG hSG => ?_⟩
    refine comp_newL rs V.int (fun r => (signsI d r).map V.str) hSG (SqL.of ((sb.trans sd) _ _ eRM9)) (by rw [sizeLine_eq]; omega) ?_ ?_
    · intro x hxr G N sG hN
      obtain ⟨x0, x1⟩ := rbd x hxr
      obtain ⟨r, rfl⟩ := Int.eq_ofNat_of_zero_le x0
      have hrd : r < d.signs.length := by omega
      obtain ⟨c0, ec0, gc0⟩ := qS r _ _ (List.getElem?_eq_getElem (show r < vs.length by omega)) (List.getElem?_eq_getElem hrd)
      have sHG := s0d.trans sG
      refine ⟨_, rfl, _, rfl, S, _, _, _, rfl, rfl, SqL.of (sHG _ _ gS), atI_nat (List.getElem?_eq_getElem (show r < vs.length by omega)), ?_⟩
      rw [ec0]
      refine .inl ⟨c0, _, rfl, .inl (SqL.of (sHG _ _ gc0)), fun l hl => hN l _ (same_upd hl) hl (by rw [signsI_at hrd]; exact upd_same)⟩
    intro He zs eSG se ezs qs
    refine ⟨_, rfl, _, rfl, _, rfl, _, rfl, _, rfl, F, _, rfl, rfl, SqL.of ((s0d.trans se) _ _ gF), fun FR hFR => ?_⟩
    rw [← List.map_reverse]
    obtain ⟨Hf, qN, sf, eFR⟩ := newE (o := .lst (d.fair.reverse.map V.str)) hFR
    rw [qN]; clear qN
    refine ⟨by rw [sizeLine_eq]; exact (by decide : 4 ≤ 16777216), fun t' ht0 => ?_⟩
    have sg := same_upd (o := .tup [.ref SG, .ref FD, .ref AF, .ref FR]) ht0
    have seg := se.trans (sf.trans sg)
    have sdg := sd.trans seg
    have s0g := s0b.trans sdg
    have SGn : H SG = none := s0d.free hSG
    have hszs : zs.length = rs.length := by rw [← ezs, List.length_map]
    have gdn := gd.sn
    have sin : ∀ ss ∈ rs.map (signsI d), ss ∈ d.signs := fun ss hss => by
      obtain ⟨x, hxr, rfl⟩ := List.mem_map.mp hss
      obtain ⟨x0, x1⟩ := rbd x hxr
      obtain ⟨r, rfl⟩ := Int.eq_ofNat_of_zero_le x0
      have hrd : r < d.signs.length := by omega
      rw [signsI_at hrd]; exact List.getElem_mem hrd
    refine k _ t' _ _ _ _ ⟨rs.map (signsI d), zf.map Prod.snd, bg, d.fair.reverse⟩ s0g ((s0d.trans (se.trans sf)).free ht0) upd_same ⟨?_, ?_, ?_, ?_⟩ ⟨⟨?_, ?_, ?_, ?_, ?_, ?_, ?_⟩, ?_, ?_⟩ ?_ ?_
    · exact RL.ls (f := signsI d) (New.mk SGn ((sf.trans sg) _ _ eSG)) ezs fun x hxz => let ⟨q, eq, gq⟩ := qs x hxz; ⟨q, eq, New.mono s0d (sf.trans sg) _ _ gq⟩
    · exact ZL.ll (New.mk (s09.free hFD) (sdg _ _ gFD)) (qf.mono LI.mono (hide_sub.trans (New.mono s09 sdg)))
    · exact ⟨AF, rfl, New.mk (s0b.free nAF) (seg _ _ gAF)⟩
    · exact ⟨FR, rfl, New.mk ((s0d.trans se).free hFR) (sg _ _ eFR)⟩
    · show 1 ≤ (rs.map (signsI d)).length; rw [List.length_map]; omega
    · show (rs.map (signsI d)).length ≤ 20; rw [List.length_map]; omega
    · show (zf.map Prod.snd).length = (rs.map (signsI d)).length; rw [List.length_map, List.length_map]; exact lzf
    · exact fun ss hss => gdn ss (sin ss hss)
    · intro ns' hns
      obtain ⟨x, hxz, rfl⟩ := List.mem_map.mp hns
      show _ ∧ _ ∧ (∀ y ∈ x.2, 0 ≤ y ∧ y < (((rs.map (signsI d)).length : Nat) : Int)) ∧ _
      rw [List.length_map]
      exact bf x hxz
    · show _ ∧ _ ∧ (∀ y ∈ bg, 0 ≤ y ∧ y < (((rs.map (signsI d)).length : Nat) : Int)) ∧ _
      rw [List.length_map]
      exact bok
    · exact ⟨nodup_rev gd.fn.1, fun x hxr => gd.fn.2.1 x (List.mem_reverse.mp hxr), by show d.fair.reverse.length ≤ 3; rw [List.length_reverse]; exact gd.fn.2.2⟩
    · show (rs.map (signsI d)).length ≤ 20; rw [List.length_map]; omega
    · exact fun ss hss => sm.s ss (sin ss hss)
    · rintro S' vs' e5 g5 mem
      cases e5
      rw [(sf.trans sg) _ _ eSG] at g5
      have : vs' = zs.map Prod.fst := by injection g5 with g5; injection g5 with g5; exact g5.symm
      rw [this] at mem
      obtain ⟨x, hxz, ex⟩ := List.mem_map.mp mem
      obtain ⟨q, eq, gq⟩ := qs x hxz
      rw [ex] at eq
      cases eq
      rw [(New.of gq).2] at hFR
      cases hFR
    · rintro W2 vs' e5 g5 mem
      cases e5
      rw [sdg _ _ gFD] at g5
      have : vs' = zf.map Prod.fst := by injection g5 with g5; injection g5 with g5; exact g5.symm
      rw [this] at mem
      obtain ⟨x, hxz, ex⟩ := List.mem_map.mp mem
      obtain ⟨q, eq, gq⟩ := qf x hxz
      rw [ex] at eq
      cases eq
      rw [(New.of (hide_some gq).2).2] at nAF
      cases nAF
end KK

set_option Elab.async false
set_option linter.all false
set_option maxRecDepth 100000
set_option maxHeartbeats 8000000
namespace KK
open PySem PySem.Spec L2 L3
def sp__law_two (K : PySem.W.Frag) (a : Adr) : Sp := fun vs H Q _ => ∃ (p : Addr) (ns : List Int), vs = [.ref p, .int 5, .int 2] ∧ SqL K H p (ns.map V.int) ∧ ∀ H' r t1 t2 d e, Same H H' → H' r = some (.tup [.ref t1, .ref t2]) → Lists H' t1 d → Lists H' t2 e → Small 5 3 d → Good e → Q (.ref r) H'
theorem ok__law_two {P : Program} {w : World} {K : PySem.W.Frag} {mg : Str → Option Value} {base : Heap} {a : Adr} (T : Txt K mg a) (hw : w.params = a.Pm) : FnOk P w K mg base CX0 3 a._law_two a._law_two_fd ["_law_script", "_law_most", "_law_more"] (sp__law_two K a) := by
  have G__law_cell_at := ok__law_cell_at (P := P) (w := w) (base := base) T hw
  have G__law_lists := ok__law_lists (P := P) (w := w) (base := base) T hw
  have G__law_twin := ok__law_twin (P := P) (w := w) (base := base) T hw
  have G__law_turned := ok__law_turned (P := P) (w := w) (base := base) T hw
  refine T.f__law_two.ok sc__law_two (fun vs H Q E h => ?_) (fun cdv A outer s H vs Q E hr h => ?_)
  · obtain ⟨p, ns, rfl, _⟩ := h
    rfl
  · obtain ⟨p, ns, rfl, hq, k⟩ := h
    refine ⟨_, (@pss_cons _ _ _ _ _ (@ps_set _ _ (3) _ _ _ _ sc__law_two.nd
      rfl
      (Or.inl rfl)
      (pe_call G__law_lists (hr.mono (by decide)) rfl T.g__law_lists T.f__law_lists.kp T.n__law_lists .nil pass0 (@pa_cons _ _ _ _ _ (pe_call G__law_cell_at (hr.mono (by decide)) rfl T.g__law_cell_at T.f__law_cell_at.kp T.n__law_cell_at .nil pass0 (@pa_cons _ _ _ _ _ (pv 0)
      (@pa_cons _ _ _ _ _ pe_int
      pa_nil
      (by rfl))
      (by rfl)))
      (@pa_cons _ _ _ _ _ (pv 1)
      pa_nil
      (by rfl))
      (by rfl)))
      (by rfl)
      (by first | exact .inl rfl | exact .inr rfl | assumption))
      (@pss_cons _ _ _ _ _ (@ps_set _ _ (4) _ _ _ _ sc__law_two.nd
      rfl
      (Or.inl rfl)
      (@pe_op _ _ _ _ _ _ _ _ op_mod
      (pe_call G__law_cell_at (hr.mono (by decide)) rfl T.g__law_cell_at T.f__law_cell_at.kp T.n__law_cell_at .nil pass0 (@pa_cons _ _ _ _ _ (pv 0)
      (@pa_cons _ _ _ _ _ pe_int
      pa_nil
      (by rfl))
      (by rfl)))
      pe_int)
      (by rfl)
      (by first | exact .inl rfl | exact .inr rfl | assumption))
      (@pss_cons _ _ _ _ _ (@ps_set _ _ (5) _ _ _ _ sc__law_two.nd
      rfl
      (Or.inl rfl)
      (pe_call G__law_twin (hr.mono (by decide)) rfl T.g__law_twin T.f__law_twin.kp T.n__law_twin .nil pass0 (@pa_c _ _ _ _ _ (pv 3)
      (@pa_c _ _ _ _ _ (pe_call G__law_cell_at (hr.mono (by decide)) rfl T.g__law_cell_at T.f__law_cell_at.kp T.n__law_cell_at .nil pass0 (@pa_cons _ _ _ _ _ (pv 0)
      (@pa_cons _ _ _ _ _ pe_int
      pa_nil
      (by rfl))
      (by rfl)))
      (@pa_c _ _ _ _ _ (pv 2)
      pa_nil
      (by rfl))
      (by rfl))
      (by rfl)))
      (by rfl)
      (by first | exact .inl rfl | exact .inr rfl | assumption))
      (pss_join (@ps_if _ _ _ _ _ _ _ _ (PW.pt (pw_or (@pt_cmpR _ _ _ _ _ _ _ _ op_eq
      (pv 4)
      pe_int
      (nomark _)) (pw_or1 (@pt_cmpR _ _ _ _ _ _ _ _ op_eq
      (pv 4)
      pe_int
      (nomark _)))))
      (@pss_one _ _ _ (@ps_set _ _ (5) _ _ _ _ sc__law_two.nd
      rfl
      (Or.inl rfl)
      (pe_call G__law_turned (hr.mono (by decide)) rfl T.g__law_turned T.f__law_turned.kp T.n__law_turned .nil pass0 (@pa_cons _ _ _ _ _ (pv 5)
      (@pa_cons _ _ _ _ _ (pe_call G__law_cell_at (hr.mono (by decide)) rfl T.g__law_cell_at T.f__law_cell_at.kp T.n__law_cell_at .nil pass0 (@pa_cons _ _ _ _ _ (pv 0)
      (@pa_cons _ _ _ _ _ pe_int
      pa_nil
      (by rfl))
      (by rfl)))
      pa_nil
      (by rfl))
      (by rfl)))
      (by rfl)
      (by first | exact .inl rfl | exact .inr rfl | assumption)))
      pss_nil)
          (pss_join (@ps_if _ _ _ _ _ _ _ _ (@pt_cmpR _ _ _ _ _ _ _ _ op_eq
      (pv 4)
      pe_int
      (nomark _))
      (@pss_one _ _ _ (@ps_set _ _ (5) _ _ _ _ sc__law_two.nd
      rfl
      (Or.inl rfl)
      (@pe_op _ _ _ _ _ _ _ _ (op_catTK (K := K) rfl)
      (pe_slice (sl_tupK (K := K) rfl) (pe_call G__law_lists (hr.mono (by decide)) rfl T.g__law_lists T.f__law_lists.kp T.n__law_lists .nil pass0 (@pa_cons _ _ _ _ _ (pe_call G__law_cell_at (hr.mono (by decide)) rfl T.g__law_cell_at T.f__law_cell_at.kp T.n__law_cell_at .nil pass0 (@pa_cons _ _ _ _ _ (pv 0)
      (@pa_cons _ _ _ _ _ pe_int
      pa_nil
      (by rfl))
      (by rfl)))
      (@pa_cons _ _ _ _ _ (pv 1)
      pa_nil
      (by rfl))
      (by rfl))) po_none (po_some pe_int))
      (@pe_tup _ _ _ _ _ (@pa_cons _ _ _ _ _ (@pe_ix _ _ _ _ _ _ _ (ix_tupK (K := K) rfl)
      (pv 3)
      pe_int
      (fun _ _ => rfl))
      pa_nil
      (by rfl))))
      (by rfl)
      (by first | exact .inl rfl | exact .inr rfl | assumption)))
      pss_nil)
          (@pss_one _ _ _ (@ps_ret _ _ _ _ (@pe_tup _ _ _ _ _ (@pa_cons _ _ _ _ _ (pv 3)
      (@pa_cons _ _ _ _ _ (pv 5)
      pa_nil
      (by rfl))
      (by rfl)))))))))), ?_⟩
    refine ⟨_, rfl, p, ns, 0, rfl, hq, fun c0 => ?_⟩
    refine ⟨_, rfl, c0, rfl, fun H1 t1 s w st f d s1 t10 ht1 pts sm => ?_⟩
    have l1 : Lists H1 t1 d := ⟨s, w, st, f, ht1, pts.mono New.sub⟩
    refine ⟨_, rfl, p, ns, 1, rfl, s1.seq hq, fun c1 => ⟨_, _, rfl, rfl, by decide, ?_⟩⟩
    refine ⟨_, rfl, _, rfl, p, ns, 2, rfl, s1.seq hq, fun c2 => ⟨_, rfl, t1, c2, d, rfl, l1, sm, fun H2 t2 s2 w2 st2 f2 d2 u2 t20 ht2 pts2 sm2 sepF sepW => ?_⟩⟩
    refine ⟨fun σ G => ∃ (t2 : Addr) (e : WD), σ = [some (.ref p), some (.int 5), some (.int 2), some (.ref t1), some (.int (c1 % 5)), some (.ref t2)] ∧ Same H1 G ∧ Lists G t2 e ∧ Good e, ?_, ?_⟩
    · have turn : ∀ c3 : Int, sp__law_turned K a [.ref t2, .int c3] H2 (fun v G => ∃ (t2 : Addr) (e : WD), (List.set [some (.ref p), some (.int 5), some (.int 2), some (.ref t1), some (.int (c1 % 5)), some (.ref t2)] 5 (some v) : L2.St) = [some (.ref p), some (.int 5), some (.int 2), some (.ref t1), some (.int (c1 % 5)), some (.ref t2)] ∧ Same H1 G ∧ Lists G t2 e ∧ Good e) (fun _ _ _ => False) := fun c3 =>
        ⟨t2, c3, H1, s2, w2, st2, f2, d2, rfl, u2, ht2, pts2, sm2, sepF, sepW, fun H3 e u3 ht3 pts3 ge _ => ⟨t2, e, rfl, u3, ⟨s2, w2, st2, f2, ht3, pts3.mono New.sub⟩, ge⟩⟩
      refine ⟨_, rfl, rfl, _, rfl, ite2 (fun c => iteT ?_) (fun c => ⟨_, rfl, rfl, _, rfl, ite2 (fun c => ?_) (fun c => ?_)⟩)⟩
      · exact ⟨_, rfl, _, rfl, p, ns, 3, rfl, (s1.trans u2).seq hq, fun c3 => turn c3⟩
      · exact ⟨_, rfl, _, rfl, p, ns, 3, rfl, (s1.trans u2).seq hq, fun c3 => turn c3⟩
      · exact ⟨t2, d2, rfl, u2, ⟨s2, w2, st2, f2, ht2, pts2.mono New.sub⟩, sm2.g⟩
    clear sepF sepW sm2 pts2 ht2 t20 u2 H2 t2 s2 w2 st2 f2 d2
    rintro σ H2 ⟨t2, e, rfl, u2, l2, ge⟩
    refine ⟨fun σ G => ∃ (t2 : Addr) (e : WD), σ = [some (.ref p), some (.int 5), some (.int 2), some (.ref t1), some (.int (c1 % 5)), some (.ref t2)] ∧ Same H1 G ∧ Lists G t2 e ∧ Good e, ?_, ?_⟩
    · refine ⟨_, rfl, rfl, _, rfl, ite2 (fun c => ?_) (fun c => ?_)⟩
      · refine ⟨_, rfl, p, ns, 2, rfl, (s1.trans u2).seq hq, fun c3 => ⟨_, rfl, c3, rfl, fun H3 t3 s3 w3 st3 f3 d3 u3 t30 ht3 pts3 sm3 => ?_⟩⟩
        refine ⟨_, rfl, t3, _, rfl, SqT.of ht3, (show ¬ (HT.sIx 4 0 none = 0 ∧ HT.sIx 4 4 (some 3) = 4) by decide), fun q hq0 => ?_⟩
        rw [cut3]
        obtain ⟨H4, qN, u4, eq⟩ := newE (o := .tup [s3, w3, st3]) hq0
        show _
        change upd H3 q (.tup ([s3, w3, st3, f3].take 3)) = H4 at qN
        rw [qN]; clear qN
        have u34 := u2.trans (u3.trans u4)
        refine ⟨_, rfl, t1, _, _, _, rfl, rfl, SqT.of (u34 _ _ ht1), rfl, by rw [sizeLine_eq]; exact (by decide : 1 ≤ 16777216), fun q2 hq2 => ?_⟩
        obtain ⟨H5, qN, u5, eq2⟩ := newE (o := .tup [f]) hq2
        rw [qN]; clear qN
        refine ⟨q, q2, _, _, rfl, rfl, SqT.of (u5 _ _ eq), SqT.of eq2, by simp, by rw [sizeLine_eq]; exact (show 3 + 1 ≤ 16777216 by decide), (fun h => by simp at h), fun _ q3 hq3 => ?_⟩
        have u6 := same_upd (o := .tup ([s3, w3, st3] ++ [f])) hq3
        have pp := (pts3.mono New.sub).mono (u4.trans (u5.trans u6))
        have pf := (pts.mono New.sub).mono (u34.trans (u5.trans u6))
        have g3 := sm3.g
        exact ⟨q3, ⟨d3.signs, d3.ways, d3.starts, d.fair⟩, rfl, u34.trans (u5.trans u6), ⟨s3, w3, st3, f, upd_same, ⟨pp.s, pp.w, pp.st, pf.f⟩⟩, ⟨g3.n1, g3.n20, g3.wl, g3.sn, g3.wn, g3.stn, sm.g.fn⟩⟩
      · exact ⟨t2, e, rfl, u2, l2, ge⟩
    clear l2 ge u2 H2 t2 e
    rintro σ H2 ⟨t2, e, rfl, u2, l2, ge⟩
    refine ⟨_, rfl, _, rfl, by rw [sizeLine_eq]; exact (by decide : 2 ≤ 16777216), fun r hr0 => ?_⟩
    have u3 := same_upd (o := .tup [.ref t1, .ref t2]) hr0
    exact k _ r t1 t2 d e (s1.trans (u2.trans u3)) upd_same (l1.mono (u2.trans u3)) (l2.mono u3) sm ge
end KK

set_option Elab.async false
set_option linter.all false
set_option maxRecDepth 100000
set_option maxHeartbeats 8000000
namespace KK
open PySem PySem.Spec L2 L3
def sp__law_each_alone (K : PySem.W.Frag) (a : Adr) : Sp := fun vs H Q _ => ∃ (t1 : Addr) (c : Int) (d : WD), vs = [.ref t1, .int c] ∧ Lists H t1 d ∧ Small 5 3 d ∧ ∀ H', Same H H' → Q (.bl true) H'
theorem ok__law_each_alone {P : Program} {w : World} {K : PySem.W.Frag} {mg : Str → Option Value} {base : Heap} {a : Adr} (T : Txt K mg a) (hw : w.params = a.Pm) : FnOk P w K mg base CX0 9 a._law_each_alone a._law_each_alone_fd ["_law_one", "_law_cell"] (sp__law_each_alone K a) := by
  have G_is_tie := ok_is_tie (P := P) (w := w) (base := base) T hw
  have G__law_made := ok__law_made (P := P) (w := w) (base := base) T hw
  have G__law_turned := ok__law_turned (P := P) (w := w) (base := base) T hw
  have G__law_is_tie := ok__law_is_tie (P := P) (w := w) (base := base) T hw
  refine T.f__law_each_alone.ok sc__law_each_alone (fun vs H Q E h => ?_) (fun cdv A outer s H vs Q E hr h => ?_)
  · obtain ⟨t1, c, d, rfl, _⟩ := h
    rfl
  · obtain ⟨t1, c, d, rfl, l1, sm, k⟩ := h
    refine ⟨_, (@pss_cons _ _ _ _ _ (ps_setCompL (i := 2) sc__law_each_alone.nd rfl rfl (Nc := ["_law_part"]) (ix := [none]) (CompOk.of (by decide +kernel : compChk (defScope s__law_each_alone) ["_law_one", "_law_cell", "_law_signs", "_law_ways", "_law_other", "_law_pairs_here", "_law_found"] ["_law_part"] [none] _ = true)) rfl (pi_listK (K := K) rfl (@pe_ix _ _ _ _ _ _ _ (ix_tupK (K := K) rfl)
      (pv 0)
      pe_int
      (fun _ _ => rfl))) (fun _ _ _ _ _ => (pg_name (i := 0) (show List.Nodup (["_law_part"] : List Str) by decide +kernel) rfl (Or.inl rfl))) (fun _ _ _ _ _ => pts_nil) (fun _ _ _ _ _ => (pe_callTy (call_listK (K := K) rfl rfl) rfl T.b_list PyProof.Rows.Boot.«list» (@pa_cons _ _ _ _ _ (pv 0)
      pa_nil
      (by rfl)))))
      (@pss_cons _ _ _ _ _ (ps_setCompL (i := 3) sc__law_each_alone.nd rfl rfl (Nc := ["_law_part"]) (ix := [none]) (CompOk.of (by decide +kernel : compChk (defScope s__law_each_alone) ["_law_one", "_law_cell", "_law_signs", "_law_ways", "_law_other", "_law_pairs_here", "_law_found"] ["_law_part"] [none] _ = true)) rfl (pi_listK (K := K) rfl (@pe_ix _ _ _ _ _ _ _ (ix_tupK (K := K) rfl)
      (pv 0)
      pe_int
      (fun _ _ => rfl))) (fun _ _ _ _ _ => (pg_name (i := 0) (show List.Nodup (["_law_part"] : List Str) by decide +kernel) rfl (Or.inl rfl))) (fun _ _ _ _ _ => pts_nil) (fun _ _ _ _ _ => (pe_callTy (call_listK (K := K) rfl rfl) rfl T.b_list PyProof.Rows.Boot.«list» (@pa_cons _ _ _ _ _ (pv 0)
      pa_nil
      (by rfl)))))
      (@pss_cons _ _ _ _ _ (@ps_set _ _ (4) _ _ _ _ sc__law_each_alone.nd
      rfl
      (Or.inl rfl)
      (pe_call G__law_turned (hr.mono (by decide)) rfl T.g__law_turned T.f__law_turned.kp T.n__law_turned .nil pass0 (@pa_cons _ _ _ _ _ (@pe_tup _ _ _ _ _ (@pa_c _ _ _ _ _ (pv 2)
      (@pa_c _ _ _ _ _ (pv 3)
      (@pa_c _ _ _ _ _ (pe_callTy (call_listK (K := K) rfl rfl) rfl T.b_list PyProof.Rows.Boot.«list» (@pa_cons _ _ _ _ _ (@pe_ix _ _ _ _ _ _ _ (ix_tupK (K := K) rfl)
      (pv 0)
      pe_int
      (fun _ _ => rfl))
      pa_nil
      (by rfl)))
      (@pa_c _ _ _ _ _ (pe_callTy (call_listK (K := K) rfl rfl) rfl T.b_list PyProof.Rows.Boot.«list» (@pa_cons _ _ _ _ _ (@pe_ix _ _ _ _ _ _ _ (ix_tupK (K := K) rfl)
      (pv 0)
      pe_int
      (fun _ _ => rfl))
      pa_nil
      (by rfl)))
      pa_nil
      (by rfl))
      (by rfl))
      (by rfl))
      (by rfl)))
      (@pa_cons _ _ _ _ _ (pv 1)
      pa_nil
      (by rfl))
      (by rfl)))
      (by rfl)
      (by first | exact .inl rfl | exact .inr rfl | assumption))
      (@pss_cons _ _ _ _ _ (ps_setCompL (i := 5) sc__law_each_alone.nd rfl rfl (Nc := ["_law_room"]) (ix := [none]) (CompOk.of (by decide +kernel : compChk (defScope s__law_each_alone) ["_law_one", "_law_cell", "_law_signs", "_law_ways", "_law_other", "_law_pairs_here", "_law_found"] ["_law_room"] [none] _ = true)) rfl (pi_range1 rfl T.b_range (@pa_cons _ _ _ _ _ (pe_callB (call_lenK (K := K) rfl) rfl T.b_len PyProof.Rows.Boot.«len» (@pa_cons _ _ _ _ _ (pv 2)
      pa_nil
      (by rfl)))
      pa_nil
      (by rfl))) (fun _ _ _ _ _ => (pg_name (i := 0) (show List.Nodup (["_law_room"] : List Str) by decide +kernel) rfl (Or.inl rfl))) (fun _ _ _ _ _ => pts_nil) (fun _ _ _ _ _ => (@pe_tup _ _ _ _ _ (@pa_cons _ _ _ _ _ (pv 0)
      (@pa_cons _ _ _ _ _ (pv 0)
      pa_nil
      (by rfl))
      (by rfl)))))
      (@pss_cons _ _ _ _ _ (@ps_set _ _ (6) _ _ _ _ sc__law_each_alone.nd
      rfl
      (Or.inl rfl)
      (pe_call G_is_tie (hr.mono (by decide)) rfl T.g_is_tie T.f_is_tie.kp T.n_is_tie .nil pass0 (@pa_c _ _ _ _ _ (pe_call G__law_made (hr.mono (by decide)) rfl T.g__law_made T.f__law_made.kp T.n__law_made .nil pass0 (@pa_cons _ _ _ _ _ (pv 0)
      pa_nil
      (by rfl)))
      (@pa_c _ _ _ _ _ (pe_call G__law_made (hr.mono (by decide)) rfl T.g__law_made T.f__law_made.kp T.n__law_made .nil pass0 (@pa_cons _ _ _ _ _ (pv 4)
      pa_nil
      (by rfl)))
      (@pa_c _ _ _ _ _ (pv 5)
      pa_nil
      (by rfl))
      (by rfl))
      (by rfl)))
      (by rfl)
      (by first | exact .inl rfl | exact .inr rfl | assumption))
      (@pss_one _ _ _ (@ps_ret _ _ _ _ (@pe_cmpR _ _ _ _ _ _ _ _ op_eq
      (pv 6)
      (pe_call G__law_is_tie (hr.mono (by decide)) rfl T.g__law_is_tie T.f__law_is_tie.kp T.n__law_is_tie .nil pass0 (@pa_c _ _ _ _ _ (pv 0)
      (@pa_c _ _ _ _ _ (pv 4)
      (@pa_c _ _ _ _ _ (pv 5)
      pa_nil
      (by rfl))
      (by rfl))
      (by rfl)))
      (nomark _))))))))), ?_⟩
    have gd := sm.g
    have n5 := sm.n
    have wl := gd.wl
    obtain ⟨sv, wv, stv, fv, ht1, pts⟩ := l1.ex
    obtain ⟨S, zs, e1, gS, ezs, qs⟩ := pts.s.z
    obtain ⟨W, zw, e2, gW, ezw, qw⟩ := pts.w.z
    obtain ⟨B, e3, gB⟩ := id pts.st
    obtain ⟨F, e4, gF⟩ := id pts.f
    subst e1
    subst e2
    subst e3
    subst e4
    have lzs : zs.length = d.signs.length := by rw [← ezs, List.length_map]
    have lzw : zw.length = d.ways.length := by rw [← ezw, List.length_map]
    refine ⟨_, rfl, t1, _, _, _, rfl, rfl, SqT.of ht1, rfl, S, rfl, ⟨_, SqL.of gS⟩, fun D1 hD1 => ?_⟩
    refine comp_newL zs Prod.fst (fun x => x.2.map V.str) hD1 (SqL.of gS) (by rw [sizeLine_eq]; omega) ?_ ?_
    · intro x hx G N sG hN
      obtain ⟨q, eq, gq⟩ := qs x hx
      rw [eq]
      exact ⟨_, rfl, .inl ⟨q, _, rfl, .inl (SqL.of (sG _ _ gq)), fun l hl => hN l _ (same_upd hl) hl upd_same⟩⟩
    intro H1 z1 eD1 s1 ez1 q1
    refine ⟨_, rfl, t1, _, _, _, rfl, rfl, SqT.of (s1 _ _ ht1), rfl, W, rfl, ⟨_, SqL.of (s1 _ _ gW)⟩, fun D2 hD2 => ?_⟩
    refine comp_newL zw Prod.fst (fun x => x.2.map V.int) hD2 (SqL.of (s1 _ _ gW)) (by rw [sizeLine_eq]; omega) ?_ ?_
    · intro x hx G N sG hN
      obtain ⟨q, eq, gq⟩ := qw x hx
      rw [eq]
      exact ⟨_, rfl, .inl ⟨q, _, rfl, .inl (SqL.of ((s1.trans sG) _ _ gq)), fun l hl => hN l _ (same_upd hl) hl upd_same⟩⟩
    intro H2 z2 eD2 s2 ez2 q2
    have s12 := s1.trans s2
    refine ⟨_, rfl, _, rfl, _, rfl, t1, _, _, _, rfl, rfl, SqT.of (s12 _ _ ht1), rfl, .inl ⟨B, _, rfl, .inl (SqL.of (s12 _ _ gB)), fun L3 hL3 => ?_⟩⟩
    obtain ⟨H3, qN, s3, eL3⟩ := newE (o := .lst (d.starts.map V.int)) hL3
    rw [qN]; clear qN
    have s13 := s12.trans s3
    refine ⟨_, rfl, t1, _, _, _, rfl, rfl, SqT.of (s13 _ _ ht1), rfl, .inl ⟨F, _, rfl, .inl (SqL.of (s13 _ _ gF)), fun L4 hL4 => ?_⟩⟩
    obtain ⟨H4, qN, s4, eL4⟩ := newE (o := .lst (d.fair.map V.str)) hL4
    rw [qN]; clear qN
    refine ⟨by rw [sizeLine_eq]; exact (by decide : 4 ≤ 16777216), fun t2 ht20 => ?_⟩
    obtain ⟨H5, qN, s5, et2⟩ := newE (o := .tup [.ref D1, .ref D2, .ref L3, .ref L4]) ht20
    rw [qN]; clear qN
    have s25 := s3.trans (s4.trans s5)
    have s15 := s2.trans s25
    have s05 := s1.trans s15
    have eD15 := s15 _ _ eD1
    have eD25 := s25 _ _ eD2
    have pp : PartsV (New H H5) (.ref D1) (.ref D2) (.ref L3) (.ref L4) d := by
      have g1 := RL.ls (f := Prod.snd) (H := New H H5) (New.mk hD1 eD15) ez1 fun x hx => let ⟨q, eq, gq⟩ := q1 x hx; ⟨q, eq, New.mono (.refl _) s15 _ _ gq⟩
      have g2 := RL.li (f := Prod.snd) (H := New H H5) (New.mk (s1.free hD2) eD25) ez2 fun x hx => let ⟨q, eq, gq⟩ := q2 x hx; ⟨q, eq, New.mono s1 s25 _ _ gq⟩
      rw [ezs] at g1
      rw [ezw] at g2
      exact ⟨g1, g2, ⟨L3, rfl, New.mk (s12.free hL3) ((s4.trans s5) _ _ eL3)⟩, ⟨L4, rfl, New.mk (s13.free hL4) (s5 _ _ eL4)⟩⟩
    refine ⟨_, rfl, t2, c, H, _, _, _, _, d, rfl, s05, et2, pp, ⟨gd, by omega, sm.s⟩, ?_, ?_, fun H6 e s6 ht6 pp6 ge ln6 => ?_⟩
    · rintro S' vs' e5 g5 mem
      cases e5
      rw [eD15] at g5
      have : vs' = z1.map Prod.fst := by injection g5 with g5; injection g5 with g5; exact g5.symm
      rw [this] at mem
      obtain ⟨x, hx, ex⟩ := List.mem_map.mp mem
      obtain ⟨q, eq, gq⟩ := q1 x hx
      rw [ex] at eq
      cases eq
      rw [(s2.trans s3) _ _ (New.of gq).2] at hL4
      cases hL4
    · rintro W' vs' e5 g5 mem
      cases e5
      rw [eD25] at g5
      have : vs' = z2.map Prod.fst := by injection g5 with g5; injection g5 with g5; exact g5.symm
      rw [this] at mem
      obtain ⟨x, hx, ex⟩ := List.mem_map.mp mem
      obtain ⟨q, eq, gq⟩ := q2 x hx
      rw [ex] at eq
      cases eq
      rw [(New.of gq).2] at hL3
      cases hL3
    have l2 : Lists H6 t2 e := ⟨_, _, _, _, ht6, pp6.mono New.sub⟩
    have l16 := l1.mono s6
    obtain ⟨D1', w', st', f', vs', ht6', hS6, lv6⟩ := l2.many
    rw [ht6] at ht6'
    have eD : D1' = D1 := by injection ht6' with h; injection h with h; injection h with h _; injection h with h; exact h.symm
    subst eD
    refine ⟨_, rfl, .inl ⟨D1', _, rfl, .inl (SqL.of hS6), _, rfl, by omega, by omega, ?_⟩⟩
    rw [Int.toNat_natCast, lv6, ln6]
    intro P hP
    refine comp_genL (J := Itr 0 d.signs.length) (n := d.signs.length) (fun j σ F => ∃ (y : Option V) (nw : List (V × List Int)), σ = [y] ∧ Same H6 F ∧ F P = some (.lst (nw.map Prod.fst)) ∧ PZ F nw ∧ (∀ x ∈ nw, TwOk d.signs.length e.signs.length x.2) ∧ nw.length = j) ?_ (fun i σ H' hi _ => hi) (fun σ H' _ => Nat.le_refl _) ?_ ?_
    · exact ⟨_, [], rfl, same_upd hP, upd_same, PZ.nil, (fun x hx => by cases hx), rfl⟩
    · rintro j x σ F0 F hj ⟨y, nw, rfl, sF, fD, pn, tn, ln2⟩ ⟨rfl, rfl⟩ N N0 hN hN0
      have ej : (0 : Int) + (j : Int) = ((j : Nat) : Int) := Int.zero_add _
      rw [ej]
      refine tTrue_if (te := tTup (tCons (tVar 0) (tCons (tVar 0) tNil))) (σ := [some (.int (j : Nat))]) (H := F) (N := fun v H5 => N v [some (.int (j : Nat))] H5) (N0 := fun H4 => N0 [some (.int (j : Nat))] H4) ?_
      refine ⟨_, rfl, _, rfl, by rw [sizeLine_eq]; exact (by decide : 2 ≤ 16777216), fun b hb => ?_⟩
      obtain ⟨F2, qN, u1, eb⟩ := newE (o := .tup [.int (j : Nat), .int (j : Nat)]) hb
      rw [qN]; clear qN
      have fD2 := u1 _ _ fD
      refine hN _ _ F2 _ fD2 (by rw [List.length_map, sizeLine_eq]; omega) ⟨_, nw ++ [(V.ref b, [((j : Nat) : Int), ((j : Nat) : Int)])], rfl, (SameX.upd (Same.x (sF.trans u1))).same hP, by rw [upd_same, List.map_append]; rfl, PZ.put fD2 ((pn.same u1).app (PZ.one (p := [((j : Nat) : Int), ((j : Nat) : Int)]) eb)), fun x hx => ?_, by rw [List.length_append, ln2]; rfl⟩
      rcases List.mem_append.mp hx with h | h
      · exact tn x h
      · cases List.mem_singleton.mp h
        exact ⟨j, j, rfl, hj, by omega⟩
    rintro σ H7 ⟨y, nw, rfl, s7, gP, pn, tn, ln2⟩
    have l17 := l16.mono s7
    have l27 := l2.mono s7
    obtain ⟨a1, a2, a3, a4, h17, p17⟩ := l17.ex
    refine ⟨_, rfl, t1, a1, a2, a3, a4, d, rfl, h17, p17, gd, fun H8 o1 s8 o10 wa1 => ?_⟩
    obtain ⟨b1, b2, b3, b4, h28, p28⟩ := (l27.mono s8).ex
    refine ⟨_, rfl, t2, b1, b2, b3, b4, e, rfl, h28, p28, ge, fun H9 o2 s9 o20 wa2 => ?_⟩
    have s79 := s8.trans s9
    refine ⟨_, rfl, o1, o2, P, d, e, nw, rfl, wa1.mono s9, wa2, gd, ge, s79 _ _ gP, pn.same s79, tn, by omega, fun H10 s10 => ?_⟩
    have s7a := s79.trans s10
    refine ⟨_, rfl, _, rfl, _, rfl, _, rfl, t1, t2, P, d, e, nw, rfl, l17.mono s7a, l27.mono s7a, gd, ge, s7a _ _ gP, pn.same s7a, tn, fun H11 s11 => ⟨rfl, ?_⟩⟩
    rw [decide_eq_true rfl]
    exact k _ (s6.trans (s7.trans (s7a.trans s11)))
end KK

set_option Elab.async false
set_option linter.all false
set_option maxRecDepth 100000
set_option maxHeartbeats 8000000
namespace KK
open PySem PySem.Spec L2 L3
theorem all_true {α : Type} (l : List α) : (l.map fun _ => true).all id = true := by rw [List.all_eq_true]; intro x hx; obtain ⟨_, _, rfl⟩ := List.mem_map.mp hx; rfl
def sp_law (K : PySem.W.Frag) (a : Adr) : Sp := fun vs H Q _ => ∃ (p : Addr) (ns : List Int), vs = [.ref p] ∧ SqL K H p (ns.map V.int) ∧ ns.length ≤ 63 ∧ ∀ H', Q (.bl true) H'
theorem ok_law {P : Program} {w : World} {K : PySem.W.Frag} {mg : Str → Option Value} {base : Heap} {a : Adr} (T : Txt K mg a) (hw : w.params = a.Pm) : FnOk P w K mg base CX0 10 a.law a.law_fd ["_law_script"] (sp_law K a) := by
  have G_is_tie := ok_is_tie (P := P) (w := w) (base := base) T hw
  have G__law_made := ok__law_made (P := P) (w := w) (base := base) T hw
  have G__law_two := ok__law_two (P := P) (w := w) (base := base) T hw
  have G__law_pairs := ok__law_pairs (P := P) (w := w) (base := base) T hw
  have G__law_is_tie := ok__law_is_tie (P := P) (w := w) (base := base) T hw
  have G__law_each_alone := ok__law_each_alone (P := P) (w := w) (base := base) T hw
  refine T.f_law.ok sc_law (fun vs H Q E h => ?_) (fun cdv A outer s H vs Q E hr h => ?_)
  · obtain ⟨b, ns, rfl, _⟩ := h
    rfl
  · obtain ⟨p, ns, rfl, hq, l63, k⟩ := h
    refine ⟨_, (@pss_cons _ _ _ _ _ (ps_asg (pe_call G__law_two (hr.mono (by decide)) rfl T.g__law_two T.f__law_two.kp T.n__law_two .nil pass0 (@pa_c _ _ _ _ _ (pv 0)
      (@pa_c _ _ _ _ _ pe_int
      (@pa_c _ _ _ _ _ pe_int
      pa_nil
      (by rfl))
      (by rfl))
      (by rfl))) (pg_tupK (K := K) (n := 2) rfl rfl (pgs_cons (pg_name (i := 1) sc_law.nd rfl (Or.inr rfl)) (pgs_cons (pg_name (i := 2) sc_law.nd rfl (Or.inl rfl)) pgs_nil))))
      (@pss_cons _ _ _ _ _ (@ps_set _ _ (3) _ _ _ _ sc_law.nd
      rfl
      (Or.inl rfl)
      (pe_call G__law_made (hr.mono (by decide)) rfl T.g__law_made T.f__law_made.kp T.n__law_made .nil pass0 (@pa_cons _ _ _ _ _ (pv 1)
      pa_nil
      (by rfl)))
      (by rfl)
      (by first | exact .inl rfl | exact .inr rfl | assumption))
      (@pss_cons _ _ _ _ _ (@ps_set _ _ (4) _ _ _ _ sc_law.nd
      rfl
      (Or.inl rfl)
      (pe_call G__law_made (hr.mono (by decide)) rfl T.g__law_made T.f__law_made.kp T.n__law_made .nil pass0 (@pa_cons _ _ _ _ _ (pv 2)
      pa_nil
      (by rfl)))
      (by rfl)
      (by first | exact .inl rfl | exact .inr rfl | assumption))
      (@pss_cons _ _ _ _ _ (ps_for PassesOwn.never rfl (pi_listK (K := K) rfl (@pe_op _ _ _ _ _ _ _ _ op_cat
      (pe_slice (sl_listK (K := K) rfl) (pv 0) (po_some pe_int) (po_some pe_int))
      (@pe_lst _ _ _ _ (@pa_cons _ _ _ _ _ pe_int
      pa_nil
      (by rfl))))) (pg_name (i := 5) sc_law.nd rfl (Or.inl rfl)) (@pss_cons _ _ _ _ _ (@ps_set _ _ (6) _ _ _ _ sc_law.nd
      rfl
      (Or.inl rfl)
      (pe_call G__law_pairs (hr.mono (by decide)) rfl T.g__law_pairs T.f__law_pairs.kp T.n__law_pairs .nil pass0 (@pa_c _ _ _ _ _ (pv 1)
      (@pa_c _ _ _ _ _ (pv 2)
      (@pa_c _ _ _ _ _ (pv 5)
      pa_nil
      (by rfl))
      (by rfl))
      (by rfl)))
      (by rfl)
      (by first | exact .inl rfl | exact .inr rfl | assumption))
      (@pss_cons _ _ _ _ _ (@ps_set _ _ (7) _ _ _ _ sc_law.nd
      rfl
      (Or.inl rfl)
      (pe_callTy (call_listK (K := K) rfl rfl) rfl T.b_list PyProof.Rows.Boot.«list» (@pa_cons _ _ _ _ _ (pv 6)
      pa_nil
      (by rfl)))
      (by rfl)
      (by first | exact .inl rfl | exact .inr rfl | assumption))
      (@pss_cons _ _ _ _ _ (@ps_set _ _ (8) _ _ _ _ sc_law.nd
      rfl
      (Or.inl rfl)
      (pe_call G_is_tie (hr.mono (by decide)) rfl T.g_is_tie T.f_is_tie.kp T.n_is_tie .nil pass0 (@pa_c _ _ _ _ _ (pv 3)
      (@pa_c _ _ _ _ _ (pv 4)
      (@pa_c _ _ _ _ _ (pv 7)
      pa_nil
      (by rfl))
      (by rfl))
      (by rfl)))
      (by rfl)
      (by first | exact .inl rfl | exact .inr rfl | assumption))
      (@pss_cons _ _ _ _ _ (@ps_if _ _ _ _ _ _ _ _ (PW.pt (pw_or (@pt_not _ _ _ _ (pt_val (pe_callB (call_isiK (K := K) rfl "bool") rfl T.b_isinstance PyProof.Rows.Boot.«isinstance» (@pa_cons _ _ _ _ _ (pv 8)
      (@pa_cons _ _ _ _ _ (pe_bltn (v := .ty "bool") rfl T.b_bool PyProof.Rows.Boot.«bool» rfl)
      pa_nil
      (by rfl))
      (by rfl))))) (pw_or (@pt_cmpR _ _ _ _ _ _ _ _ op_ne
      (pv 8)
      (pe_call G__law_is_tie (hr.mono (by decide)) rfl T.g__law_is_tie T.f__law_is_tie.kp T.n__law_is_tie .nil pass0 (@pa_c _ _ _ _ _ (pv 1)
      (@pa_c _ _ _ _ _ (pv 2)
      (@pa_c _ _ _ _ _ (pv 6)
      pa_nil
      (by rfl))
      (by rfl))
      (by rfl)))
      (nomark _)) (pw_or1 (@pt_cmpR _ _ _ _ _ _ _ _ (op_neDK (K := K) rfl (Room.units hr))
      (pv 7)
      (pv 6)
      (nomark _))))))
      (@pss_one _ _ _ (@ps_ret _ _ _ _ pe_bl))
      pss_nil)
      (@pss_cons _ _ _ _ _ (ps_setCompL (i := 9) sc_law.nd rfl rfl (Nc := ["_law_room", "_law_far"]) (ix := [none, none]) (CompOk.of (by decide +kernel : compChk (defScope s_law) ["_law_script", "_law_one", "_law_other", "_law_first", "_law_second", "_law_cell", "_law_pairs_here", "_law_handed", "_law_found", "_law_back"] ["_law_room", "_law_far"] [none, none] _ = true)) rfl (pi_listK (K := K) rfl (pv 6)) (fun _ _ _ _ _ => (pg_tupK (K := K) (n := 2) rfl rfl (pgs_cons (pg_name (i := 0) (show List.Nodup (["_law_room", "_law_far"] : List Str) by decide +kernel) rfl (Or.inl rfl)) (pgs_cons (pg_name (i := 1) (show List.Nodup (["_law_room", "_law_far"] : List Str) by decide +kernel) rfl (Or.inl rfl)) pgs_nil)))) (fun _ _ _ _ _ => pts_nil) (fun _ _ _ _ _ => (@pe_tup _ _ _ _ _ (@pa_cons _ _ _ _ _ (pv 1)
      (@pa_cons _ _ _ _ _ (pv 0)
      pa_nil
      (by rfl))
      (by rfl)))))
      (@pss_one _ _ _ (@ps_if _ _ _ _ _ _ _ _ (@pt_cmpR _ _ _ _ _ _ _ _ op_ne
      (pe_call G_is_tie (hr.mono (by decide)) rfl T.g_is_tie T.f_is_tie.kp T.n_is_tie .nil pass0 (@pa_c _ _ _ _ _ (pv 4)
      (@pa_c _ _ _ _ _ (pv 3)
      (@pa_c _ _ _ _ _ (pv 9)
      pa_nil
      (by rfl))
      (by rfl))
      (by rfl)))
      (pv 8)
      (nomark _))
      (@pss_one _ _ _ (@ps_ret _ _ _ _ pe_bl))
      pss_nil))))))))
      (@pss_one _ _ _ (@ps_ret _ _ _ _ (pe_callB (call_allK (K := K) rfl rfl) rfl T.b_all PyProof.Rows.Boot.«all» (@pa_cons _ _ _ _ _ (pe_compL (Nc := ["_law_cell", "_law_one"]) (ix := [none, some 1]) (CompOk.of (by decide +kernel : compChk (defScope s_law) ["_law_script", "_law_one", "_law_other", "_law_first", "_law_second", "_law_cell", "_law_pairs_here", "_law_handed", "_law_found", "_law_back"] ["_law_cell", "_law_one"] [none, some 1] _ = true)) rfl (pi_listK (K := K) rfl (@pe_op _ _ _ _ _ _ _ _ op_cat
      (pe_slice (sl_listK (K := K) rfl) (pv 0) (po_some pe_int) (po_some pe_int))
      (@pe_lst _ _ _ _ (@pa_cons _ _ _ _ _ pe_int
      (@pa_cons _ _ _ _ _ pe_int
      pa_nil
      (by rfl))
      (by rfl))))) (fun _ _ _ _ _ => (pg_name (i := 0) (show List.Nodup (["_law_cell", "_law_one"] : List Str) by decide +kernel) rfl (Or.inl rfl))) (fun _ _ _ _ _ => pts_nil) (fun _ _ _ _ _ => (pe_call G__law_each_alone (hr.mono (by decide)) rfl T.g__law_each_alone T.f__law_each_alone.kp T.n__law_each_alone .nil pass0 (@pa_cons _ _ _ _ _ (pv 1)
      (@pa_cons _ _ _ _ _ (pv 0)
      pa_nil
      (by rfl))
      (by rfl)))))
      pa_nil
      (by rfl))))))))), ?_⟩
    refine ⟨_, rfl, p, ns, rfl, hq, fun H1 r t1 t2 d e s1 hr0 l1 l2 sm ge => ⟨r, _, rfl, SqT.of hr0, rfl, _, _, rfl, _, _, rfl, rfl, ?_⟩⟩
    have gd := sm.g
    obtain ⟨a1, a2, a3, a4, h1, p1⟩ := l1.ex
    refine ⟨_, rfl, t1, a1, a2, a3, a4, d, rfl, h1, p1, gd, fun H2 o1 s2 o10 wa1 => ?_⟩
    obtain ⟨b1, b2, b3, b4, h2, p2⟩ := (l2.mono s2).ex
    refine ⟨_, rfl, t2, b1, b2, b3, b4, e, rfl, h2, p2, ge, fun H3 o2 s3 o20 wa2 => ?_⟩
    have s13 := s2.trans s3
    have l1 := l1.mono s13
    have l2 := l2.mono s13
    have wa1 := wa1.mono s3
    have s03 := s1.trans s13
    clear h1 p1 h2 p2 a1 a2 a3 a4 b1 b2 b3 b4 hr0 s1 s2 s3 s13 o10 o20
    -- the cells
    refine ⟨_, rfl, 4, rfl, 10, rfl, p, _, rfl, s03.seq hq, fun R hR => ?_⟩
    obtain ⟨zs, ezs, lzs⟩ := cut_ints ns (some 4) (some 10)
    rw [ezs]
    obtain ⟨H4, qN, s4, eR⟩ := newE (o := .lst (zs.map V.int)) hR
    rw [qN]; clear qN
    refine ⟨by rw [sizeLine_eq]; exact (by decide : 1 ≤ 16777216), fun B hB => ?_⟩
    obtain ⟨H5, qN, s5, eB⟩ := newE (o := .lst [.int 6]) hB
    rw [qN]; clear qN
    refine ⟨R, B, _, _, rfl, rfl, s5 _ _ eR, eB, by rw [List.length_map, sizeLine_eq]; show zs.length + 1 ≤ 16777216; omega, fun Z hZ => ?_⟩
    have ez : zs.map V.int ++ [V.int 6] = (zs ++ [6]).map V.int := by rw [List.map_append]; rfl
    rw [ez]
    have lcs : (zs ++ [6]).length ≤ 64 := by rw [List.length_append]; show zs.length + 1 ≤ 64; omega
    generalize zs ++ [6] = cs at lcs ⊢
    obtain ⟨H6, qN, s6, eZ⟩ := newE (o := .lst (cs.map V.int)) hZ
    rw [qN]; clear qN
    have s36 := s4.trans (s5.trans s6)
    have l1 := l1.mono s36
    have l2 := l2.mono s36
    have wa1 := wa1.mono s36
    have wa2 := wa2.mono s36
    have s06 := s03.trans s36
    clear ez ezs lzs eR eB hR hB hZ s4 s5 s6 s03 s36
    refine ⟨Z, rfl, ⟨_, SqL.of eZ⟩, ?_⟩
    refine for_gen (J := Itl K Z) (n := cs.length) (fun n σ G => ∃ z5 z6 z7 z8 z9 : Option V, σ = [some (.ref p), some (.ref t1), some (.ref t2), some (.ref o1), some (.ref o2), z5, z6, z7, z8, z9] ∧ Same H6 G) ?_ ?_ ?_ ?_ ?_
    · exact ⟨_, _, _, _, _, rfl, .refl _⟩
    · rintro n σ G hn ⟨z5, z6, z7, z8, z9, rfl, sG⟩
      exact ⟨_, _, SqL.of (sG _ _ eZ), by rw [List.getElem?_map, List.getElem?_eq_getElem hn]; rfl⟩
    · rintro σ G ⟨z5, z6, z7, z8, z9, rfl, sG⟩
      exact ⟨_, SqL.of (sG _ _ eZ), by rw [List.length_map]; exact Nat.le_refl _⟩
    · rintro n x σ G0 G hn ⟨z5, z6, z7, z8, z9, rfl, sG⟩ ⟨rfl, hx⟩
      have ex := hx _ (SqL.of (sG _ _ eZ))
      rw [List.getElem?_map, List.getElem?_eq_getElem hn] at ex
      have ex' : x = .int cs[n] := (Option.some.inj ex).symm
      subst ex'
      refine ⟨_, rfl, _, rfl, _, rfl, t1, t2, _, d, e, rfl, l1.mono sG, l2.mono sG, gd, ge, fun G1 L z u1 gL pz tw lz => ?_⟩
      refine ⟨_, rfl, .inl ⟨L, _, rfl, .inl (SqL.of gL), fun HD hHD => ?_⟩⟩
      obtain ⟨G2, qN, u2, gHD⟩ := newE (o := .lst (z.map Prod.fst)) hHD
      rw [qN]; clear qN
      have sG2 := sG.trans (u1.trans u2)
      refine ⟨_, rfl, _, rfl, _, rfl, o1, o2, HD, d, e, z, rfl, wa1.mono sG2, wa2.mono sG2, gd, ge, gHD, pz.same u2, tw, by omega, fun G3 u3 => ?_⟩
      have sG3 := sG2.trans u3
      have u23 := u2.trans u3
      obtain ⟨t, h1, h2⟩ := isi_f K (T := "bool") (b := true) (x := .bl (tieB d e (z.map Prod.snd))) (H := G3) (by simp) (.bl _) rfl
      refine ⟨_, rfl, _, t, _, rfl, h1, h2, _, rfl, iteF ?_⟩
      refine ⟨_, rfl, _, rfl, _, rfl, _, rfl, t1, t2, L, d, e, z, rfl, l1.mono sG3, l2.mono sG3, gd, ge, u23 _ _ gL, pz.same u23, tw, fun G4 u4 => ⟨rfl, ?_⟩⟩
      rw [decide_eq_true rfl]
      refine ⟨_, rfl, iteF ?_⟩
      have u24 := u23.trans u4
      refine ⟨_, rfl, _, rfl, neD_no (fine_plas (z.map Prod.snd)) (by decide) (Dp.lst (SqL.of ((u3.trans u4) _ _ gHD)) (dp_plas (pz.same u24).at)) (Dp.lst (SqL.of (u24 _ _ gL)) (dp_plas (pz.same u24).at)) ⟨_, rfl, iteF ?_⟩⟩
      have sG4 := sG3.trans u4
      have gL4 := u24 _ _ gL
      have pz4 := pz.same u24
      refine ⟨_, rfl, L, rfl, ⟨_, SqL.of gL4⟩, fun BK hBK => ?_⟩
      refine comp_genL (J := Itl K L) (n := z.length) (fun j σ F => ∃ (y1 y2 : Option V) (nw : List (V × List Int)), σ = [y1, y2] ∧ Same G4 F ∧ F BK = some (.lst (nw.map Prod.fst)) ∧ PZ F nw ∧ nw.map Prod.snd = ((z.map Prod.snd).take j).map swapP) ?_ ?_ ?_ ?_ ?_
      · exact ⟨_, _, [], rfl, same_upd hBK, upd_same, PZ.nil, rfl⟩
      · rintro j σ F hj ⟨y1, y2, nw, rfl, sF, _⟩
        exact ⟨_, _, SqL.of (sF _ _ gL4), by rw [List.getElem?_map, List.getElem?_eq_getElem hj]; rfl⟩
      · rintro σ F ⟨y1, y2, nw, rfl, sF, _⟩
        exact ⟨_, SqL.of (sF _ _ gL4), by rw [List.length_map]; exact Nat.le_refl _⟩
      · rintro j x σ F0 F hj ⟨y1, y2, nw, rfl, sF, fB, pn, en⟩ ⟨rfl, hx⟩ N N0 hN hN0
        have ex := hx _ (SqL.of (sF _ _ gL4))
        rw [List.getElem?_map, List.getElem?_eq_getElem hj] at ex
        have ex' : x = z[j].1 := (Option.some.inj ex).symm
        subst ex'
        obtain ⟨b, eb, gb⟩ := pz4 _ (List.getElem_mem hj)
        obtain ⟨i0, j0, ep, hi0, hj0⟩ := tw _ (List.getElem_mem hj)
        rw [eb]
        rw [ep] at gb
        refine ⟨b, _, rfl, SqT.of (sF _ _ gb), rfl, _, _, rfl, _, _, rfl, rfl, ?_⟩
        refine tTrue_if (te := tTup (tCons (tVar 1) (tCons (tVar 0) tNil))) (σ := [some (.int (i0 : Nat)), some (.int (j0 : Nat))]) (H := F) (N := fun v H5 => N v [some (.int (i0 : Nat)), some (.int (j0 : Nat))] H5) (N0 := fun H4 => N0 [some (.int (i0 : Nat)), some (.int (j0 : Nat))] H4) ?_
        refine ⟨_, rfl, _, rfl, by rw [sizeLine_eq]; exact (by decide : 2 ≤ 16777216), fun q hq0 => ?_⟩
        obtain ⟨F2, qN, v1, eq⟩ := newE (o := .tup [.int (j0 : Nat), .int (i0 : Nat)]) hq0
        rw [qN]; clear qN
        have fB2 := v1 _ _ fB
        have ln : nw.length ≤ z.length := by
          have := congrArg List.length en
          rw [List.length_map, List.length_map, List.length_take, List.length_map] at this
          omega
        refine hN _ _ F2 _ fB2 (by rw [List.length_map, sizeLine_eq]; omega) ⟨_, _, nw ++ [(V.ref q, [((j0 : Nat) : Int), ((i0 : Nat) : Int)])], rfl, (SameX.upd (Same.x (sF.trans v1))).same hBK, by rw [upd_same, List.map_append]; rfl, PZ.put fB2 ((pn.same v1).app (PZ.one (p := [((j0 : Nat) : Int), ((i0 : Nat) : Int)]) eq)), ?_⟩
        rw [List.map_append, en, take_one (by rw [List.length_map]; exact hj), List.map_append, List.getElem_map, ep]
        rfl
      rintro σ G5 ⟨y1, y2, nw, rfl, u5, gB, pn, en⟩
      have et : (z.map Prod.snd).take z.length = z.map Prod.snd := List.take_of_length_le (by rw [List.length_map]; exact Nat.le_refl _)
      rw [et] at en
      have lnw : nw.length = z.length := by
        have := congrArg List.length en
        rw [List.length_map, List.length_map, List.length_map] at this
        exact this
      have tw2 : ∀ q ∈ z.map Prod.snd, TwOk d.signs.length e.signs.length q := fun q hq => by
        obtain ⟨x, hx, rfl⟩ := List.mem_map.mp hq
        exact tw x hx
      have twn : ∀ x ∈ nw, TwOk e.signs.length d.signs.length x.2 := fun x hx => by
        have : x.2 ∈ (z.map Prod.snd).map swapP := by rw [← en]; exact List.mem_map.mpr ⟨x, hx, rfl⟩
        obtain ⟨q, hq, e0⟩ := List.mem_map.mp this
        rw [← e0]
        exact (tw2 q hq).swap
      have sG5 := sG4.trans u5
      refine ⟨_, rfl, _, rfl, _, rfl, o2, o1, BK, e, d, nw, rfl, wa2.mono sG5, wa1.mono sG5, ge, gd, gB, pn, twn, by omega, fun G6 u6 => ?_⟩
      rw [en, tieB_swap tw2]
      refine ⟨_, rfl, rfl, ?_⟩
      rw [decide_eq_true rfl]
      exact ⟨_, rfl, iteF ⟨_, _, _, _, _, rfl, sG5.trans u6⟩⟩
    rintro σ G ⟨z5, z6, z7, z8, z9, rfl, sG⟩
    refine ⟨_, rfl, 10, rfl, 16, rfl, p, _, rfl, (s06.trans sG).seq hq, fun R hR => ?_⟩
    obtain ⟨zs, ezs, lzs⟩ := cut_ints ns (some 10) (some 16)
    rw [ezs]
    obtain ⟨G1, qN, u1, eR⟩ := newE (o := .lst (zs.map V.int)) hR
    rw [qN]; clear qN
    refine ⟨by rw [sizeLine_eq]; exact (by decide : 2 ≤ 16777216), fun B hB => ?_⟩
    obtain ⟨G2, qN, u2, eB⟩ := newE (o := .lst [.int 1, .int 2]) hB
    rw [qN]; clear qN
    refine ⟨R, B, _, _, rfl, rfl, u2 _ _ eR, eB, by rw [List.length_map, sizeLine_eq]; show zs.length + 2 ≤ 16777216; omega, fun Z2 hZ2 => ?_⟩
    have ez : zs.map V.int ++ [V.int 1, V.int 2] = (zs ++ [1, 2]).map V.int := by rw [List.map_append]; rfl
    rw [ez]
    have lcs2 : (zs ++ [1, 2]).length ≤ 65 := by rw [List.length_append]; show zs.length + 2 ≤ 65; omega
    generalize zs ++ [1, 2] = ds at lcs2 ⊢
    obtain ⟨G3, qN, u3, eZ2⟩ := newE (o := .lst (ds.map V.int)) hZ2
    rw [qN]; clear qN
    have sG3 := sG.trans (u1.trans (u2.trans u3))
    refine ⟨Z2, rfl, ⟨_, SqL.of eZ2⟩, fun D hD => ?_⟩
    refine comp_selML ds V.int (fun _ => .bl true) hD (SqL.of eZ2) (by rw [sizeLine_eq]; omega) ?_ ?_
    · intro x hx F N sF hN
      exact ⟨_, rfl, _, rfl, t1, x, d, rfl, l1.mono (sG3.trans sF), sm, hN⟩
    intro G4 eD u4
    refine ⟨D, ds.map (fun _ => true), rfl, by rw [List.map_map]; exact SqL.of eD, ?_⟩
    rw [all_true]
    exact k _
end KK

set_option Elab.async false
set_option linter.all false
set_option maxRecDepth 100000
set_option maxHeartbeats 4000000
namespace KK
open PySem PySem.Spec L2 L3
def spL (K : PySem.W.Frag) : Sp := fun vs H Q _ => ∃ (p : Addr) (ns : List Int), vs = [.ref p] ∧ SqL K H p (ns.map V.int) ∧ ns.length ≤ 63 ∧ ∀ H', Q (.bl true) H'
theorem all_mk {l : PySem.W.OpenLaw} {w : World} {K : PySem.W.Frag} {h : Heap} {mg : Str → Option Value} {fa : Addr} (X : K.In h) (G : h.Ns mainGlobals mg) (hfa : mg "law" = some (.ref fa))
    {f0 f1 f2 f3 f4 f5 f6 f7 f8 f9 f10 f11 f12 f13 f14 f15 f16 f17 f18 f19 f20 f21 f22 f23 f24 f25 f26 f27 f28 f29 : Addr}
    {C_World C_TimeError C_BadWorld : Addr}
    {od0 an0 od1 an1 od2 an2 od3 an3 od4 an4 od5 an5 od6 an6 od7 an7 od8 an8 od9 an9 od10 an10 od11 an11 od12 an12 od13 an13 od14 an14 od15 an15 od16 an16 od17 an17 od18 an18 od19 an19 od20 an20 od21 an21 od22 an22 od23 an23 od24 an24 od25 an25 od26 an26 od27 an27 od28 an28 od29 an29 : Option Addr}
    {sl0 sl1 sl2 sl3 sl4 sl5 sl6 sl7 sl8 sl9 sl10 sl11 sl12 sl13 sl14 sl15 sl16 sl17 sl18 sl19 sl20 sl21 sl22 sl23 sl24 sl25 sl26 sl27 sl28 sl29 : Array (Option Value)}
    {oc0 kV0 dc0 pm0 cd0 ct0 oc1 kV1 dc1 pm1 cd1 ct1 oc2 kV2 dc2 pm2 cd2 ct2 oc3 kV3 dc3 pm3 cd3 ct3 oc4 kV4 dc4 pm4 cd4 ct4 oc5 kV5 dc5 pm5 cd5 ct5 oc6 kV6 dc6 pm6 cd6 ct6 oc7 kV7 dc7 pm7 cd7 ct7 oc8 kV8 dc8 pm8 cd8 ct8 oc9 kV9 dc9 pm9 cd9 ct9 oc10 kV10 dc10 pm10 cd10 ct10 oc11 kV11 dc11 pm11 cd11 ct11 oc12 kV12 dc12 pm12 cd12 ct12 oc13 kV13 dc13 pm13 cd13 ct13 oc14 kV14 dc14 pm14 cd14 ct14 oc15 kV15 dc15 pm15 cd15 ct15 oc16 kV16 dc16 pm16 cd16 ct16 oc17 kV17 dc17 pm17 cd17 ct17 oc18 kV18 dc18 pm18 cd18 ct18 oc19 kV19 dc19 pm19 cd19 ct19 oc20 kV20 dc20 pm20 cd20 ct20 oc21 kV21 dc21 pm21 cd21 ct21 oc22 kV22 dc22 pm22 cd22 ct22 oc23 kV23 dc23 pm23 cd23 ct23 oc24 kV24 dc24 pm24 cd24 ct24 oc25 kV25 dc25 pm25 cd25 ct25 oc26 kV26 dc26 pm26 cd26 ct26 oc27 kV27 dc27 pm27 cd27 ct27 oc28 kV28 dc28 pm28 cd28 ct28 oc29 kV29 dc29 pm29 cd29 ct29 : Value}
    {tk_LETTERS tk_MOST_LETTERS tk_MOST_ROOMS tk_MOST_FAIR : Tok}
    (aC_World : PySem.W.nsIn K mainGlobals "World" = some (some (.ref C_World)))
    (aC_TimeError : PySem.W.nsIn K mainGlobals "TimeError" = some (some (.ref C_TimeError)))
    (aC_BadWorld : PySem.W.nsIn K mainGlobals "BadWorld" = some (some (.ref C_BadWorld)))
    (a0 : PySem.W.nsIn K mainGlobals "is_whole" = some (some (.ref f0)))
    (l0 : K.lookup f0 = some ⟨oc0, od0, .func (PySem.W.fnOf "is_whole" "is_whole" (defArgs s_is_whole) (defBody s_is_whole) (defScope s_is_whole) .none kV0 dc0 pm0 an0 cd0 ct0), sl0⟩)
    (c0 : PySem.W.codeIn K cd0 "is_whole" = true)
    (k0 : PySem.W.keepIn K (.ref f0) = true)
    (a1 : PySem.W.nsIn K mainGlobals "is_name" = some (some (.ref f1)))
    (l1 : K.lookup f1 = some ⟨oc1, od1, .func (PySem.W.fnOf "is_name" "is_name" (defArgs s_is_name) (defBody s_is_name) (defScope s_is_name) .none kV1 dc1 pm1 an1 cd1 ct1), sl1⟩)
    (c1 : PySem.W.codeIn K cd1 "is_name" = true)
    (k1 : PySem.W.keepIn K (.ref f1) = true)
    (a2 : PySem.W.nsIn K mainGlobals "is_room" = some (some (.ref f2)))
    (l2 : K.lookup f2 = some ⟨oc2, od2, .func (PySem.W.fnOf "is_room" "is_room" (defArgs s_is_room) (defBody s_is_room) (defScope s_is_room) .none kV2 dc2 pm2 an2 cd2 ct2), sl2⟩)
    (c2 : PySem.W.codeIn K cd2 "is_room" = true)
    (k2 : PySem.W.keepIn K (.ref f2) = true)
    (a3 : PySem.W.nsIn K mainGlobals "are_names" = some (some (.ref f3)))
    (l3 : K.lookup f3 = some ⟨oc3, od3, .func (PySem.W.fnOf "are_names" "are_names" (defArgs s_are_names) (defBody s_are_names) (defScope s_are_names) .none kV3 dc3 pm3 an3 cd3 ct3), sl3⟩)
    (c3 : PySem.W.codeIn K cd3 "are_names" = true)
    (k3 : PySem.W.keepIn K (.ref f3) = true)
    (a4 : PySem.W.nsIn K mainGlobals "are_rooms" = some (some (.ref f4)))
    (l4 : K.lookup f4 = some ⟨oc4, od4, .func (PySem.W.fnOf "are_rooms" "are_rooms" (defArgs s_are_rooms) (defBody s_are_rooms) (defScope s_are_rooms) .none kV4 dc4 pm4 an4 cd4 ct4), sl4⟩)
    (c4 : PySem.W.codeIn K cd4 "are_rooms" = true)
    (k4 : PySem.W.keepIn K (.ref f4) = true)
    (a5 : PySem.W.nsIn K mainGlobals "is_tie" = some (some (.ref f5)))
    (l5 : K.lookup f5 = some ⟨oc5, od5, .func (PySem.W.fnOf "is_tie" "is_tie" (defArgs s_is_tie) (defBody s_is_tie) (defScope s_is_tie) .none kV5 dc5 pm5 an5 cd5 ct5), sl5⟩)
    (c5 : PySem.W.codeIn K cd5 "is_tie" = true)
    (k5 : PySem.W.keepIn K (.ref f5) = true)
    (a6 : PySem.W.nsIn K mainGlobals "is_pair" = some (some (.ref f6)))
    (l6 : K.lookup f6 = some ⟨oc6, od6, .func (PySem.W.fnOf "is_pair" "is_pair" (defArgs s_is_pair) (defBody s_is_pair) (defScope s_is_pair) .none kV6 dc6 pm6 an6 cd6 ct6), sl6⟩)
    (c6 : PySem.W.codeIn K cd6 "is_pair" = true)
    (k6 : PySem.W.keepIn K (.ref f6) = true)
    (a7 : PySem.W.nsIn K mainGlobals "is_tied" = some (some (.ref f7)))
    (l7 : K.lookup f7 = some ⟨oc7, od7, .func (PySem.W.fnOf "is_tied" "is_tied" (defArgs s_is_tied) (defBody s_is_tied) (defScope s_is_tied) .none kV7 dc7 pm7 an7 cd7 ct7), sl7⟩)
    (c7 : PySem.W.codeIn K cd7 "is_tied" = true)
    (k7 : PySem.W.keepIn K (.ref f7) = true)
    (a8 : PySem.W.findIn K (.ref C_World) "__init__" = some (some (.ref f8)))
    (i8 : PySem.W.isFn K (.ref f8) = true)
    (l8 : K.lookup f8 = some ⟨oc8, od8, .func (PySem.W.fnOf "__init__" "World.__init__" (defArgs s_World_init) (defBody s_World_init) (defScope s_World_init) .none kV8 dc8 pm8 an8 cd8 ct8), sl8⟩)
    (c8 : PySem.W.codeIn K cd8 "World.__init__" = true)
    (k8 : PySem.W.keepIn K (.ref f8) = true)
    (a9 : PySem.W.findIn K (.ref C_World) "many" = some (some (.ref f9)))
    (i9 : PySem.W.isFn K (.ref f9) = true)
    (l9 : K.lookup f9 = some ⟨oc9, od9, .func (PySem.W.fnOf "many" "World.many" (defArgs s_World_many) (defBody s_World_many) (defScope s_World_many) .none kV9 dc9 pm9 an9 cd9 ct9), sl9⟩)
    (c9 : PySem.W.codeIn K cd9 "World.many" = true)
    (k9 : PySem.W.keepIn K (.ref f9) = true)
    (a10 : PySem.W.findIn K (.ref C_World) "signs_of" = some (some (.ref f10)))
    (i10 : PySem.W.isFn K (.ref f10) = true)
    (l10 : K.lookup f10 = some ⟨oc10, od10, .func (PySem.W.fnOf "signs_of" "World.signs_of" (defArgs s_World_signs_of) (defBody s_World_signs_of) (defScope s_World_signs_of) .none kV10 dc10 pm10 an10 cd10 ct10), sl10⟩)
    (c10 : PySem.W.codeIn K cd10 "World.signs_of" = true)
    (k10 : PySem.W.keepIn K (.ref f10) = true)
    (a11 : PySem.W.findIn K (.ref C_World) "ways_on" = some (some (.ref f11)))
    (i11 : PySem.W.isFn K (.ref f11) = true)
    (l11 : K.lookup f11 = some ⟨oc11, od11, .func (PySem.W.fnOf "ways_on" "World.ways_on" (defArgs s_World_ways_on) (defBody s_World_ways_on) (defScope s_World_ways_on) .none kV11 dc11 pm11 an11 cd11 ct11), sl11⟩)
    (c11 : PySem.W.codeIn K cd11 "World.ways_on" = true)
    (k11 : PySem.W.keepIn K (.ref f11) = true)
    (a12 : PySem.W.findIn K (.ref C_World) "begins" = some (some (.ref f12)))
    (i12 : PySem.W.isFn K (.ref f12) = true)
    (l12 : K.lookup f12 = some ⟨oc12, od12, .func (PySem.W.fnOf "begins" "World.begins" (defArgs s_World_begins) (defBody s_World_begins) (defScope s_World_begins) .none kV12 dc12 pm12 an12 cd12 ct12), sl12⟩)
    (c12 : PySem.W.codeIn K cd12 "World.begins" = true)
    (k12 : PySem.W.keepIn K (.ref f12) = true)
    (a13 : PySem.W.findIn K (.ref C_World) "fair_signs" = some (some (.ref f13)))
    (i13 : PySem.W.isFn K (.ref f13) = true)
    (l13 : K.lookup f13 = some ⟨oc13, od13, .func (PySem.W.fnOf "fair_signs" "World.fair_signs" (defArgs s_World_fair_signs) (defBody s_World_fair_signs) (defScope s_World_fair_signs) .none kV13 dc13 pm13 an13 cd13 ct13), sl13⟩)
    (c13 : PySem.W.codeIn K cd13 "World.fair_signs" = true)
    (k13 : PySem.W.keepIn K (.ref f13) = true)
    (a14 : PySem.W.nsIn K mainGlobals "makes_world" = some (some (.ref f14)))
    (l14 : K.lookup f14 = some ⟨oc14, od14, .func (PySem.W.fnOf "makes_world" "makes_world" (defArgs s_makes_world) (defBody s_makes_world) (defScope s_makes_world) .none kV14 dc14 pm14 an14 cd14 ct14), sl14⟩)
    (c14 : PySem.W.codeIn K cd14 "makes_world" = true)
    (k14 : PySem.W.keepIn K (.ref f14) = true)
    (a15 : PySem.W.nsIn K mainGlobals "are_some_rooms" = some (some (.ref f15)))
    (l15 : K.lookup f15 = some ⟨oc15, od15, .func (PySem.W.fnOf "are_some_rooms" "are_some_rooms" (defArgs s_are_some_rooms) (defBody s_are_some_rooms) (defScope s_are_some_rooms) .none kV15 dc15 pm15 an15 cd15 ct15), sl15⟩)
    (c15 : PySem.W.codeIn K cd15 "are_some_rooms" = true)
    (k15 : PySem.W.keepIn K (.ref f15) = true)
    (a16 : PySem.W.nsIn K mainGlobals "_law_cell_at" = some (some (.ref f16)))
    (l16 : K.lookup f16 = some ⟨oc16, od16, .func (PySem.W.fnOf "_law_cell_at" "_law_cell_at" (defArgs s__law_cell_at) (defBody s__law_cell_at) (defScope s__law_cell_at) .none kV16 dc16 pm16 an16 cd16 ct16), sl16⟩)
    (c16 : PySem.W.codeIn K cd16 "_law_cell_at" = true)
    (k16 : PySem.W.keepIn K (.ref f16) = true)
    (a17 : PySem.W.nsIn K mainGlobals "_law_stream" = some (some (.ref f17)))
    (l17 : K.lookup f17 = some ⟨oc17, od17, .func (PySem.W.fnOf "_law_stream" "_law_stream" (defArgs s__law_stream) (defBody s__law_stream) (defScope s__law_stream) .none kV17 dc17 pm17 an17 cd17 ct17), sl17⟩)
    (c17 : PySem.W.codeIn K cd17 "_law_stream" = true)
    (k17 : PySem.W.keepIn K (.ref f17) = true)
    (a18 : PySem.W.nsIn K mainGlobals "_law_some" = some (some (.ref f18)))
    (l18 : K.lookup f18 = some ⟨oc18, od18, .func (PySem.W.fnOf "_law_some" "_law_some" (defArgs s__law_some) (defBody s__law_some) (defScope s__law_some) .none kV18 dc18 pm18 an18 cd18 ct18), sl18⟩)
    (c18 : PySem.W.codeIn K cd18 "_law_some" = true)
    (k18 : PySem.W.keepIn K (.ref f18) = true)
    (a19 : PySem.W.nsIn K mainGlobals "_law_lists" = some (some (.ref f19)))
    (l19 : K.lookup f19 = some ⟨oc19, od19, .func (PySem.W.fnOf "_law_lists" "_law_lists" (defArgs s__law_lists) (defBody s__law_lists) (defScope s__law_lists) .none kV19 dc19 pm19 an19 cd19 ct19), sl19⟩)
    (c19 : PySem.W.codeIn K cd19 "_law_lists" = true)
    (k19 : PySem.W.keepIn K (.ref f19) = true)
    (a20 : PySem.W.nsIn K mainGlobals "_law_twin" = some (some (.ref f20)))
    (l20 : K.lookup f20 = some ⟨oc20, od20, .func (PySem.W.fnOf "_law_twin" "_law_twin" (defArgs s__law_twin) (defBody s__law_twin) (defScope s__law_twin) .none kV20 dc20 pm20 an20 cd20 ct20), sl20⟩)
    (c20 : PySem.W.codeIn K cd20 "_law_twin" = true)
    (k20 : PySem.W.keepIn K (.ref f20) = true)
    (a21 : PySem.W.nsIn K mainGlobals "_law_made" = some (some (.ref f21)))
    (l21 : K.lookup f21 = some ⟨oc21, od21, .func (PySem.W.fnOf "_law_made" "_law_made" (defArgs s__law_made) (defBody s__law_made) (defScope s__law_made) .none kV21 dc21 pm21 an21 cd21 ct21), sl21⟩)
    (c21 : PySem.W.codeIn K cd21 "_law_made" = true)
    (k21 : PySem.W.keepIn K (.ref f21) = true)
    (a22 : PySem.W.nsIn K mainGlobals "_law_turned" = some (some (.ref f22)))
    (l22 : K.lookup f22 = some ⟨oc22, od22, .func (PySem.W.fnOf "_law_turned" "_law_turned" (defArgs s__law_turned) (defBody s__law_turned) (defScope s__law_turned) .none kV22 dc22 pm22 an22 cd22 ct22), sl22⟩)
    (c22 : PySem.W.codeIn K cd22 "_law_turned" = true)
    (k22 : PySem.W.keepIn K (.ref f22) = true)
    (a23 : PySem.W.nsIn K mainGlobals "_law_two" = some (some (.ref f23)))
    (l23 : K.lookup f23 = some ⟨oc23, od23, .func (PySem.W.fnOf "_law_two" "_law_two" (defArgs s__law_two) (defBody s__law_two) (defScope s__law_two) .none kV23 dc23 pm23 an23 cd23 ct23), sl23⟩)
    (c23 : PySem.W.codeIn K cd23 "_law_two" = true)
    (k23 : PySem.W.keepIn K (.ref f23) = true)
    (a24 : PySem.W.nsIn K mainGlobals "_law_tied" = some (some (.ref f24)))
    (l24 : K.lookup f24 = some ⟨oc24, od24, .func (PySem.W.fnOf "_law_tied" "_law_tied" (defArgs s__law_tied) (defBody s__law_tied) (defScope s__law_tied) .none kV24 dc24 pm24 an24 cd24 ct24), sl24⟩)
    (c24 : PySem.W.codeIn K cd24 "_law_tied" = true)
    (k24 : PySem.W.keepIn K (.ref f24) = true)
    (a25 : PySem.W.nsIn K mainGlobals "_law_goes_on" = some (some (.ref f25)))
    (l25 : K.lookup f25 = some ⟨oc25, od25, .func (PySem.W.fnOf "_law_goes_on" "_law_goes_on" (defArgs s__law_goes_on) (defBody s__law_goes_on) (defScope s__law_goes_on) .none kV25 dc25 pm25 an25 cd25 ct25), sl25⟩)
    (c25 : PySem.W.codeIn K cd25 "_law_goes_on" = true)
    (k25 : PySem.W.keepIn K (.ref f25) = true)
    (a26 : PySem.W.nsIn K mainGlobals "_law_pairs" = some (some (.ref f26)))
    (l26 : K.lookup f26 = some ⟨oc26, od26, .func (PySem.W.fnOf "_law_pairs" "_law_pairs" (defArgs s__law_pairs) (defBody s__law_pairs) (defScope s__law_pairs) .none kV26 dc26 pm26 an26 cd26 ct26), sl26⟩)
    (c26 : PySem.W.codeIn K cd26 "_law_pairs" = true)
    (k26 : PySem.W.keepIn K (.ref f26) = true)
    (a27 : PySem.W.nsIn K mainGlobals "_law_is_tie" = some (some (.ref f27)))
    (l27 : K.lookup f27 = some ⟨oc27, od27, .func (PySem.W.fnOf "_law_is_tie" "_law_is_tie" (defArgs s__law_is_tie) (defBody s__law_is_tie) (defScope s__law_is_tie) .none kV27 dc27 pm27 an27 cd27 ct27), sl27⟩)
    (c27 : PySem.W.codeIn K cd27 "_law_is_tie" = true)
    (k27 : PySem.W.keepIn K (.ref f27) = true)
    (a28 : PySem.W.nsIn K mainGlobals "_law_each_alone" = some (some (.ref f28)))
    (l28 : K.lookup f28 = some ⟨oc28, od28, .func (PySem.W.fnOf "_law_each_alone" "_law_each_alone" (defArgs s__law_each_alone) (defBody s__law_each_alone) (defScope s__law_each_alone) .none kV28 dc28 pm28 an28 cd28 ct28), sl28⟩)
    (c28 : PySem.W.codeIn K cd28 "_law_each_alone" = true)
    (k28 : PySem.W.keepIn K (.ref f28) = true)
    (a29 : PySem.W.nsIn K mainGlobals "law" = some (some (.ref f29)))
    (l29 : K.lookup f29 = some ⟨oc29, od29, .func (PySem.W.fnOf "law" "law" (defArgs s_law) (defBody s_law) (defScope s_law) .none kV29 dc29 pm29 an29 cd29 ct29), sl29⟩)
    (c29 : PySem.W.codeIn K cd29 "law" = true)
    (k29 : PySem.W.keepIn K (.ref f29) = true)
    (pg_World : PySem.W.plainGet K C_World Str.empty = true)
    (hd_World : PySem.W.hasDictIn K C_World = true)
    (po_World : PySem.W.plainOver K C_World = true)
    (sa_World : PySem.W.findIn K (.ref C_World) "__setattr__" = some (some (.builtin "object.__setattr__")))
    (mk_World : PySem.W.makesIn K C_World = true)
    (kc_World : PySem.W.keepIn K (.ref C_World) = true)
    (n_World_room_signs : PySem.W.findIn K (.ref C_World) "room_signs" = some none)
    (n_World_room_ways : PySem.W.findIn K (.ref C_World) "room_ways" = some none)
    (n_World_start_rooms : PySem.W.findIn K (.ref C_World) "start_rooms" = some none)
    (n_World_fair_names : PySem.W.findIn K (.ref C_World) "fair_names" = some none)
    (z_ValueError : PySem.W.nsIn K mainGlobals "ValueError" = some none)
    (z_all : PySem.W.nsIn K mainGlobals "all" = some none)
    (z_len : PySem.W.nsIn K mainGlobals "len" = some none)
    (z_range : PySem.W.nsIn K mainGlobals "range" = some none)
    (z_isinstance : PySem.W.nsIn K mainGlobals "isinstance" = some none)
    (z_int : PySem.W.nsIn K mainGlobals "int" = some none)
    (z_list : PySem.W.nsIn K mainGlobals "list" = some none)
    (z_tuple : PySem.W.nsIn K mainGlobals "tuple" = some none)
    (z_bool : PySem.W.nsIn K mainGlobals "bool" = some none)
    (z_str : PySem.W.nsIn K mainGlobals "str" = some none)
    (z_set : PySem.W.nsIn K mainGlobals "set" = some none)
    (z_any : PySem.W.nsIn K mainGlobals "any" = some none)
    (z_sorted : PySem.W.nsIn K mainGlobals "sorted" = some none)
    (x_LETTERS : PySem.W.nsIn K mainGlobals "LETTERS" = some (some (.str "abcdefghijklmnopqrstuvwxyz" tk_LETTERS)))
    (x_MOST_LETTERS : PySem.W.nsIn K mainGlobals "MOST_LETTERS" = some (some (.int 8 tk_MOST_LETTERS)))
    (x_MOST_ROOMS : PySem.W.nsIn K mainGlobals "MOST_ROOMS" = some (some (.int 20 tk_MOST_ROOMS)))
    (x_MOST_FAIR : PySem.W.nsIn K mainGlobals "MOST_FAIR" = some (some (.int 3 tk_MOST_FAIR)))
    (xc_TimeError : PySem.W.excIn K C_TimeError [.type "ValueError", .type "Exception", .type "BaseException", .type "object"] "ValueError.__new__" = true)
    (xc_BadWorld : PySem.W.excIn K C_BadWorld [.type "ValueError", .type "Exception", .type "BaseException", .type "object"] "ValueError.__new__" = true)
    (xgt : PySem.W.specialIn K (.builtin "object.__class__") "__get__" = some (some (.builtin "getset_descriptor.__get__")))
    (xtk : PySem.W.takesIn K (.builtin "object.__class__") = some true)
    (xga_BadWorld : PySem.W.findIn K (.ref C_BadWorld) "__getattribute__" = some (some (.builtin "BaseException.__getattribute__")))
    (xgh_BadWorld : PySem.W.findIn K (.ref C_BadWorld) "__getattr__" = some none)
    (xob_BadWorld : PySem.W.mroIn K C_BadWorld (.type "object") = some true)
    (xbe_BadWorld : PySem.W.mroIn K C_BadWorld (.type "BaseException") = some true)
    (xcl_BadWorld : PySem.W.findIn K (.ref C_BadWorld) "__class__" = some (some (.builtin "object.__class__")))
    (xhd_BadWorld : PySem.W.hasDictIn K C_BadWorld = true) :
    ∃ fd : FuncData, (∀ (s : Shared) (v : Value), BindsTo s fd ⟨[v], []⟩ [("_law_script", v)]) ∧ ∀ base : Heap, K.In base → base.Ns mainGlobals mg → FnOk l.prog w K mg base CX0 10 fa fd ["_law_script"] (spL K) := by
  have e := hfa.symm.trans (PySem.W.mg_of X G a29)
  cases e
  have T : Txt K mg { is_whole := f0, is_whole_fd := PySem.W.fnOf "is_whole" "is_whole" (defArgs s_is_whole) (defBody s_is_whole) (defScope s_is_whole) .none kV0 dc0 pm0 an0 cd0 ct0, is_name := f1, is_name_fd := PySem.W.fnOf "is_name" "is_name" (defArgs s_is_name) (defBody s_is_name) (defScope s_is_name) .none kV1 dc1 pm1 an1 cd1 ct1, is_room := f2, is_room_fd := PySem.W.fnOf "is_room" "is_room" (defArgs s_is_room) (defBody s_is_room) (defScope s_is_room) .none kV2 dc2 pm2 an2 cd2 ct2, are_names := f3, are_names_fd := PySem.W.fnOf "are_names" "are_names" (defArgs s_are_names) (defBody s_are_names) (defScope s_are_names) .none kV3 dc3 pm3 an3 cd3 ct3, are_rooms := f4, are_rooms_fd := PySem.W.fnOf "are_rooms" "are_rooms" (defArgs s_are_rooms) (defBody s_are_rooms) (defScope s_are_rooms) .none kV4 dc4 pm4 an4 cd4 ct4, is_tie := f5, is_tie_fd := PySem.W.fnOf "is_tie" "is_tie" (defArgs s_is_tie) (defBody s_is_tie) (defScope s_is_tie) .none kV5 dc5 pm5 an5 cd5 ct5, is_pair := f6, is_pair_fd := PySem.W.fnOf "is_pair" "is_pair" (defArgs s_is_pair) (defBody s_is_pair) (defScope s_is_pair) .none kV6 dc6 pm6 an6 cd6 ct6, is_tied := f7, is_tied_fd := PySem.W.fnOf "is_tied" "is_tied" (defArgs s_is_tied) (defBody s_is_tied) (defScope s_is_tied) .none kV7 dc7 pm7 an7 cd7 ct7, World_init := f8, World_init_fd := PySem.W.fnOf "__init__" "World.__init__" (defArgs s_World_init) (defBody s_World_init) (defScope s_World_init) .none kV8 dc8 pm8 an8 cd8 ct8, World_many := f9, World_many_fd := PySem.W.fnOf "many" "World.many" (defArgs s_World_many) (defBody s_World_many) (defScope s_World_many) .none kV9 dc9 pm9 an9 cd9 ct9, World_signs_of := f10, World_signs_of_fd := PySem.W.fnOf "signs_of" "World.signs_of" (defArgs s_World_signs_of) (defBody s_World_signs_of) (defScope s_World_signs_of) .none kV10 dc10 pm10 an10 cd10 ct10, World_ways_on := f11, World_ways_on_fd := PySem.W.fnOf "ways_on" "World.ways_on" (defArgs s_World_ways_on) (defBody s_World_ways_on) (defScope s_World_ways_on) .none kV11 dc11 pm11 an11 cd11 ct11, World_begins := f12, World_begins_fd := PySem.W.fnOf "begins" "World.begins" (defArgs s_World_begins) (defBody s_World_begins) (defScope s_World_begins) .none kV12 dc12 pm12 an12 cd12 ct12, World_fair_signs := f13, World_fair_signs_fd := PySem.W.fnOf "fair_signs" "World.fair_signs" (defArgs s_World_fair_signs) (defBody s_World_fair_signs) (defScope s_World_fair_signs) .none kV13 dc13 pm13 an13 cd13 ct13, makes_world := f14, makes_world_fd := PySem.W.fnOf "makes_world" "makes_world" (defArgs s_makes_world) (defBody s_makes_world) (defScope s_makes_world) .none kV14 dc14 pm14 an14 cd14 ct14, are_some_rooms := f15, are_some_rooms_fd := PySem.W.fnOf "are_some_rooms" "are_some_rooms" (defArgs s_are_some_rooms) (defBody s_are_some_rooms) (defScope s_are_some_rooms) .none kV15 dc15 pm15 an15 cd15 ct15, _law_cell_at := f16, _law_cell_at_fd := PySem.W.fnOf "_law_cell_at" "_law_cell_at" (defArgs s__law_cell_at) (defBody s__law_cell_at) (defScope s__law_cell_at) .none kV16 dc16 pm16 an16 cd16 ct16, _law_stream := f17, _law_stream_fd := PySem.W.fnOf "_law_stream" "_law_stream" (defArgs s__law_stream) (defBody s__law_stream) (defScope s__law_stream) .none kV17 dc17 pm17 an17 cd17 ct17, _law_some := f18, _law_some_fd := PySem.W.fnOf "_law_some" "_law_some" (defArgs s__law_some) (defBody s__law_some) (defScope s__law_some) .none kV18 dc18 pm18 an18 cd18 ct18, _law_lists := f19, _law_lists_fd := PySem.W.fnOf "_law_lists" "_law_lists" (defArgs s__law_lists) (defBody s__law_lists) (defScope s__law_lists) .none kV19 dc19 pm19 an19 cd19 ct19, _law_twin := f20, _law_twin_fd := PySem.W.fnOf "_law_twin" "_law_twin" (defArgs s__law_twin) (defBody s__law_twin) (defScope s__law_twin) .none kV20 dc20 pm20 an20 cd20 ct20, _law_made := f21, _law_made_fd := PySem.W.fnOf "_law_made" "_law_made" (defArgs s__law_made) (defBody s__law_made) (defScope s__law_made) .none kV21 dc21 pm21 an21 cd21 ct21, _law_turned := f22, _law_turned_fd := PySem.W.fnOf "_law_turned" "_law_turned" (defArgs s__law_turned) (defBody s__law_turned) (defScope s__law_turned) .none kV22 dc22 pm22 an22 cd22 ct22, _law_two := f23, _law_two_fd := PySem.W.fnOf "_law_two" "_law_two" (defArgs s__law_two) (defBody s__law_two) (defScope s__law_two) .none kV23 dc23 pm23 an23 cd23 ct23, _law_tied := f24, _law_tied_fd := PySem.W.fnOf "_law_tied" "_law_tied" (defArgs s__law_tied) (defBody s__law_tied) (defScope s__law_tied) .none kV24 dc24 pm24 an24 cd24 ct24, _law_goes_on := f25, _law_goes_on_fd := PySem.W.fnOf "_law_goes_on" "_law_goes_on" (defArgs s__law_goes_on) (defBody s__law_goes_on) (defScope s__law_goes_on) .none kV25 dc25 pm25 an25 cd25 ct25, _law_pairs := f26, _law_pairs_fd := PySem.W.fnOf "_law_pairs" "_law_pairs" (defArgs s__law_pairs) (defBody s__law_pairs) (defScope s__law_pairs) .none kV26 dc26 pm26 an26 cd26 ct26, _law_is_tie := f27, _law_is_tie_fd := PySem.W.fnOf "_law_is_tie" "_law_is_tie" (defArgs s__law_is_tie) (defBody s__law_is_tie) (defScope s__law_is_tie) .none kV27 dc27 pm27 an27 cd27 ct27, _law_each_alone := f28, _law_each_alone_fd := PySem.W.fnOf "_law_each_alone" "_law_each_alone" (defArgs s__law_each_alone) (defBody s__law_each_alone) (defScope s__law_each_alone) .none kV28 dc28 pm28 an28 cd28 ct28, law := fa, law_fd := PySem.W.fnOf "law" "law" (defArgs s_law) (defBody s_law) (defScope s_law) .none kV29 dc29 pm29 an29 cd29 ct29, C_TimeError := C_TimeError, C_BadWorld := C_BadWorld, C_World := C_World, Pm := w.params } := {
    f_is_whole := fun_mk (st := s_is_whole) l0 c0 k0,
    n_is_whole := (fun_mk (st := s_is_whole) l0 c0 k0).binds (ps := ["thing"]) (fun _ _ _ _ _ _ us hl => match us, hl with | [_], _ => rfl),
    g_is_whole := PySem.W.mg_of X G a0,
    f_is_name := fun_mk (st := s_is_name) l1 c1 k1,
    n_is_name := (fun_mk (st := s_is_name) l1 c1 k1).binds (ps := ["thing"]) (fun _ _ _ _ _ _ us hl => match us, hl with | [_], _ => rfl),
    g_is_name := PySem.W.mg_of X G a1,
    f_is_room := fun_mk (st := s_is_room) l2 c2 k2,
    n_is_room := (fun_mk (st := s_is_room) l2 c2 k2).binds (ps := ["thing", "many"]) (fun _ _ _ _ _ _ us hl => match us, hl with | [_, _], _ => rfl),
    g_is_room := PySem.W.mg_of X G a2,
    f_are_names := fun_mk (st := s_are_names) l3 c3 k3,
    n_are_names := (fun_mk (st := s_are_names) l3 c3 k3).binds (ps := ["thing"]) (fun _ _ _ _ _ _ us hl => match us, hl with | [_], _ => rfl),
    g_are_names := PySem.W.mg_of X G a3,
    f_are_rooms := fun_mk (st := s_are_rooms) l4 c4 k4,
    n_are_rooms := (fun_mk (st := s_are_rooms) l4 c4 k4).binds (ps := ["thing", "many"]) (fun _ _ _ _ _ _ us hl => match us, hl with | [_, _], _ => rfl),
    g_are_rooms := PySem.W.mg_of X G a4,
    f_is_tie := fun_mk (st := s_is_tie) l5 c5 k5,
    n_is_tie := (fun_mk (st := s_is_tie) l5 c5 k5).binds (ps := ["one", "other", "pairs"]) (fun _ _ _ _ _ _ us hl => match us, hl with | [_, _, _], _ => rfl),
    g_is_tie := PySem.W.mg_of X G a5,
    f_is_pair := fun_mk (st := s_is_pair) l6 c6 k6,
    n_is_pair := (fun_mk (st := s_is_pair) l6 c6 k6).binds (ps := ["one", "other", "thing"]) (fun _ _ _ _ _ _ us hl => match us, hl with | [_, _, _], _ => rfl),
    g_is_pair := PySem.W.mg_of X G a6,
    f_is_tied := fun_mk (st := s_is_tied) l7 c7 k7,
    n_is_tied := (fun_mk (st := s_is_tied) l7 c7 k7).binds (ps := ["one", "other", "tied", "pair"]) (fun _ _ _ _ _ _ us hl => match us, hl with | [_, _, _, _], _ => rfl),
    g_is_tied := PySem.W.mg_of X G a7,
    f_World_init := fun_mk (st := s_World_init) l8 c8 k8,
    n_World_init := (fun_mk (st := s_World_init) l8 c8 k8).binds (ps := ["self", "signs", "ways", "starts", "fair"]) (fun _ _ _ _ _ _ us hl => match us, hl with | [_, _, _, _, _], _ => rfl),
    m_World_init := ⟨a8, i8, k8⟩,
    f_World_many := fun_mk (st := s_World_many) l9 c9 k9,
    n_World_many := (fun_mk (st := s_World_many) l9 c9 k9).binds (ps := ["self"]) (fun _ _ _ _ _ _ us hl => match us, hl with | [_], _ => rfl),
    m_World_many := ⟨a9, i9, k9⟩,
    f_World_signs_of := fun_mk (st := s_World_signs_of) l10 c10 k10,
    n_World_signs_of := (fun_mk (st := s_World_signs_of) l10 c10 k10).binds (ps := ["self", "room"]) (fun _ _ _ _ _ _ us hl => match us, hl with | [_, _], _ => rfl),
    m_World_signs_of := ⟨a10, i10, k10⟩,
    f_World_ways_on := fun_mk (st := s_World_ways_on) l11 c11 k11,
    n_World_ways_on := (fun_mk (st := s_World_ways_on) l11 c11 k11).binds (ps := ["self", "room"]) (fun _ _ _ _ _ _ us hl => match us, hl with | [_, _], _ => rfl),
    m_World_ways_on := ⟨a11, i11, k11⟩,
    f_World_begins := fun_mk (st := s_World_begins) l12 c12 k12,
    n_World_begins := (fun_mk (st := s_World_begins) l12 c12 k12).binds (ps := ["self"]) (fun _ _ _ _ _ _ us hl => match us, hl with | [_], _ => rfl),
    m_World_begins := ⟨a12, i12, k12⟩,
    f_World_fair_signs := fun_mk (st := s_World_fair_signs) l13 c13 k13,
    n_World_fair_signs := (fun_mk (st := s_World_fair_signs) l13 c13 k13).binds (ps := ["self"]) (fun _ _ _ _ _ _ us hl => match us, hl with | [_], _ => rfl),
    m_World_fair_signs := ⟨a13, i13, k13⟩,
    f_makes_world := fun_mk (st := s_makes_world) l14 c14 k14,
    n_makes_world := (fun_mk (st := s_makes_world) l14 c14 k14).binds (ps := ["signs", "ways", "starts", "fair"]) (fun _ _ _ _ _ _ us hl => match us, hl with | [_, _, _, _], _ => rfl),
    g_makes_world := PySem.W.mg_of X G a14,
    f_are_some_rooms := fun_mk (st := s_are_some_rooms) l15 c15 k15,
    n_are_some_rooms := (fun_mk (st := s_are_some_rooms) l15 c15 k15).binds (ps := ["thing", "many"]) (fun _ _ _ _ _ _ us hl => match us, hl with | [_, _], _ => rfl),
    g_are_some_rooms := PySem.W.mg_of X G a15,
    f__law_cell_at := fun_mk (st := s__law_cell_at) l16 c16 k16,
    n__law_cell_at := (fun_mk (st := s__law_cell_at) l16 c16 k16).binds (ps := ["_law_script", "_law_k"]) (fun _ _ _ _ _ _ us hl => match us, hl with | [_, _], _ => rfl),
    g__law_cell_at := PySem.W.mg_of X G a16,
    f__law_stream := fun_mk (st := s__law_stream) l17 c17 k17,
    n__law_stream := (fun_mk (st := s__law_stream) l17 c17 k17).binds (ps := ["_law_cell", "_law_many"]) (fun _ _ _ _ _ _ us hl => match us, hl with | [_, _], _ => rfl),
    g__law_stream := PySem.W.mg_of X G a17,
    f__law_some := fun_mk (st := s__law_some) l18 c18 k18,
    n__law_some := (fun_mk (st := s__law_some) l18 c18 k18).binds (ps := ["_law_xs", "_law_most"]) (fun _ _ _ _ _ _ us hl => match us, hl with | [_, _], _ => rfl),
    g__law_some := PySem.W.mg_of X G a18,
    f__law_lists := fun_mk (st := s__law_lists) l19 c19 k19,
    n__law_lists := (fun_mk (st := s__law_lists) l19 c19 k19).binds (ps := ["_law_cell", "_law_most"]) (fun _ _ _ _ _ _ us hl => match us, hl with | [_, _], _ => rfl),
    g__law_lists := PySem.W.mg_of X G a19,
    f__law_twin := fun_mk (st := s__law_twin) l20 c20 k20,
    n__law_twin := (fun_mk (st := s__law_twin) l20 c20 k20).binds (ps := ["_law_lists_here", "_law_cell", "_law_more"]) (fun _ _ _ _ _ _ us hl => match us, hl with | [_, _, _], _ => rfl),
    g__law_twin := PySem.W.mg_of X G a20,
    f__law_made := fun_mk (st := s__law_made) l21 c21 k21,
    n__law_made := (fun_mk (st := s__law_made) l21 c21 k21).binds (ps := ["_law_lists_here"]) (fun _ _ _ _ _ _ us hl => match us, hl with | [_], _ => rfl),
    g__law_made := PySem.W.mg_of X G a21,
    f__law_turned := fun_mk (st := s__law_turned) l22 c22 k22,
    n__law_turned := (fun_mk (st := s__law_turned) l22 c22 k22).binds (ps := ["_law_lists_here", "_law_cell"]) (fun _ _ _ _ _ _ us hl => match us, hl with | [_, _], _ => rfl),
    g__law_turned := PySem.W.mg_of X G a22,
    f__law_two := fun_mk (st := s__law_two) l23 c23 k23,
    n__law_two := (fun_mk (st := s__law_two) l23 c23 k23).binds (ps := ["_law_script", "_law_most", "_law_more"]) (fun _ _ _ _ _ _ us hl => match us, hl with | [_, _, _], _ => rfl),
    g__law_two := PySem.W.mg_of X G a23,
    f__law_tied := fun_mk (st := s__law_tied) l24 c24 k24,
    n__law_tied := (fun_mk (st := s__law_tied) l24 c24 k24).binds (ps := ["_law_one", "_law_other"]) (fun _ _ _ _ _ _ us hl => match us, hl with | [_, _], _ => rfl),
    g__law_tied := PySem.W.mg_of X G a24,
    f__law_goes_on := fun_mk (st := s__law_goes_on) l25 c25 k25,
    n__law_goes_on := (fun_mk (st := s__law_goes_on) l25 c25 k25).binds (ps := ["_law_one", "_law_other", "_law_pair", "_law_pairs_here"]) (fun _ _ _ _ _ _ us hl => match us, hl with | [_, _, _, _], _ => rfl),
    g__law_goes_on := PySem.W.mg_of X G a25,
    f__law_pairs := fun_mk (st := s__law_pairs) l26 c26 k26,
    n__law_pairs := (fun_mk (st := s__law_pairs) l26 c26 k26).binds (ps := ["_law_one", "_law_other", "_law_cell"]) (fun _ _ _ _ _ _ us hl => match us, hl with | [_, _, _], _ => rfl),
    g__law_pairs := PySem.W.mg_of X G a26,
    f__law_is_tie := fun_mk (st := s__law_is_tie) l27 c27 k27,
    n__law_is_tie := (fun_mk (st := s__law_is_tie) l27 c27 k27).binds (ps := ["_law_one", "_law_other", "_law_pairs_here"]) (fun _ _ _ _ _ _ us hl => match us, hl with | [_, _, _], _ => rfl),
    g__law_is_tie := PySem.W.mg_of X G a27,
    f__law_each_alone := fun_mk (st := s__law_each_alone) l28 c28 k28,
    n__law_each_alone := (fun_mk (st := s__law_each_alone) l28 c28 k28).binds (ps := ["_law_one", "_law_cell"]) (fun _ _ _ _ _ _ us hl => match us, hl with | [_, _], _ => rfl),
    g__law_each_alone := PySem.W.mg_of X G a28,
    f_law := fun_mk (st := s_law) l29 c29 k29,
    n_law := (fun_mk (st := s_law) l29 c29 k29).binds (ps := ["_law_script"]) (fun _ _ _ _ _ _ us hl => match us, hl with | [_], _ => rfl),
    g_law := PySem.W.mg_of X G a29,
    b_ValueError := PySem.W.mg_none_of X G z_ValueError,
    b_all := PySem.W.mg_none_of X G z_all,
    b_len := PySem.W.mg_none_of X G z_len,
    b_range := PySem.W.mg_none_of X G z_range,
    b_isinstance := PySem.W.mg_none_of X G z_isinstance,
    b_int := PySem.W.mg_none_of X G z_int,
    b_list := PySem.W.mg_none_of X G z_list,
    b_tuple := PySem.W.mg_none_of X G z_tuple,
    b_bool := PySem.W.mg_none_of X G z_bool,
    b_str := PySem.W.mg_none_of X G z_str,
    b_set := PySem.W.mg_none_of X G z_set,
    b_any := PySem.W.mg_none_of X G z_any,
    b_sorted := PySem.W.mg_none_of X G z_sorted,
    c_LETTERS := ⟨_, PySem.W.mg_of X G x_LETTERS, ⟨_, rfl⟩⟩,
    c_MOST_LETTERS := ⟨_, PySem.W.mg_of X G x_MOST_LETTERS, ⟨_, rfl⟩⟩,
    c_MOST_ROOMS := ⟨_, PySem.W.mg_of X G x_MOST_ROOMS, ⟨_, rfl⟩⟩,
    c_MOST_FAIR := ⟨_, PySem.W.mg_of X G x_MOST_FAIR, ⟨_, rfl⟩⟩,
    cl_World := ⟨pg_World, hd_World, po_World, sa_World⟩,
    g_World := PySem.W.mg_of X G aC_World,
    mk_World := ⟨mk_World, a8, i8, kc_World⟩,
    na_World_room_signs := n_World_room_signs,
    na_World_room_ways := n_World_room_ways,
    na_World_start_rooms := n_World_start_rooms,
    na_World_fair_names := n_World_fair_names,
    g_TimeError := PySem.W.mg_of X G aC_TimeError,
    x_TimeError := xc_TimeError,
    g_BadWorld := PySem.W.mg_of X G aC_BadWorld,
    x_BadWorld := xc_BadWorld,
    k_BadWorld := ⟨xga_BadWorld, xgh_BadWorld, xob_BadWorld, xbe_BadWorld, xcl_BadWorld, xgt, xtk, xhd_BadWorld⟩ }
  exact ⟨PySem.W.fnOf "law" "law" (defArgs s_law) (defBody s_law) (defScope s_law) .none kV29 dc29 pm29 an29 cd29 ct29, fun s v => .of_eq rfl, fun base _ _ => ok_law T rfl⟩
theorem walk {l : PySem.W.OpenLaw} {q : Program} {loose : List Str} {XP : (Str → Option Value) → Heap → Prop} {YP : World → Heap → Prop} {d : DefRec} {K : Params → PySem.W.Frag} (hn : l.most = some 63) (hdf : d.params.defaults = [])
    (hY : ∀ (w : World) (h : Heap), YP w h → (K w.params).In h)
    (F : ∀ (w : World) (mg : Str → Option Value) (fa : Addr) (h : Heap), (K w.params).In h → h.Ns mainGlobals mg → mg d.name = some (.ref fa) →
      ∃ fd : FuncData, (∀ (s : Shared) (u : Value), BindsTo s fd ⟨[u], []⟩ [("_law_script", u)]) ∧ ∀ base : Heap, (K w.params).In base → base.Ns mainGlobals mg → FnOk l.prog w (K w.params) mg base CX0 10 fa fd ["_law_script"] (spL (K w.params))) :
    PySem.W.WalkO q loose XP YP l.row.toRowW d [] (fun f vs => PySem.call f vs) :=
  L2.walk_of (n := 63) (k := 10) (x := "_law_script") (CX := fun _ => CX0) (sp := fun w => spL (K w.params)) hn (by decide) hdf ⟨rfl, by decide, by decide⟩ hY F (fun _ _ a ns hl _ hS => ⟨a, ns, rfl, hS, hl, fun _ => rfl⟩) fun _ _ _ _ _ z => z
end KK
open PySem PySem.W PyProof.Rows
set_option maxRecDepth 100000 in
set_option maxHeartbeats 0 in
theorem PySem.Challenge.cw_timecourt_k66_ties_looked_at_holds : PySem.Challenge.rw_timecourt_k66_ties_looked_at.Holds := by
  w_on; o_law; k_head; (case hw => w_witness2)
  k_fill
  refine KK.walk (l := PySem.Challenge.rw_timecourt_k66_ties_looked_at) rfl rfl (fun w h Y => PySem.W.kIn_of Y) ?F
  case F =>
    intro w mg fa h KX G hmg
    have hmg2 : mg "law" = some (.ref fa) := hmg
    clear hmg
    refine' KK.all_mk KX G hmg2 ?aC_World ?aC_TimeError ?aC_BadWorld ?a0 ?l0 ?c0 ?k0 ?a1 ?l1 ?c1 ?k1 ?a2 ?l2 ?c2 ?k2 ?a3 ?l3 ?c3 ?k3 ?a4 ?l4 ?c4 ?k4 ?a5 ?l5 ?c5 ?k5 ?a6 ?l6 ?c6 ?k6 ?a7 ?l7 ?c7 ?k7 ?a8 ?i8 ?l8 ?c8 ?k8 ?a9 ?i9 ?l9 ?c9 ?k9 ?a10 ?i10 ?l10 ?c10 ?k10 ?a11 ?i11 ?l11 ?c11 ?k11 ?a12 ?i12 ?l12 ?c12 ?k12 ?a13 ?i13 ?l13 ?c13 ?k13 ?a14 ?l14 ?c14 ?k14 ?a15 ?l15 ?c15 ?k15 ?a16 ?l16 ?c16 ?k16 ?a17 ?l17 ?c17 ?k17 ?a18 ?l18 ?c18 ?k18 ?a19 ?l19 ?c19 ?k19 ?a20 ?l20 ?c20 ?k20 ?a21 ?l21 ?c21 ?k21 ?a22 ?l22 ?c22 ?k22 ?a23 ?l23 ?c23 ?k23 ?a24 ?l24 ?c24 ?k24 ?a25 ?l25 ?c25 ?k25 ?a26 ?l26 ?c26 ?k26 ?a27 ?l27 ?c27 ?k27 ?a28 ?l28 ?c28 ?k28 ?a29 ?l29 ?c29 ?k29 ?pg_World ?hd_World ?po_World ?sa_World ?mk_World ?kc_World ?n_World_room_signs ?n_World_room_ways ?n_World_start_rooms ?n_World_fair_names ?z_ValueError ?z_all ?z_len ?z_range ?z_isinstance ?z_int ?z_list ?z_tuple ?z_bool ?z_str ?z_set ?z_any ?z_sorted ?x_LETTERS ?x_MOST_LETTERS ?x_MOST_ROOMS ?x_MOST_FAIR ?xc_TimeError ?xc_BadWorld ?xgt ?xtk ?xga_BadWorld ?xgh_BadWorld ?xob_BadWorld ?xbe_BadWorld ?xcl_BadWorld ?xhd_BadWorld
    (case aC_World => k_is)
    (case aC_TimeError => k_is)
    (case aC_BadWorld => k_is)
    (case a0 => k_is)
    (case l0 => k_is)
    (case c0 => k_is)
    (case k0 => k_is)
    (case a1 => k_is)
    (case l1 => k_is)
    (case c1 => k_is)
    (case k1 => k_is)
    (case a2 => k_is)
    (case l2 => k_is)
    (case c2 => k_is)
    (case k2 => k_is)
    (case a3 => k_is)
    (case l3 => k_is)
    (case c3 => k_is)
    (case k3 => k_is)
    (case a4 => k_is)
    (case l4 => k_is)
    (case c4 => k_is)
    (case k4 => k_is)
    (case a5 => k_is)
    (case l5 => k_is)
    (case c5 => k_is)
    (case k5 => k_is)
    (case a6 => k_is)
    (case l6 => k_is)
    (case c6 => k_is)
    (case k6 => k_is)
    (case a7 => k_is)
    (case l7 => k_is)
    (case c7 => k_is)
    (case k7 => k_is)
    (case a8 => k_is)
    (case i8 => k_is)
    (case l8 => k_is)
    (case c8 => k_is)
    (case k8 => k_is)
    (case a9 => k_is)
    (case i9 => k_is)
    (case l9 => k_is)
    (case c9 => k_is)
    (case k9 => k_is)
    (case a10 => k_is)
    (case i10 => k_is)
    (case l10 => k_is)
    (case c10 => k_is)
    (case k10 => k_is)
    (case a11 => k_is)
    (case i11 => k_is)
    (case l11 => k_is)
    (case c11 => k_is)
    (case k11 => k_is)
    (case a12 => k_is)
    (case i12 => k_is)
    (case l12 => k_is)
    (case c12 => k_is)
    (case k12 => k_is)
    (case a13 => k_is)
    (case i13 => k_is)
    (case l13 => k_is)
    (case c13 => k_is)
    (case k13 => k_is)
    (case a14 => k_is)
    (case l14 => k_is)
    (case c14 => k_is)
    (case k14 => k_is)
    (case a15 => k_is)
    (case l15 => k_is)
    (case c15 => k_is)
    (case k15 => k_is)
    (case a16 => k_is)
    (case l16 => k_is)
    (case c16 => k_is)
    (case k16 => k_is)
    (case a17 => k_is)
    (case l17 => k_is)
    (case c17 => k_is)
    (case k17 => k_is)
    (case a18 => k_is)
    (case l18 => k_is)
    (case c18 => k_is)
    (case k18 => k_is)
    (case a19 => k_is)
    (case l19 => k_is)
    (case c19 => k_is)
    (case k19 => k_is)
    (case a20 => k_is)
    (case l20 => k_is)
    (case c20 => k_is)
    (case k20 => k_is)
    (case a21 => k_is)
    (case l21 => k_is)
    (case c21 => k_is)
    (case k21 => k_is)
    (case a22 => k_is)
    (case l22 => k_is)
    (case c22 => k_is)
    (case k22 => k_is)
    (case a23 => k_is)
    (case l23 => k_is)
    (case c23 => k_is)
    (case k23 => k_is)
    (case a24 => k_is)
    (case l24 => k_is)
    (case c24 => k_is)
    (case k24 => k_is)
    (case a25 => k_is)
    (case l25 => k_is)
    (case c25 => k_is)
    (case k25 => k_is)
    (case a26 => k_is)
    (case l26 => k_is)
    (case c26 => k_is)
    (case k26 => k_is)
    (case a27 => k_is)
    (case l27 => k_is)
    (case c27 => k_is)
    (case k27 => k_is)
    (case a28 => k_is)
    (case l28 => k_is)
    (case c28 => k_is)
    (case k28 => k_is)
    (case a29 => k_is)
    (case l29 => k_is)
    (case c29 => k_is)
    (case k29 => k_is)
    (case pg_World => k_is)
    (case hd_World => k_is)
    (case po_World => k_is)
    (case sa_World => k_is)
    (case mk_World => k_is)
    (case kc_World => k_is)
    (case n_World_room_signs => k_is)
    (case n_World_room_ways => k_is)
    (case n_World_start_rooms => k_is)
    (case n_World_fair_names => k_is)
    (case z_ValueError => k_is)
    (case z_all => k_is)
    (case z_len => k_is)
    (case z_range => k_is)
    (case z_isinstance => k_is)
    (case z_int => k_is)
    (case z_list => k_is)
    (case z_tuple => k_is)
    (case z_bool => k_is)
    (case z_str => k_is)
    (case z_set => k_is)
    (case z_any => k_is)
    (case z_sorted => k_is)
    (case x_LETTERS => k_is)
    (case x_MOST_LETTERS => k_is)
    (case x_MOST_ROOMS => k_is)
    (case x_MOST_FAIR => k_is)
    (case xc_TimeError => k_exc)
    (case xc_BadWorld => k_exc)
    (case xgt => k_is)
    (case xtk => k_is)
    (case xga_BadWorld => k_is)
    (case xgh_BadWorld => k_is)
    (case xob_BadWorld => k_is)
    (case xbe_BadWorld => k_is)
    (case xcl_BadWorld => k_is)
    (case xhd_BadWorld => k_is)

