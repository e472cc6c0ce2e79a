import PyProof.Rows.All
import Wide.All
import OpenK.AllK
import Wide.FinOn
import Lean
import PyProof.EqAt
import PyProof.EqKinds
import PyProof.TupleCall
import PySem.Challenge.RW_timecourt_k02_what_makes_no_world
set_option Elab.async false
set_option linter.all false
set_option maxRecDepth 100000
/-! THE HAND LAYER, for ints, bools, texts, own classes, LISTS and tuples (index, slices, in, append, pop ..), calls, loops. Paste it whole ahead of your own text; what your proof does not reach may be deleted. -/
namespace L2
open PySem PySem.Spec PyProof.Rows

/-- a key: an int or a str -/
abbrev Key := Sum Int Str
def keyIs : Key → Value → Bool
  | .inl k, v => Value.isInt k v
  | .inr x, v => Value.isStrOf x v
def keyH (w : World) : Key → Int
  | .inl k => hashInt k
  | .inr x => hashStr w x
theorem keyIs_shape : ∀ {k : Key} {v : Value}, keyIs k v = true → (∃ i t, k = Sum.inl i ∧ v = Value.int i t) ∨ (∃ x t, k = Sum.inr x ∧ v = Value.str x t)
  | .inl i, v, h => by
    obtain ⟨t, e⟩ := Value.isInt_shape (k := i) (v := v) h
    exact .inl ⟨i, t, rfl, e⟩
  | .inr x, v, h => by
    obtain ⟨t, e⟩ := Value.isStrOf_shape (x := x) (v := v) h
    exact .inr ⟨x, t, rfl, e⟩
theorem keyIs_int (i : Int) (t : Tok) : keyIs (.inl i) (.int i t) = true := by simp [keyIs, Value.isInt]
theorem keyIs_str (x : Str) (t : Tok) : keyIs (.inr x) (.str x t) = true := by simp [keyIs, Value.isStrOf]
theorem key_ll (a b : Int) : decide ((Sum.inl a : Key) = Sum.inl b) = (a == b) := by
  by_cases e : a = b
  · subst e; simp
  · have h : ¬ (Sum.inl a : Key) = Sum.inl b := fun q => e (Sum.inl.inj q)
    rw [decide_eq_false h]
    exact (beq_eq_false_iff_ne.mpr e).symm
theorem key_rr (a b : Str) : decide ((Sum.inr a : Key) = Sum.inr b) = decide (a = b) := by
  by_cases e : a = b
  · subst e; simp
  · have h : ¬ (Sum.inr a : Key) = Sum.inr b := fun q => e (Sum.inr.inj q)
    rw [decide_eq_false h, decide_eq_false e]
theorem key_lr (a : Int) (b : Str) : decide ((Sum.inl a : Key) = Sum.inr b) = false := decide_eq_false (fun q => nomatch q)
theorem key_rl (a : Str) (b : Int) : decide ((Sum.inr a : Key) = Sum.inl b) = false := decide_eq_false (fun q => nomatch q)

def mixKind (prog : Program) (w : World) : PySem.KeyKind prog w Key where
  is := keyIs
  hash := keyH w
  inj := fun v a b ha hb => by
    rcases keyIs_shape ha with ⟨i, t, rfl, rfl⟩ | ⟨x, t, rfl, rfl⟩
    · rcases keyIs_shape hb with ⟨j, u, rfl, e⟩ | ⟨y, u, rfl, e⟩
      · injection e with e1 _; rw [e1]
      · exact nomatch e
    · rcases keyIs_shape hb with ⟨j, u, rfl, e⟩ | ⟨y, u, rfl, e⟩
      · exact nomatch e
      · injection e with e1 _; rw [e1]
  byValue := fun k v h => by
    rcases keyIs_shape h with ⟨i, t, rfl, rfl⟩ | ⟨x, t, rfl, rfl⟩ <;> rfl
  pyHash := fun hv h => by
    rcases keyIs_shape hv with ⟨i, t, rfl, rfl⟩ | ⟨x, t, rfl, rfl⟩
    · exact wpAny_pyHash_int h
    · exact wpAny_pyHash_str h
  eqBool := fun hu hv h => by
    rcases keyIs_shape hu with ⟨i, t, rfl, rfl⟩ | ⟨x, t, rfl, rfl⟩
    · rcases keyIs_shape hv with ⟨j, u, rfl, rfl⟩ | ⟨y, u, rfl, rfl⟩
      · rw [key_ll] at h; exact wpAny_eqBool_int h
      · rw [key_lr] at h; exact SeqAt.EqAt.int_str i t y u _ _ _ _ h
    · rcases keyIs_shape hv with ⟨j, u, rfl, rfl⟩ | ⟨y, u, rfl, rfl⟩
      · rw [key_rl] at h; exact SeqAt.EqAt.str_int x t j u _ _ _ _ h
      · rw [key_rr] at h; exact wpAny_eqBool_str h
  «strs» := fun k x t v h => by
    rcases keyIs_shape h with ⟨i, u, rfl, e⟩ | ⟨y, u, rfl, e⟩
    · exact nomatch e
    · injection e with e1 _
      subst e1
      cases v <;> rfl

theorem mixKind_int (prog : Program) (w : World) (i : Int) (t : Tok) : (mixKind prog w).is (.inl i) (.int i t) = true := keyIs_int i t
theorem mixKind_str (prog : Program) (w : World) (x : Str) (t : Tok) : (mixKind prog w).is (.inr x) (.str x t) = true := keyIs_str x t
end L2

namespace L2
open PySem PySem.Spec PyProof.Rows

/-- a value, without the heap -/
inductive V where
  | non | bl (b : Bool) | int (i : Int) | str (x : Str) | byt (b : Array UInt8) | flt (b : UInt64) | ref (a : Addr) | ty (n : String)
  deriving DecidableEq

def RelV : V → Value → Prop
  | .non, u => u = Value.none
  | .bl b, u => u = Value.bool b
  | .int i, u => ∃ t, u = Value.int i t
  | .str x, u => ∃ t, u = Value.str x t
  | .byt b, u => ∃ t, u = Value.bytes b t
  | .flt b, u => ∃ t, u = Value.float b t
  | .ref a, u => u = Value.ref a
  | .ty n, u => u = Value.type n

abbrev Vals : List V → List Value → Prop := Paired RelV
theorem Vals.length {xs : List V} {us : List Value} (r : Vals xs us) : xs.length = us.length := Paired.length r
theorem Vals.get : ∀ {xs : List V} {us : List Value} {i : Nat} {x : V}, Vals xs us → xs[i]? = some x → ∃ u, us[i]? = some u ∧ RelV x u
  | _, _, _, _, .nil, e => by simp at e
  | _, _, 0, _, .cons r _, e => by simp at e; subst e; exact ⟨_, rfl, r⟩
  | _, _, i + 1, x, .cons _ t, e => by
    obtain ⟨u, h1, h2⟩ := Vals.get (i := i) (x := x) t (by simpa using e)
    exact ⟨u, by simpa using h1, h2⟩
theorem Vals.set {x : V} {u : Value} (r : RelV x u) : ∀ {xs : List V} {us : List Value} (i : Nat), Vals xs us → Vals (xs.set i x) (us.set i u)
  | _, _, _, .nil => .nil
  | _, _, 0, .cons _ t => .cons r t
  | _, _, i + 1, .cons q t => .cons q (Vals.set r i t)
theorem Vals.append : ∀ {xs ys : List V} {us ws : List Value}, Vals xs us → Vals ys ws → Vals (xs ++ ys) (us ++ ws)
  | _, _, _, _, .nil, s => s
  | _, _, _, _, .cons r t, s => .cons r (Vals.append t s)
theorem Vals.take : ∀ {xs : List V} {us : List Value} (n : Nat), Vals xs us → Vals (xs.take n) (us.take n)
  | _, _, 0, _ => .nil
  | _, _, _ + 1, .nil => .nil
  | _, _, n + 1, .cons r t => .cons r (Vals.take n t)
theorem Vals.drop : ∀ {xs : List V} {us : List Value} (n : Nat), Vals xs us → Vals (xs.drop n) (us.drop n)
  | _, _, 0, r => r
  | _, _, _ + 1, .nil => .nil
  | _, _, n + 1, .cons _ t => Vals.drop n t
theorem Vals.none_of : ∀ {xs : List V} {us : List Value} {i : Nat}, Vals xs us → xs[i]? = none → us[i]? = none := fun {xs us i} r e => by
  have h1 := r.length
  have h2 : xs.length ≤ i := List.getElem?_eq_none_iff.mp e
  exact List.getElem?_eq_none_iff.mpr (by omega)

def RelO : Option V → Option Value → Prop
  | some v, some u => RelV v u
  | none, none => True
  | _, _ => False
def KV {κ : Type} : List (κ × V) → List (κ × Value) → Prop := Paired fun (p : κ × V) (q : κ × Value) => p.1 = q.1 ∧ RelV p.2 q.2

/-- a key of a dict (00_mix): an int or a text -/
def kV : Key → V
  | .inl i => .int i
  | .inr x => .str x

/-- what stands at a tracked address -/
inductive HO where
  /-- a list -/
  | lst (xs : List V)
  /-- a tuple (never changes) -/
  | tup (xs : List V)
  /-- a dict whose keys are ints and texts; one whose keys are tuples of ints and texts (the empty one is both) -/
  | dK (kvs : List (Key × V)) | dT (kvs : List (List Key × V))
  /-- a set of ints: its members, its size -/
  | set (S : Int → Bool) (n : Nat)
  /-- an instance of the class at C, its dict at dx, its attributes -/
  | ins (C dx : Addr) (fs : List (Str × V))
  /-- the dict of the instance at x -/
  | own (x : Addr)
  /-- the dict of an exception -/
  | xd (fs : List (Str × V))
  /-- a bound method, f of x -/
  | met (f x : Addr)
  /-- a range object lo, lo + 1, .. below hi -/
  | rng (lo hi : Int)
  /-- a thing that is known to the object (the script; a dict while a loop walks it): read, never written while it is so -/
  | frz (o : Obj) (u : HO)
  /-- a code object's table -/
  | tbl (ps : Array Value)
  /-- any other thing, by what is true of its one object (a def of one's own: SetO a S n := HO.ext fun h => ..) -/
  | ext (φ : Heap → Prop)

abbrev Hp := Addr → Option HO
def upd (H : Hp) (a : Addr) (o : HO) : Hp := fun b => if b = a then some o else H b
theorem upd_same {H : Hp} {a : Addr} {o : HO} : upd H a o a = some o := by unfold upd; rw [if_pos rfl]
theorem upd_ne {H : Hp} {a b : Addr} {o : HO} (h : b ≠ a) : upd H a o b = H b := by unfold upd; rw [if_neg h]
/-- two objects of different content stand apart -/
theorem ne_of {H : Hp} {a b : Addr} {o u : HO} (h : H a = some o) (h' : H b = some u) (d : o ≠ u) : a ≠ b := by
  intro e; subst e; rw [h] at h'; exact d (Option.some.inj h')
theorem ne_of_none {H : Hp} {a b : Addr} {o : HO} (h : H a = some o) (h' : H b = none) : a ≠ b := by
  intro e; subst e; rw [h] at h'; cases h'

section
variable (P : Program) (w : World)
def ObjOk (H : Hp) (h : Heap) (a : Addr) : HO → Prop
  | .lst xs => xs.length ≤ sizeLine ∧ ∃ (its : List Value) (n : Nat), Vals xs its ∧ h.get? a = some { cls := .type "list", data := .seq its.toArray n }
  | .tup xs => xs.length ≤ sizeLine ∧ ∃ its : List Value, Vals xs its ∧ IsTup h a its.toArray
  | .dK kvs => kvs.length ≤ sizeLine ∧ (a == sysModules) = false ∧ ∃ vs, KV kvs vs ∧ h.DictOf (mixKind P w) a vs
  | .dT kvs => kvs.length ≤ sizeLine ∧ (a == sysModules) = false ∧ ∃ xs : List (List Key × Addr × Value),
      Paired (fun (p : List Key × V) (q : List Key × Addr × Value) => p.1 = q.1 ∧ H q.2.1 = some (.tup (p.1.map kV)) ∧ RelV p.2 q.2.2) kvs xs ∧
      ∃ o es ep, h.get? a = some o ∧ o.ExactDict ∧ o.data = .dict es ep ∧ es.toList = xs.map (entryOfKey (tupleKind (mixKind P w))) ∧ (xs.map (·.1)).Nodup
  | .set S n => h.SetOf (intKind P w) a S n
  | .ins C dx fs => H dx = some (.own a) ∧ fs.length ≤ 1000 ∧ dx ≠ a ∧ h.get? a = some (PySem.W.instObj C dx) ∧
      ∃ mA, h.Ns1 dx mA ∧ (∀ f, RelO (fs.lookup f) (mA f)) ∧ PySem.Within mA (fs.map (·.1))
  | .own _ => ∃ o, h.get? a = some o
  | .xd fs => ∃ mA, h.Ns1 a mA ∧ ∀ f, RelO (fs.lookup f) (mA f)
  | .rng lo hi => ∃ t u v, h.get? a = some { cls := .type "range", data := .fields #[.int lo t, .int hi u, .int 1 v] }
  | .frz o u => h.get? a = some o ∧ ObjOk H h a u
  | .tbl ps => h.get? a = some { cls := .none, data := .fields ps }
  | .met f x => h.get? a = some (PySem.W.methodObj (.ref f) (.ref x))
  | .ext φ => φ h ∧ (∃ o, h.get? a = some o) ∧ ∀ h1 h2 : Heap, φ h1 → (∀ o, h1.get? a = some o → h2.get? a = some o) → φ h2
/-- the abstract heap is held -/
def HOk (H : Hp) (h : Heap) : Prop := ∀ a o, H a = some o → ObjOk P w H h a o
end

section
variable {P : Program} {w : World} {H H' : Hp} {h h' : Heap} {a : Addr} {o : HO}
theorem ObjOk.lt (x : ObjOk P w H h a o) : a < h.objs.size := by
  cases o with
  | lst xs => obtain ⟨_, _, _, _, e⟩ := x; exact Heap.lt_size e
  | tup xs => obtain ⟨_, _, _, p⟩ := x; exact p.lt
  | dK kvs => obtain ⟨_, _, _, _, o, _, _, e, _⟩ := x; exact Heap.lt_size e
  | dT kvs => obtain ⟨_, _, _, _, o, _, _, e, _⟩ := x; exact Heap.lt_size e
  | set S n => obtain ⟨o, _, _, _, e, _⟩ := x; exact Heap.lt_size e
  | ins C dx fs => obtain ⟨_, _, _, e, _⟩ := x; exact Heap.lt_size e
  | own y => obtain ⟨_, e⟩ := x; exact Heap.lt_size e
  | xd fs => obtain ⟨_, ⟨_, _, _, e, _⟩, _⟩ := x; exact Heap.lt_size e
  | rng lo hi => obtain ⟨_, _, _, e⟩ := x; exact Heap.lt_size e
  | frz ob u => obtain ⟨e, _⟩ := x; exact Heap.lt_size e
  | tbl ps => exact Heap.lt_size (show h.get? a = some _ from x)
  | met f y => exact Heap.lt_size (show h.get? a = some _ from x)
  | ext φ => obtain ⟨_, ⟨_, e⟩, _⟩ := x; exact Heap.lt_size e
theorem Paired.mapP {α β : Type} {F G : α → β → Prop} : ∀ {l₁ : List α} {l₂ : List β}, Paired F l₁ l₂ → (∀ a b, F a b → G a b) → Paired G l₁ l₂
  | _, _, .nil, _ => .nil
  | _, _, .cons r t, f => .cons (f _ _ r) (Paired.mapP t f)
/-- what an object's description leans on: its own object, its own dict, the tuples -/
theorem ObjOk.stay (x : ObjOk P w H h a o) (k : ∀ b u, (b = a ∨ H b = some (.own a)) → h.get? b = some u → h'.get? b = some u)
    (ho : ∀ b, H b = some (.own a) → H' b = some (.own a)) (ht : ∀ b xs, H b = some (.tup xs) → H' b = some (.tup xs)) : ObjOk P w H' h' a o := by
  induction o with
  | lst xs => obtain ⟨z, its, n, r, e⟩ := x; exact ⟨z, its, n, r, k _ _ (.inl rfl) e⟩
  | tup xs => obtain ⟨z, its, r, ob, e, c⟩ := x; exact ⟨z, its, r, ob, k _ _ (.inl rfl) e, c⟩
  | dK kvs => obtain ⟨z, y, vs, r, ob, es, ep, e, c⟩ := x; exact ⟨z, y, vs, r, ob, es, ep, k _ _ (.inl rfl) e, c⟩
  | dT kvs =>
    obtain ⟨z, y, xs, r, ob, es, ep, e, c⟩ := x
    exact ⟨z, y, xs, Paired.mapP r fun p q z => ⟨z.1, ht _ _ z.2.1, z.2.2⟩, ob, es, ep, k _ _ (.inl rfl) e, c⟩
  | set S n => obtain ⟨ob, es, ep, t, e, c⟩ := x; exact ⟨ob, es, ep, t, k _ _ (.inl rfl) e, c⟩
  | ins C dx fs =>
    obtain ⟨d, z, ne, e, mA, ⟨od, es, ep, e2, c⟩, r⟩ := x
    exact ⟨ho _ d, z, ne, k _ _ (.inl rfl) e, mA, ⟨od, es, ep, k _ _ (.inr d) e2, c⟩, r⟩
  | own y => obtain ⟨ob, e⟩ := x; exact ⟨ob, k _ _ (.inl rfl) e⟩
  | xd fs => obtain ⟨mA, ⟨od, es, ep, e, c⟩, r⟩ := x; exact ⟨mA, ⟨od, es, ep, k _ _ (.inl rfl) e, c⟩, r⟩
  | rng lo hi => obtain ⟨t, u, v, e⟩ := x; exact ⟨t, u, v, k _ _ (.inl rfl) e⟩
  | frz ob u ih => obtain ⟨e, q⟩ := x; exact ⟨k _ _ (.inl rfl) e, ih q⟩
  | tbl ps =>
    have e : h.get? a = some { cls := .none, data := .fields ps } := x
    show h'.get? a = some { cls := .none, data := .fields ps }
    exact k a _ (.inl rfl) e
  | met f y =>
    have e : h.get? a = some (PySem.W.methodObj (.ref f) (.ref y)) := x
    show h'.get? a = some (PySem.W.methodObj (.ref f) (.ref y))
    exact k a _ (.inl rfl) e
  | ext φ => obtain ⟨p, ⟨o, e⟩, st⟩ := x; exact ⟨st _ _ p fun o q => k _ _ (.inl rfl) q, ⟨o, k _ _ (.inl rfl) e⟩, st⟩
theorem HOk.lt (x : HOk P w H h) (e : H a = some o) : a < h.objs.size := (x a o e).lt
theorem HOk.fresh (x : HOk P w H h) (e : h.objs.size ≤ a) : H a = none := by
  cases q : H a with
  | none => rfl
  | some u => exact absurd (Nat.lt_of_lt_of_le (x.lt q) e) (Nat.lt_irrefl _)
/-- every object of the heap is kept -/
theorem HOk.kept (x : HOk P w H h) (k : ∀ b u, h.get? b = some u → h'.get? b = some u) : HOk P w H h' := fun a o e =>
  (x a o e).stay (fun b u _ q => k b u q) (fun _ q => q) fun _ _ q => q
/-- a new object is laid and tracked -/
theorem HOk.laid (x : HOk P w H h) (k : ∀ b u, h.get? b = some u → h'.get? b = some u) (hp : h.objs.size ≤ a) (new : ObjOk P w (upd H a o) h' a o) : HOk P w (upd H a o) h' := fun b u e => by
  have hn := x.fresh hp
  by_cases hb : b = a
  · subst hb; rw [upd_same] at e; cases e; exact new
  · rw [upd_ne hb] at e
    exact (x b u e).stay (fun c v _ q => k c v q) (fun c q => by rw [upd_ne (ne_of_none q hn)]; exact q) fun c xs q => by rw [upd_ne (ne_of_none q hn)]; exact q
end

/-- what may be read as u: it is u, or a known u -/
def Rd (H : Hp) (a : Addr) (u : HO) : Prop := H a = some u ∨ ∃ o, H a = some (.frz o u)
theorem Rd.of {H : Hp} {a : Addr} {u : HO} (h : H a = some u) : Rd H a u := .inl h
theorem Rd.ok {P : Program} {w : World} {H : Hp} {h : Heap} {a : Addr} {u : HO} (r : Rd H a u) (x : HOk P w H h) : ObjOk P w H h a u := by
  rcases r with r | ⟨o, r⟩
  · exact x a u r
  · obtain ⟨_, q⟩ := x a _ r
    exact q
/-- what may be written -/
def Mut : Option HO → Prop
  | some (.lst _) => True
  | some (.dK _) => True
  | some (.dT _) => True
  | some (.set _ _) => True
  | some (.ins _ _ _) => True
  | some (.ext _) => True
  | _ => False
section
variable {P : Program} {w : World} {H : Hp} {h h' : Heap} {x e : Addr} {o' : HO}
/-- the object at e is changed: x itself, or the dict of the instance x -/
theorem HOk.write (ok : HOk P w H h) (mu : Mut (H x)) (he : e = x ∨ H e = some (.own x)) (k : ∀ b u, b ≠ e → h.get? b = some u → h'.get? b = some u) (heo : ∃ u, h'.get? e = some u)
    (new : ObjOk P w (upd H x o') h' x o') : HOk P w (upd H x o') h' := fun b u q => by
  have nown : ∀ c y, H c = some (.own y) → c ≠ x := fun c y r z => by subst z; rw [r] at mu; exact mu
  have ntup : ∀ c xs, H c = some (.tup xs) → c ≠ x := fun c xs r z => by subst z; rw [r] at mu; exact mu
  by_cases hb : b = x
  · subst hb; rw [upd_same] at q; cases q; exact new
  · rw [upd_ne hb] at q
    by_cases hbe : b = e
    · have q' : H b = some (.own x) := by
        rcases he with z | z
        · exact absurd (hbe.trans z) hb
        · rw [hbe]; exact z
      rw [q] at q'; cases q'
      obtain ⟨v, hv⟩ := heo
      exact ⟨v, by rw [hbe]; exact hv⟩
    · refine (ok b u q).stay (fun c v hc r => k c v ?_ r) (fun c r => by rw [upd_ne (nown c b r)]; exact r) fun c xs r => by rw [upd_ne (ntup c xs r)]; exact r
      rcases hc with rfl | hc
      · exact hbe
      · rintro rfl
        rcases he with z | z
        · exact nown c b hc z
        · rw [hc] at z; cases z; exact hb rfl
end

/-! ### kept unless tracked; of the frames at fs (the callers') the slots may change (an exception that passes writes there); of the records at ex (iterators) nothing is said -/
structure Un (fs ex : List Addr) (H H' : Hp) (h h' : Heap) : Prop where
  keep : ∀ b o, h.get? b = some o → H b = none → b ∉ fs → b ∉ ex → h'.get? b = some o
  slot : ∀ b o, h.get? b = some o → H b = none → b ∈ fs → b ∉ ex → ∃ sl, h'.get? b = some { o with slots := sl }
  free : ∀ b o, h.get? b = some o → H b = none → b ∉ ex → H' b = none
  there : ∀ b o, h.get? b = some o → b ∉ ex → ∃ o', h'.get? b = some o'
  tups : ∀ b xs, H b = some (.tup xs) → H' b = some (.tup xs)
  frzs : ∀ b o u, H b = some (.frz o u) → H' b = some (.frz o u)
  tbls : ∀ b ps, H b = some (.tbl ps) → ∃ more, H' b = some (.tbl (ps ++ more))
section
variable {fs fs' ex ex' : List Addr} {H H1 H2 : Hp} {h h1 h2 h' : Heap} {a x e : Addr} {o : HO}
theorem Un.any (u : Un fs ex H H1 h h1) {b : Addr} {ob : Obj} (q : h.get? b = some ob) (n : H b = none) (hx : b ∉ ex) : ∃ sl, h1.get? b = some { ob with slots := sl } := by
  by_cases hb : b ∈ fs
  · exact u.slot b ob q n hb hx
  · exact ⟨ob.slots, u.keep b ob q n hb hx⟩
theorem Un.trans (a : Un fs ex H H1 h h1) (b : Un fs ex H1 H2 h1 h2) : Un fs ex H H2 h h2 where
  keep := fun c ob q n hc hx => b.keep c ob (a.keep c ob q n hc hx) (a.free c ob q n hx) hc hx
  slot := fun c ob q n hc hx => by
    obtain ⟨sl, e1⟩ := a.slot c ob q n hc hx
    obtain ⟨sl', e2⟩ := b.slot c _ e1 (a.free c ob q n hx) hc hx
    exact ⟨sl', e2⟩
  free := fun c ob q n hx => by
    obtain ⟨o', e1⟩ := a.there c ob q hx
    exact b.free c o' e1 (a.free c ob q n hx) hx
  there := fun c ob q hx => by
    obtain ⟨o', e1⟩ := a.there c ob q hx
    exact b.there c o' e1 hx
  tups := fun c xs q => b.tups c xs (a.tups c xs q)
  frzs := fun c ob xs q => b.frzs c ob xs (a.frzs c ob xs q)
  tbls := fun c ps q => by
    obtain ⟨m1, e1⟩ := a.tbls c ps q
    obtain ⟨m2, e2⟩ := b.tbls c _ e1
    exact ⟨m1 ++ m2, by rw [e2, Array.append_assoc]⟩
theorem Un.kept (k : ∀ b u, h.get? b = some u → h'.get? b = some u) : Un fs ex H H h h' :=
  ⟨fun b ob q _ _ _ => k b ob q, fun b ob q _ _ _ => ⟨ob.slots, k b ob q⟩, fun _ _ _ n _ => n, fun b ob q _ => ⟨ob, k b ob q⟩, fun _ _ q => q, fun _ _ _ q => q, fun _ ps q => ⟨#[], by rw [q]; simp⟩⟩
theorem Un.refl : Un fs ex H H h h := Un.kept fun _ _ q => q
theorem Un.laid (k : ∀ b u, h.get? b = some u → h'.get? b = some u) (hp : h.objs.size ≤ a) (hn : H a = none) : Un fs ex H (upd H a o) h h' where
  keep := fun b u q _ _ _ => k b u q
  slot := fun b u q _ _ _ => ⟨u.slots, k b u q⟩
  free := fun b u q n _ => by rw [upd_ne (Nat.ne_of_lt (Nat.lt_of_lt_of_le (Heap.lt_size q) hp))]; exact n
  there := fun b u q _ => ⟨u, k b u q⟩
  tups := fun b xs q => by rw [upd_ne (ne_of_none q hn)]; exact q
  frzs := fun b u xs q => by rw [upd_ne (ne_of_none q hn)]; exact q
  tbls := fun b ps q => ⟨#[], by rw [upd_ne (ne_of_none q hn), q]; simp⟩
theorem Un.write (mu : Mut (H x)) (he : e = x ∨ H e = some (.own x)) (k : ∀ b u, b ≠ e → h.get? b = some u → h'.get? b = some u) (heo : ∃ u, h'.get? e = some u) : Un fs ex H (upd H x o) h h' := by
  have hx : ∀ b, H b = none → b ≠ x := fun b n z => by subst z; rw [n] at mu; exact mu
  have hb : ∀ b, H b = none → b ≠ e := fun b n z => by
    subst z
    rcases he with r | r
    · exact hx b n r
    · rw [n] at r; cases r
  have hm : ∀ b u, H b = some u → ¬ Mut (some u) → b ≠ x := fun b u q nm z => by subst z; rw [q] at mu; exact nm mu
  refine ⟨fun b u q n _ _ => k b u (hb b n) q, fun b u q n _ _ => ⟨u.slots, k b u (hb b n) q⟩, fun b u q n _ => by rw [upd_ne (hx b n)]; exact n, fun b u q _ => ?_,
    fun b xs q => by rw [upd_ne (hm b _ q fun z => z)]; exact q, fun b u xs q => by rw [upd_ne (hm b _ q fun z => z)]; exact q, fun b ps q => ⟨#[], by rw [upd_ne (hm b _ q fun z => z), q]; simp⟩⟩
  by_cases hbe : b = e
  · subst hbe; exact heo
  · exact ⟨u, k b u hbe q⟩
theorem Un.mono (u : Un fs ex H H1 h h1) (hs : ∀ b ∈ fs, b ∈ fs') (hx : ∀ b ∈ ex, b ∈ ex') : Un fs' ex' H H1 h h1 :=
  ⟨fun b ob q n hb he => u.keep b ob q n (fun z => hb (hs b z)) fun z => he (hx b z), fun _ _ q n _ he => u.any q n fun z => he (hx _ z), fun b ob q n he => u.free b ob q n fun z => he (hx b z), fun b ob q he => u.there b ob q fun z => he (hx b z), u.tups, u.frzs, u.tbls⟩
end

/-! ### the heap without what is tracked -/
def trk (h : Heap) (H : Hp) : List Addr := (List.range h.objs.size).filter fun a => (H a).isSome
def hidT (h : Heap) (H : Hp) : Heap := PySem.W.hideAll h (trk h H)
theorem hidT_size (h : Heap) (H : Hp) : (hidT h H).objs.size = h.objs.size := PySem.W.hideAll_size _ _
theorem hidT_get {h : Heap} {H : Hp} {b : Addr} {o : Obj} (e : h.get? b = some o) (n : H b = none) : (hidT h H).get? b = some o :=
  PySem.W.hideAll_get _ e fun hm => by
    have q : (H b).isSome = true := (List.mem_filter.mp hm).2
    rw [n] at q; simp at q
theorem of_hidT {h : Heap} {H : Hp} {b : Addr} {o : Obj} (e : (hidT h H).get? b = some o) : h.get? b = some o ∧ H b = none := by
  have e' : h.get? b = some o := PySem.W.of_hideAll (trk h H) e
  refine ⟨e', ?_⟩
  cases q : H b with
  | none => rfl
  | some x =>
    have hm : b ∈ trk h H := List.mem_filter.mpr ⟨List.mem_range.mpr (Heap.lt_size e'), by simp [q]⟩
    have z : (hidT h H).get? b = none := PySem.W.hideAll_none (trk h H) hm
    rw [z] at e; cases e

/-! ### OpenK's ledger, filled with every new object but one -/
def allNews (g h : Heap) (L : Addr) : List (Addr × Obj) := (List.range h.objs.size).filterMap fun a => if a = L ∨ (g.get? a).isSome = true then none else (h.get? a).map fun o => (a, o)
def rest (g h : Heap) (L d : Addr) : List (Addr × Obj) := (allNews g h L).filter fun p => decide (p.1 ≠ d)
end L2

namespace L2
open PySem PySem.Spec PyProof.Rows

/-- the module's facts, over the base: the heap at the law's entry without what is tracked there -/
structure Mod (K : PySem.W.Frag) (mg : Str → Option Value) (base : Heap) : Prop where
  kin : K.In base
  glob : base.Ns mainGlobals mg
  blt : ∃ mb, base.Ns builtinsNs mb ∧ ∀ x : Str, x ≠ "__name__" → mb x = bootBuiltins x
  nolimit : base.NoLimit

/-- the context: a def's body (or a comprehension's block) running. base: fixed through the whole law; s₀, H₀: the entry; outer: the frames whose slots others may change (a def's callers); stack: all frames that run;
   ex: iterators that were made ahead of the entry and are walked here (a comprehension's); fn: the names whose cells were made at the entry (a def: all; a comprehension's block: its own); calm: not within an except suite; pn: pins that every state bears; xe: what is wanted of an exception that leaves the code -/
structure Cx where
  prog : Program
  w : World
  K : PySem.W.Frag
  mg : Str → Option Value
  base : Heap
  A : Around
  N : List Str
  s₀ : Shared
  H₀ : Hp
  env : Env
  outer : List Env
  stack : List Env
  ex : List Addr
  fn : Str → Bool
  calm : Bool
  pn : List (Addr × Obj)
  xe : Value → Shared → Prop
/-- the callers' frames -/
def frs (l : List Env) : List Addr := l.filterMap (·.frame)
abbrev Cx.fs (X : Cx) : List Addr := frs X.outer

def Vis (sc : Scope) (x : Str) : Prop := sc.names.lookup x = some .local ∨ sc.names.lookup x = some .cell ∨ sc.names.lookup x = some .free
def Loc (sc : Scope) (x : Str) : Prop := sc.names.lookup x = some .local ∨ sc.names.lookup x = some .cell
def Look (env : Env) (h : Heap) (m : Str → Option Value) (x : Str) (u : Value) : Prop :=
  (env.kindOf x = some .local ∧ m x = some u) ∨ ((env.kindOf x = some .cell ∨ env.kindOf x = some .free) ∧ ∃ c, env.cells.lookup x = some c ∧ h.IsCell c (some u))

structure Cx.Ok (X : Cx) : Prop where
  mod : Mod X.K X.mg X.base
  kind : X.env.scope.kind = .function
  glob : X.env.globals = mainGlobals
  blt : X.env.builtins = builtinsNs
  above : X.s₀.heap.objs.size ≤ X.env.locals
  inj : ∀ x y c, X.env.cells.lookup x = some c → X.env.cells.lookup y = some c → x = y
  has : ∀ x, (X.env.kindOf x = some .cell ∨ X.env.kindOf x = some .free) → ∃ c, X.env.cells.lookup x = some c
  cab : ∀ x c, X.fn x = true → X.env.cells.lookup x = some c → X.s₀.heap.objs.size ≤ c
  hd : X.calm = true → X.A.handled = none
  frames : X.A.frames = some X.stack
  stk : X.stack = X.outer ∨ (X.stack = X.env :: X.outer ∧ X.env.frame = some X.env.locals)
  exf : ∀ b ∈ X.ex, b ≠ X.env.locals ∧ ∀ x c, X.env.cells.lookup x = some c → c ≠ b
  bs : ∀ b o, X.base.get? b = some o → X.s₀.heap.get? b = some o ∧ X.H₀ b = none
  bsz : X.base.objs.size ≤ X.s₀.heap.objs.size
  noex : ∀ b o, X.base.get? b = some o → b ∉ X.ex
  exfs : ∀ b ∈ X.ex, b ∉ X.fs
  funs : X.s₀.heap.FunFrames X.base X.outer
  frf : ∀ b ∈ X.fs, X.H₀ b = none

structure Inv (X : Cx) (pins : List (Addr × Obj)) (σ : List (Option V)) (H : Hp) (s : Shared) : Prop where
  ok : X.Ok
  os : s.os = X.s₀.os
  bare : AllBare s.gens
  base : Un X.fs X.ex X.H₀ H X.s₀.heap s.heap
  loc : ∃ m, s.heap.Ns X.env.locals m ∧ ∀ (i : Nat) (x : Str) (v : V), X.N[i]? = some x → σ[i]? = some (some v) → Vis X.env.scope x → ∃ u, RelV v u ∧ Look X.env s.heap m x u
  cell : ∀ x c, X.env.cells.lookup x = some c → ∃ v, s.heap.IsCell c v
  free : H X.env.locals = none
  freeC : ∀ x c, X.env.cells.lookup x = some c → H c = none
  pin : ∀ p ∈ X.pn ++ pins, s.heap.get? p.1 = some p.2 ∧ H p.1 = none ∧ p.1 ≠ X.env.locals ∧ p.1 ∉ X.fs ∧ ∀ v, p.2.data ≠ .cell v
  hok : HOk X.prog X.w H s.heap
  len : σ.length = X.N.length

section
variable {X : Cx} {pins : List (Addr × Obj)} {σ : List (Option V)} {H H' : Hp} {s : Shared} {h' : Heap}

theorem Cx.Ok.nofr (ok : X.Ok) {b : Addr} {o : Obj} (e : X.base.get? b = some o) : b ∉ X.fs := fun hb => by
  have := (ok.funs.mem hb).1
  rw [e] at this; cases this
theorem Inv.bs (I : Inv X pins σ H s) : ∀ b o, X.base.get? b = some o → s.heap.get? b = some o ∧ H b = none := fun b o e =>
  ⟨I.base.keep b o (I.ok.bs b o e).1 (I.ok.bs b o e).2 (I.ok.nofr e) (I.ok.noex b o e), I.base.free b o (I.ok.bs b o e).1 (I.ok.bs b o e).2 (I.ok.noex b o e)⟩
theorem Inv.bk (I : Inv X pins σ H s) : ∀ b o, X.base.get? b = some o → s.heap.get? b = some o := fun b o e => (I.bs b o e).1
theorem Inv.mod (I : Inv X pins σ H s) : Mod X.K X.mg X.base := I.ok.mod
theorem Inv.kIn (I : Inv X pins σ H s) : X.K.In s.heap := I.ok.mod.kin.keeps I.bk
theorem Inv.nolimit (I : Inv X pins σ H s) : s.heap.NoLimit := I.ok.mod.nolimit.keeps I.bk
/-- the frame over the base: for OpenK's rules (K.In X.base is I.mod.kin) -/
theorem Inv.fr (I : Inv X pins σ H s) : ∃ m, Fr X.base X.env.locals s.heap m :=
  let ⟨m, hn, _⟩ := I.loc
  ⟨m, hn, I.bk, Nat.le_trans I.ok.bsz I.ok.above⟩
theorem Inv.lt (I : Inv X pins σ H s) : X.env.locals < s.heap.objs.size := let ⟨_, hn, _⟩ := I.loc; hn.lt
theorem Inv.sz (I : Inv X pins σ H s) : X.s₀.heap.objs.size ≤ s.heap.objs.size := Nat.le_trans I.ok.above (Nat.le_of_lt I.lt)
theorem Inv.nofs (I : Inv X pins σ H s) {a : Addr} (h : s.heap.objs.size ≤ a) : a ∉ X.fs := fun hb => by
  obtain ⟨_, o, ho, _⟩ := I.ok.funs.mem hb
  exact absurd (Nat.lt_of_lt_of_le (Heap.lt_size ho) (Nat.le_trans I.sz h)) (Nat.lt_irrefl _)
theorem Inv.cne (I : Inv X pins σ H s) : ∀ x c, X.env.cells.lookup x = some c → c ≠ X.env.locals := fun x c e z => by
  obtain ⟨v, o, ho, hd⟩ := I.cell x c e
  obtain ⟨m, ⟨o', es, ep, ho', hd', _⟩, _⟩ := I.loc
  rw [z, ho'] at ho; cases ho; rw [hd'] at hd; cases hd
theorem Inv.funs (I : Inv X pins σ H s) : s.heap.FunFrames X.base X.outer := by
  have all : ∀ (l : List Env), (∀ b ∈ frs l, b ∈ X.fs) → X.s₀.heap.FunFrames X.base l → s.heap.FunFrames X.base l := by
    intro l
    induction l with
    | nil => intro _ _; trivial
    | cons env r ih =>
      intro hs hl
      obtain ⟨hk, ⟨L, o, hf, hn, ho, hd⟩, hr⟩ := hl
      have hL : L ∈ X.fs := hs L (by unfold frs; rw [List.filterMap_cons, hf]; exact List.mem_cons_self)
      obtain ⟨sl, e⟩ := I.base.slot L o ho (I.ok.frf L hL) hL fun z => I.ok.exfs L z hL
      exact ⟨hk, ⟨L, _, hf, hn, e, hd⟩, ih (fun b hb => hs b (by unfold frs; rw [List.filterMap_cons, hf]; exact List.mem_cons_of_mem _ hb)) hr⟩
  exact all X.outer (fun _ hb => hb) I.ok.funs

/-- the frames that run, for a call -/
theorem Inv.stack (I : Inv X pins σ H s) : s.heap.FunFrames X.base X.stack := by
  rcases I.ok.stk with e | ⟨e, hf⟩
  · rw [e]; exact I.funs
  · rw [e]
    obtain ⟨m, hn, _⟩ := I.loc
    refine .cons (by rw [I.ok.kind]; decide) hf hn ?_ I.funs
    exact Heap.get?_none_of_le (Nat.le_trans I.ok.bsz I.ok.above)
theorem Inv.stkSub (I : Inv X pins σ H s) : ∀ b ∈ frs X.stack, b ∈ X.env.locals :: X.fs := fun b hb => by
  rcases I.ok.stk with e | ⟨e, hf⟩
  · rw [e] at hb; exact List.mem_cons_of_mem _ hb
  · rw [e] at hb
    unfold frs at hb
    rw [List.filterMap_cons, hf] at hb
    exact hb
theorem Inv.stkFree (I : Inv X pins σ H s) : ∀ b ∈ frs X.stack, H b = none := fun b hb => by
  rcases List.mem_cons.mp (I.stkSub b hb) with e | hb
  · rw [e]; exact I.free
  · obtain ⟨_, o, ho, _⟩ := I.ok.funs.mem hb
    exact I.base.free b o ho (I.ok.frf b hb) fun z => I.ok.exfs b z hb

/-- THE STEP: the untracked objects but the frame and the records at ch are kept (the callers' frames up to slots), the frame's map is kept, the new abstract heap is held -/
theorem Inv.step {g' : Array GenState} {t' : Nat} {d' : Drawn} {ch : List Addr} (I : Inv X pins σ H s)
    (hch : ∀ b ∈ ch, (b ∈ X.ex ∨ X.s₀.heap.objs.size ≤ b) ∧ b ≠ X.env.locals ∧ (∀ x c, X.env.cells.lookup x = some c → c ≠ b) ∧ ∀ p ∈ X.pn ++ pins, p.1 ≠ b)
    (keep : ∀ b o, b ≠ X.env.locals → b ∉ X.fs → b ∉ ch → s.heap.get? b = some o → H b = none → h'.get? b = some o)
    (slot : ∀ b o, b ≠ X.env.locals → b ∈ X.fs → b ∉ ch → s.heap.get? b = some o → H b = none → ∃ sl, h'.get? b = some { o with slots := sl }) (free : ∀ b o, b ∉ ch → s.heap.get? b = some o → H b = none → H' b = none)
    (there : ∀ b o, b ∉ ch → s.heap.get? b = some o → ∃ o', h'.get? b = some o')
    (tups : ∀ b xs, H b = some (.tup xs) → H' b = some (.tup xs)) (frzs : ∀ b o u, H b = some (.frz o u) → H' b = some (.frz o u)) (tbls : ∀ b ps, H b = some (.tbl ps) → ∃ more, H' b = some (.tbl (ps ++ more)))
    (ns : ∀ m, s.heap.Ns X.env.locals m → h'.Ns X.env.locals m) (hok : HOk X.prog X.w H' h') (hg : AllBare g') :
    Inv X pins σ H' { s with heap := h', gens := g', drawn := d', toks := t' } := by
  have neL : ∀ b o, X.s₀.heap.get? b = some o → b ≠ X.env.locals := fun b o e => Nat.ne_of_lt (Nat.lt_of_lt_of_le (Heap.lt_size e) I.ok.above)
  have neC : ∀ b o, X.s₀.heap.get? b = some o → b ∉ X.ex → b ∉ ch := fun b o e hx hb => by
    rcases (hch b hb).1 with z | z
    · exact hx z
    · exact absurd (Nat.lt_of_lt_of_le (Heap.lt_size e) z) (Nat.lt_irrefl _)
  have cellK : ∀ x c, X.env.cells.lookup x = some c → ∀ v, s.heap.IsCell c v → h'.IsCell c v := fun x c e v ⟨o, ho, hd⟩ => by
    have nch : c ∉ ch := fun z => (hch c z).2.2.1 x c e rfl
    by_cases hc : c ∈ X.fs
    · obtain ⟨sl, q⟩ := slot c o (I.cne x c e) hc nch ho (I.freeC x c e)
      exact ⟨_, q, hd⟩
    · exact ⟨o, keep c o (I.cne x c e) hc nch ho (I.freeC x c e), hd⟩
  refine ⟨I.ok, I.os, hg, ⟨fun b o e n hb hx => ?_, fun b o e n hb hx => ?_, fun b o e n hx => ?_, fun b o e hx => ?_, fun b xs e => tups b xs (I.base.tups b xs e), fun b o xs e => frzs b o xs (I.base.frzs b o xs e), fun b ps e => ?_⟩, ?_, fun x c e => ?_, ?_, fun x c e => ?_, fun p hp => ?_, hok, I.len⟩
  · exact keep b o (neL b o e) hb (neC b o e hx) (I.base.keep b o e n hb hx) (I.base.free b o e n hx)
  · obtain ⟨sl, e1⟩ := I.base.slot b o e n hb hx
    obtain ⟨sl', e2⟩ := slot b _ (neL b o e) hb (neC b o e hx) e1 (I.base.free b o e n hx)
    exact ⟨sl', e2⟩
  · obtain ⟨o', e1⟩ := I.base.there b o e hx
    exact free b o' (neC b o e hx) e1 (I.base.free b o e n hx)
  · obtain ⟨o', e1⟩ := I.base.there b o e hx
    exact there b o' (neC b o e hx) e1
  · obtain ⟨m1, e1⟩ := I.base.tbls b ps e
    obtain ⟨m2, e2⟩ := tbls b _ e1
    exact ⟨m1 ++ m2, by rw [e2, Array.append_assoc]⟩
  · obtain ⟨m, hn, hl⟩ := I.loc
    refine ⟨m, ns m hn, fun i x v e1 e2 e3 => ?_⟩
    obtain ⟨u, r, l⟩ := hl i x v e1 e2 e3
    refine ⟨u, r, ?_⟩
    rcases l with l | ⟨k, c, e, z⟩
    · exact .inl l
    · exact .inr ⟨k, c, e, cellK x c e _ z⟩
  · obtain ⟨v, z⟩ := I.cell x c e
    exact ⟨v, cellK x c e v z⟩
  · obtain ⟨m, ⟨o, _, _, ho, _⟩, _⟩ := I.loc
    exact free _ o (fun z => (hch _ z).2.1 rfl) ho I.free
  · obtain ⟨v, o, ho, hd⟩ := I.cell x c e
    exact free c o (fun z => (hch c z).2.2.1 x c e rfl) ho (I.freeC x c e)
  · obtain ⟨e, n, ne, nf, d⟩ := I.pin p hp
    have nch : p.1 ∉ ch := fun z => (hch p.1 z).2.2.2 p hp rfl
    exact ⟨keep p.1 p.2 ne nf nch e n, free p.1 p.2 nch e n, ne, nf, d⟩
/-- .. where the frame's own object is kept too -/
theorem Inv.un {t' : Nat} (I : Inv X pins σ H s) (u : Un X.fs [] H H' s.heap h') (hok : HOk X.prog X.w H' h') : Inv X pins σ H' { s with heap := h', toks := t' } := by
  obtain ⟨m, ⟨o, es, ep, ho, r⟩, _⟩ := id I.loc
  obtain ⟨sl, hL⟩ := u.any ho I.free (by simp)
  exact I.step (g' := s.gens) (d' := s.drawn) (ch := []) (fun _ z => nomatch z) (fun b o _ hb _ e n => u.keep b o e n hb (by simp)) (fun b o _ hb _ e n => u.slot b o e n hb (by simp)) (fun b o _ e n => u.free b o e n (by simp)) (fun b o _ e => u.there b o e (by simp)) u.tups u.frzs u.tbls (fun m' hm => by
    obtain ⟨o', es', ep', ho', r'⟩ := hm
    rw [ho] at ho'; cases ho'
    exact ⟨_, es', ep', hL, r'⟩) hok I.bare
/-- behind a call (or a comprehension's block): the slots of this frame may have changed too, the records at ch may have turned -/
theorem Inv.call {g' : Array GenState} {t' : Nat} {d' : Drawn} {ch : List Addr} (I : Inv X pins σ H s) (u : Un (frs X.stack) ch H H' s.heap h') (hok : HOk X.prog X.w H' h') (hg : AllBare g')
    (hch : ∀ b ∈ ch, (b ∈ X.ex ∨ X.s₀.heap.objs.size ≤ b) ∧ b ≠ X.env.locals ∧ (∀ x c, X.env.cells.lookup x = some c → c ≠ b) ∧ ∀ p ∈ X.pn ++ pins, p.1 ≠ b) :
    Inv X pins σ H' { s with heap := h', gens := g', drawn := d', toks := t' } := by
  obtain ⟨m, ⟨o, es, ep, ho, r⟩, _⟩ := id I.loc
  obtain ⟨sl, hL⟩ := u.any ho I.free fun z => (hch _ z).2.1 rfl
  exact I.step (ch := ch) hch (fun b o hL hb hc e n => u.keep b o e n (fun z => (List.mem_cons.mp (I.stkSub b z)).elim hL hb) hc) (fun b o _ _ hc e n => u.any e n hc) (fun b o hc e n => u.free b o e n hc) (fun b o hc e => u.there b o e hc) u.tups u.frzs u.tbls (fun m' hm => by
    obtain ⟨o', es', ep', ho', r'⟩ := hm
    rw [ho] at ho'; cases ho'
    exact ⟨_, es', ep', hL, r'⟩) hok hg
/-- an untracked record of ours (an iterator) has turned -/
theorem Inv.turned {t' : Nat} {it : Addr} (I : Inv X pins σ H s) (k : ∀ b o, b ≠ it → s.heap.get? b = some o → h'.get? b = some o) (hn : H it = none) (hL : it ≠ X.env.locals)
    (h1 : it ∈ X.ex ∨ X.s₀.heap.objs.size ≤ it) (h2 : ∀ x c, X.env.cells.lookup x = some c → c ≠ it) (h3 : ∀ p ∈ X.pn ++ pins, p.1 ≠ it) : Inv X pins σ H { s with heap := h', toks := t' } := by
  have nit : ∀ b u, H b = some u → b ≠ it := fun b u e z => by rw [z, hn] at e; cases e
  refine I.step (g' := s.gens) (d' := s.drawn) (ch := [it]) (fun b hb => ?_) (fun b o _ _ hc e _ => k b o (fun z => hc (by simp [z])) e) (fun b o _ _ hc e _ => ⟨o.slots, k b o (fun z => hc (by simp [z])) e⟩) (fun _ _ _ _ n => n)
    (fun b o hc e => ⟨o, k b o (fun z => hc (by simp [z])) e⟩) (fun _ _ e => e) (fun _ _ _ e => e) (fun b ps e => ⟨#[], by rw [e]; simp⟩) (fun m hm => ?_) (fun b u e => ?_) I.bare
  · have e : b = it := by simpa using hb
    subst e
    exact ⟨h1, hL, h2, h3⟩
  · obtain ⟨o, es, ep, ho, r⟩ := hm
    exact ⟨o, es, ep, k _ o (Ne.symm hL) ho, r⟩
  · refine (I.hok b u e).stay (fun c v hc q => k c v ?_ q) (fun _ q => q) fun _ _ q => q
    rcases hc with z | z
    · rw [z]; exact nit b u e
    · exact nit c _ z
theorem Inv.tok (I : Inv X pins σ H s) (t : Nat) : Inv X pins σ H { s with toks := t } := I.un (h' := s.heap) (t' := t) Un.refl I.hok
/-- all objects kept -/
theorem Inv.kept {t' : Nat} (I : Inv X pins σ H s) (k : ∀ b u, s.heap.get? b = some u → h'.get? b = some u) : Inv X pins σ H { s with heap := h', toks := t' } := I.un (Un.kept k) (I.hok.kept k)
/-- a new object laid and tracked -/
theorem Inv.laid {a : Addr} {o : HO} {t' : Nat} (I : Inv X pins σ H s) (k : ∀ b u, s.heap.get? b = some u → h'.get? b = some u) (hp : s.heap.objs.size ≤ a) (new : ObjOk X.prog X.w (upd H a o) h' a o) :
    Inv X pins σ (upd H a o) { s with heap := h', toks := t' } := I.un (Un.laid k hp (I.hok.fresh hp)) (I.hok.laid k hp new)
/-- an object written -/
theorem Inv.write {x e : Addr} {o : HO} {t' : Nat} (I : Inv X pins σ H s) (mu : Mut (H x)) (he : e = x ∨ H e = some (.own x)) (k : ∀ b u, b ≠ e → s.heap.get? b = some u → h'.get? b = some u) (heo : ∃ u, h'.get? e = some u)
    (new : ObjOk X.prog X.w (upd H x o) h' x o) : Inv X pins σ (upd H x o) { s with heap := h', toks := t' } := I.un (Un.write mu he k heo) (I.hok.write mu he k heo new)
theorem Inv.pins_of {pins' : List (Addr × Obj)} (I : Inv X pins σ H s) (h : ∀ p ∈ pins', s.heap.get? p.1 = some p.2 ∧ H p.1 = none ∧ p.1 ≠ X.env.locals ∧ p.1 ∉ X.fs ∧ ∀ v, p.2.data ≠ .cell v) : Inv X pins' σ H s :=
  ⟨I.ok, I.os, I.bare, I.base, I.loc, I.cell, I.free, I.freeC, fun p hp => (List.mem_append.mp hp).elim (fun z => I.pin p (List.mem_append_left _ z)) (h p), I.hok, I.len⟩

theorem nodup_ix {N : List Str} (hN : N.Nodup) {i j : Nat} {x : Str} (a : N[i]? = some x) (b : N[j]? = some x) : i = j := by
  obtain ⟨h1, e1⟩ := List.getElem?_eq_some_iff.mp a
  obtain ⟨h2, e2⟩ := List.getElem?_eq_some_iff.mp b
  exact (List.getElem_inj hN).mp (e1.trans e2.symm)

/-- a name is stored; what changed -/
theorem store_ok2 {M : Model} {A : Around} {E : Value → Shared → Prop} {i : Nat} {x : Str} {v : V} {u : Value} {Q : Unit → Shared → Prop} (I : Inv X pins σ H s) (hN : X.N.Nodup) (hi : X.N[i]? = some x) (hx : Loc X.env.scope x) (r : RelV v u)
    (h : ∀ s', Inv X pins (σ.set i (some v)) H s' → (∃ a, Heap.SameBut a s.heap s'.heap ∧ (a = X.env.locals ∨ X.env.cells.lookup x = some a)) → Q () s') (hf : X.fn x = true ∨ X.env.scope.names.lookup x = some .local := by first | exact .inl rfl | exact .inr rfl | assumption) : wpAny M A (storeName X.env x u) Q E s := by
  obtain ⟨m, hn, hl⟩ := id I.loc
  have hcls : (X.env.scope.kind == .class || (X.env.scope.kind == .module && X.env.locals != X.env.globals)) = false := by rw [I.ok.kind]; rfl
  have hiσ : i < σ.length := by rw [I.len]; exact (List.getElem?_eq_some_iff.mp hi).1
  have cne := I.cne
  have tracked : ∀ {a : Addr} {h' : Heap}, (∃ o, s.heap.get? a = some o ∧ H a = none) → Heap.SameBut a s.heap h' → HOk X.prog X.w H h' := fun {a h'} ha hs b ob e => by
    obtain ⟨_, _, hfree⟩ := ha
    refine (I.hok b ob e).stay (fun c w' hc q => (hs.2 c ?_).trans q) (fun _ q => q) fun _ _ q => q
    rintro rfl
    rcases hc with rfl | hc
    · rw [hfree] at e; cases e
    · rw [hfree] at hc; cases hc
  rcases hx with hk | hk
  · refine wpAny_storeName_local hk hn (fun h' hn' hs => ?_) hcls
    obtain ⟨oL, _, _, hoL, _⟩ := id hn
    refine h _ ⟨I.ok, I.os, I.bare, ⟨fun b o e n hb hx => ?_, fun b o e n hb hx => ?_, I.base.free, fun b o e hx => ?_, I.base.tups, I.base.frzs, I.base.tbls⟩, ⟨_, hn', fun j y v' e1 e2 e3 => ?_⟩, fun y c e => ?_, I.free, I.freeC, fun p hp => ?_, tracked ⟨oL, hoL, I.free⟩ hs, by simpa using I.len⟩ ⟨_, hs, .inl rfl⟩
    · exact (hs.2 b (Nat.ne_of_lt (Nat.lt_of_lt_of_le (Heap.lt_size e) I.ok.above))).trans (I.base.keep b o e n hb hx)
    · obtain ⟨sl, e1⟩ := I.base.slot b o e n hb hx
      exact ⟨sl, (hs.2 b (Nat.ne_of_lt (Nat.lt_of_lt_of_le (Heap.lt_size e) I.ok.above))).trans e1⟩
    · obtain ⟨o', e1⟩ := I.base.there b o e hx
      exact ⟨o', (hs.2 b (Nat.ne_of_lt (Nat.lt_of_lt_of_le (Heap.lt_size e) I.ok.above))).trans e1⟩
    · by_cases hj : j = i
      · subst hj
        rw [hi] at e1; cases e1
        rw [List.getElem?_set_self hiσ] at e2
        cases e2
        exact ⟨u, r, .inl ⟨hk, by simp⟩⟩
      · rw [List.getElem?_set_ne (Ne.symm hj)] at e2
        obtain ⟨u', r', q⟩ := hl j y v' e1 e2 e3
        refine ⟨u', r', ?_⟩
        rcases q with ⟨k, e⟩ | ⟨k, c, e, z⟩
        · refine .inl ⟨k, ?_⟩
          have : y ≠ x := fun e => hj (nodup_ix hN e1 (e ▸ hi))
          simp [this, e]
        · exact .inr ⟨k, c, e, z.sameBut hs (cne y c e)⟩
    · obtain ⟨w', z⟩ := I.cell y c e
      exact ⟨w', z.sameBut hs (cne y c e)⟩
    · obtain ⟨e, n, ne, nf, d⟩ := I.pin p hp
      exact ⟨(hs.2 p.1 ne).trans e, n, ne, nf, d⟩
  · have hfn : X.fn x = true := by
      rcases hf with z | z
      · exact z
      · rw [z] at hk; cases hk
    obtain ⟨c, hc⟩ := I.ok.has x (.inl hk)
    obtain ⟨w', z⟩ := I.cell x c hc
    refine wpAny_storeName_cell I.ok.kind hk hc z (fun h' hc' hs => ?_)
    obtain ⟨oc, hoc, hocd⟩ := id z
    refine h { s with heap := h' } ⟨I.ok, I.os, I.bare, ⟨fun b o e n hb hx => ?_, fun b o e n hb hx => ?_, I.base.free, fun b o e hx => ?_, I.base.tups, I.base.frzs, I.base.tbls⟩, ⟨m, hn.sameBut hs (Ne.symm (cne x c hc)), fun j y v' e1 e2 e3 => ?_⟩, fun y c' e => ?_, I.free, I.freeC, fun p hp => ?_, tracked ⟨oc, hoc, I.freeC x c hc⟩ hs, by simpa using I.len⟩ ⟨c, hs, .inr hc⟩
    · exact (hs.2 b (Nat.ne_of_lt (Nat.lt_of_lt_of_le (Heap.lt_size e) (I.ok.cab x c hfn hc)))).trans (I.base.keep b o e n hb hx)
    · obtain ⟨sl, e1⟩ := I.base.slot b o e n hb hx
      exact ⟨sl, (hs.2 b (Nat.ne_of_lt (Nat.lt_of_lt_of_le (Heap.lt_size e) (I.ok.cab x c hfn hc)))).trans e1⟩
    · obtain ⟨o', e1⟩ := I.base.there b o e hx
      exact ⟨o', (hs.2 b (Nat.ne_of_lt (Nat.lt_of_lt_of_le (Heap.lt_size e) (I.ok.cab x c hfn hc)))).trans e1⟩
    · by_cases hj : j = i
      · subst hj
        rw [hi] at e1; cases e1
        rw [List.getElem?_set_self hiσ] at e2
        cases e2
        exact ⟨u, r, .inr ⟨.inl hk, c, hc, hc'⟩⟩
      · rw [List.getElem?_set_ne (Ne.symm hj)] at e2
        obtain ⟨u', r', q⟩ := hl j y v' e1 e2 e3
        refine ⟨u', r', ?_⟩
        rcases q with q | ⟨k, c', e, z'⟩
        · exact .inl q
        · refine .inr ⟨k, c', e, z'.sameBut hs ?_⟩
          rintro rfl
          exact hj (nodup_ix hN e1 (I.ok.inj _ _ _ e hc ▸ hi))
    · by_cases hcc : c' = c
      · subst hcc; exact ⟨_, hc'⟩
      · obtain ⟨w2, z2⟩ := I.cell y c' e
        exact ⟨w2, z2.sameBut hs hcc⟩
    · obtain ⟨e, n, ne, nf, d⟩ := I.pin p hp
      refine ⟨(hs.2 p.1 ?_).trans e, n, ne, nf, d⟩
      intro q
      rw [q, hoc] at e
      have q' : oc = p.2 := Option.some.inj e
      exact d w' (by rw [← q']; exact hocd)
theorem store_ok {M : Model} {A : Around} {E : Value → Shared → Prop} {i : Nat} {x : Str} {v : V} {u : Value} {Q : Unit → Shared → Prop} (I : Inv X pins σ H s) (hN : X.N.Nodup) (hi : X.N[i]? = some x) (hx : Loc X.env.scope x) (r : RelV v u)
    (h : ∀ s', Inv X pins (σ.set i (some v)) H s' → Q () s') (hf : X.fn x = true ∨ X.env.scope.names.lookup x = some .local := by first | exact .inl rfl | exact .inr rfl | assumption) : wpAny M A (storeName X.env x u) Q E s :=
  store_ok2 I hN hi hx r (fun s' I' _ => h s' I') hf
/-- behind a call or a block, the state as it is -/
theorem Inv.call' {s' : Shared} {ch : List Addr} (I : Inv X pins σ H s) (ho : s'.os = s.os) (u : Un (frs X.stack) ch H H' s.heap s'.heap) (hok : HOk X.prog X.w H' s'.heap) (hg : AllBare s'.gens)
    (hch : ∀ b ∈ ch, (b ∈ X.ex ∨ X.s₀.heap.objs.size ≤ b) ∧ b ≠ X.env.locals ∧ (∀ x c, X.env.cells.lookup x = some c → c ≠ b) ∧ ∀ p ∈ X.pn ++ pins, p.1 ≠ b) : Inv X pins σ H' s' := by
  obtain ⟨h', g', d', t', o'⟩ := s'
  have e : o' = s.os := ho
  subst e
  exact I.call (g' := g') (t' := t') (d' := d') u hok hg hch
end

/-! ### the judgements -/
/-- an exception: its class, its own dict's address (where it has one), the abstract heap behind it -/
abbrev XK := Value → Option Addr → Hp → Prop
abbrev St := List (Option V)
abbrev VK := V → Hp → Prop
/-- an expression's reading; a test's; an argument list's -/
abbrev TE := St → Hp → VK → Prop
abbrev TT := St → Hp → (Bool → Hp → Prop) → Prop
abbrev TA := St → Hp → (List V → Hp → Prop) → Prop
/-- what is wanted behind a statement -/
structure Ends where
  nx : St → Hp → Prop
  rt : VK
  bk : St → Hp → Prop := fun _ _ => False
  ct : St → Hp → Prop := fun _ _ => False
abbrev TS := Ends → St → Hp → Prop

def EP (X : Cx) (pins : List (Addr × Obj)) (σ : St) (Q : VK) (u : Value) (s' : Shared) : Prop := ∃ v H', Inv X pins σ H' s' ∧ RelV v u ∧ Q v H'
def TP (X : Cx) (pins : List (Addr × Obj)) (σ : St) (Q : Bool → Hp → Prop) (b : Bool) (s' : Shared) : Prop := ∃ H', Inv X pins σ H' s' ∧ Q b H'
def AP (X : Cx) (pins : List (Addr × Obj)) (σ : St) (Q : List V → Hp → Prop) (us : List Value) (s' : Shared) : Prop := ∃ vs H', Inv X pins σ H' s' ∧ Vals vs us ∧ Q vs H'
def SP (X : Cx) (pins : List (Addr × Obj)) (D : Ends) (f : Flow) (s' : Shared) : Prop :=
  match f with
  | .next => ∃ σ' H', Inv X pins σ' H' s' ∧ D.nx σ' H'
  | .brk => ∃ σ' H', Inv X pins σ' H' s' ∧ D.bk σ' H'
  | .cont => ∃ σ' H', Inv X pins σ' H' s' ∧ D.ct σ' H'
  | .ret u => ∃ v σ' H', Inv X pins σ' H' s' ∧ RelV v u ∧ D.rt v H'

def PE (X : Cx) (e : Expr) (t : TE) : Prop :=
  ∀ (pins : List (Addr × Obj)) (s : Shared) (σ : St) (H : Hp) (Q : VK), Inv X pins σ H s → t σ H Q → wpAny (model X.prog X.w) X.A (eval e X.env) (EP X pins σ Q) X.xe s
def PT (X : Cx) (e : Expr) (t : TT) : Prop :=
  ∀ (pins : List (Addr × Obj)) (s : Shared) (σ : St) (H : Hp) (Q : Bool → Hp → Prop), Inv X pins σ H s → t σ H Q → wpAny (model X.prog X.w) X.A (isTrue e X.env (eval e X.env)) (TP X pins σ Q) X.xe s
/-- a test whatever its 'whole' is (and, or) -/
def PW (X : Cx) (e : Expr) (t : TT) : Prop :=
  ∀ (whole : Sem Value) (pins : List (Addr × Obj)) (s : Shared) (σ : St) (H : Hp) (Q : Bool → Hp → Prop), Inv X pins σ H s → t σ H Q → wpAny (model X.prog X.w) X.A (isTrue e X.env whole) (TP X pins σ Q) X.xe s
theorem PW.pt {X : Cx} {e : Expr} {t : TT} (h : PW X e t) : PT X e t := h _
/-- an argument list (no star), from the left -/
def PA (X : Cx) (es : List Expr) (t : TA) : Prop :=
  ∀ (pos : Pos) (pins : List (Addr × Obj)) (s : Shared) (σ : St) (H : Hp) (Q : List V → Hp → Prop), Inv X pins σ H s → t σ H Q → wpAny (model X.prog X.w) X.A (spliced (backTo pos (starEach es X.env))) (AP X pins σ Q) X.xe s
def PS (X : Cx) (st : Stmt) (t : TS) : Prop :=
  ∀ (pins : List (Addr × Obj)) (s : Shared) (σ : St) (H : Hp) (D : Ends), Inv X pins σ H s → t D σ H → wpAny (model X.prog X.w) X.A (exec st X.env) (SP X pins D) X.xe s
def PSs (X : Cx) (st : List Stmt) (t : TS) : Prop :=
  ∀ (pins : List (Addr × Obj)) (s : Shared) (σ : St) (H : Hp) (D : Ends), Inv X pins σ H s → t D σ H → wpAny (model X.prog X.w) X.A (execs st X.env) (SP X pins D) X.xe s
/-- weaken the end -/
theorem thn {α : Type} {t : Sem α} {Q Q' : α → Shared → Prop} {M : Model} {A : Around} {E : Value → Shared → Prop} {s : Shared} (h : wpAny M A t Q E s) (hQ : ∀ a s, Q a s → Q' a s) : wpAny M A t Q' E s := wpAny_mono h hQ fun _ _ x => x
end L2

namespace L2
open PySem PySem.Spec PyProof.Rows
section
variable {X : Cx}

/-! ### names and constants -/
def tVar (i : Nat) : TE := fun σ H Q => ∃ v, σ[i]? = some (some v) ∧ Q v H
def tC (v : V) : TE := fun _ H Q => Q v H
theorem pe_var {i : Nat} {x : Str} {pos : Pos} (hN : X.N[i]? = some x) (hv : Vis X.env.scope x) (hd : (x == ("__debug__" : Str)) = false := by decide) (hcd : (x == ("__classdict__" : Str)) = false := by decide) : PE X (.Name x pos) (tVar i) := by
  intro pins s σ H Q I h
  obtain ⟨v, e, h⟩ := h
  obtain ⟨m, hn, hl⟩ := I.loc
  obtain ⟨u, r, l⟩ := hl i x v hN e hv
  have fin : EP X pins σ Q u s := ⟨v, H, I, r, h⟩
  rcases l with ⟨hk, hm⟩ | ⟨hk, c, hc, hcell⟩
  · exact wpAny_Name (wpAny_loadName_local I.ok.kind hk hn hm fin) hd
  · rcases hk with hk | hk
    · exact wpAny_Name (wpAny_loadName_cell I.ok.kind hk hc hcell fin) hd
    · exact wpAny_Name (wpAny_loadName_free I.ok.kind hk hc hcell fin hcd) hd
theorem pe_int {i j pos} : PE X (.Constant (.int i) j pos) (tC (.int i)) := fun _ _ _ H _ I h => wpAny_Constant_int ⟨.int i, H, I.tok _, ⟨_, rfl⟩, h⟩
theorem pe_bl {b j pos} : PE X (.Constant (.bool b) j pos) (tC (.bl b)) := fun _ _ _ H _ I h => Constant_bool ⟨.bl b, H, I, rfl, h⟩
theorem pe_non {j pos} : PE X (.Constant .none j pos) (tC .non) := fun _ _ _ H _ I h => Constant_none ⟨.non, H, I, rfl, h⟩
theorem pe_str {x j pos} : PE X (.Constant (.str x) j pos) (tC (.str x)) := fun _ _ _ H _ I h => Calls.Constant_str ⟨.str x, H, I.tok _, ⟨_, rfl⟩, h⟩

/-- a global name of the def -/
def Gl (X : Cx) (x : Str) : Prop := X.env.kindOf x = some .globalImplicit
theorem ld_glob {E : Value → Shared → Prop} {pins : List (Addr × Obj)} {s : Shared} {σ : St} {H : Hp} {x : Str} {u : Value} {pos : Pos} {Q : Value → Shared → Prop} (I : Inv X pins σ H s) (hg : Gl X x) (hm : X.mg x = some u) (h : Q u s)
    (hd : (x == ("__debug__" : Str)) = false := by decide) : wpAny (model X.prog X.w) X.A (eval (.Name x pos) X.env) Q E s :=
  Calls.Name_function_global I.ok.kind hg (Calls.loadGlobal_global (by rw [I.ok.glob]; exact I.mod.glob.keeps I.bk) hm h) hd
theorem ld_blt {E : Value → Shared → Prop} {pins : List (Addr × Obj)} {s : Shared} {σ : St} {H : Hp} {x : Str} {u : Value} {pos : Pos} {Q : Value → Shared → Prop} (I : Inv X pins σ H s) (hg : Gl X x) (hm : X.mg x = none) (hv : bootBuiltins x = some u) (h : Q u s)
    (hn : x ≠ "__name__" := by decide) (hd : (x == ("__debug__" : Str)) = false := by decide) : wpAny (model X.prog X.w) X.A (eval (.Name x pos) X.env) Q E s := by
  obtain ⟨mb, h1, h2⟩ := I.mod.blt
  exact Calls.Name_function_global I.ok.kind hg (Calls.loadGlobal_builtin (by rw [I.ok.glob]; exact I.mod.glob.keeps I.bk) hm (by rw [I.ok.blt]; exact h1.keeps I.bk) ((h2 x hn).trans hv) h) hd
/-- a module's constant, a class, a function, as a value -/
theorem pe_glob {x : Str} {v : V} {u : Value} {pos : Pos} (hg : Gl X x) (hm : X.mg x = some u) (r : RelV v u) (hd : (x == ("__debug__" : Str)) = false := by decide) : PE X (.Name x pos) (tC v) :=
  fun _ _ _ H _ I h => ld_glob I hg hm ⟨v, H, I, r, h⟩ hd
theorem pe_bltn {x : Str} {v : V} {u : Value} {pos : Pos} (hg : Gl X x) (hm : X.mg x = none) (hv : bootBuiltins x = some u) (r : RelV v u) (hn : x ≠ "__name__" := by decide) (hd : (x == ("__debug__" : Str)) = false := by decide) : PE X (.Name x pos) (tC v) :=
  fun _ _ _ H _ I h => ld_blt I hg hm hv ⟨v, H, I, r, h⟩ hn hd

/-! ### arithmetic -/
variable {a b : Expr} {ta tb : TE} {pos : Pos}
/-! ### comparisons -/
/-- a comparison as a value, as a test -/
def tB (t : TE) : TT := fun σ H Q => t σ H fun x H1 => ∃ c, x = .bl c ∧ Q c H1
/-- an expression whose value is a bool, as a test -/
theorem pt_val {e : Expr} {t : TE} (h : PE X e t) (he : ∀ whole, isTrue e X.env whole = (do let v ← whole; standAt e.pos; holding [v] (truthy v)) := by intro _; rfl) : PT X e (tB t) := by
  intro pins s σ H Q I hw
  refine isTrue_plain (thn (h pins s σ H _ I hw) fun v s1 ⟨x, H1, I1, r1, q1⟩ => ?_) (he _)
  obtain ⟨d, rfl, q⟩ := q1
  cases r1
  exact wpAny_truthy_bool ⟨H1, I1, q⟩

/-! ### and, or, not -/
variable {tA tB' : TT} {rest : List Expr}
def tAnd (t u : TT) : TT := fun σ H Q => t σ H fun c H1 => if c = true then u σ H1 Q else Q false H1
def tOr (t u : TT) : TT := fun σ H Q => t σ H fun c H1 => if c = true then Q true H1 else u σ H1 Q
def tNot (t : TT) : TT := fun σ H Q => t σ H fun c H1 => Q (!c) H1
theorem pw_and1 (ha : PT X a tA) : PW X (.BoolOp .And [a] pos) tA := by
  intro wh pins s σ H Q I h
  refine isTrue_and (thn (ha pins s σ H Q I h) fun c s1 e => ?_)
  cases c with
  | true => exact isTrue_and_nil e
  | false => exact e
theorem pw_or1 (ha : PT X a tA) : PW X (.BoolOp .Or [a] pos) tA := by
  intro wh pins s σ H Q I h
  refine isTrue_or (thn (ha pins s σ H Q I h) fun c s1 e => ?_)
  cases c with
  | false => exact isTrue_or_nil e
  | true => exact e
theorem pw_and (ha : PT X a tA) (hb : PW X (.BoolOp .And (b :: rest) pos) tB') : PW X (.BoolOp .And (a :: b :: rest) pos) (tAnd tA tB') := by
  intro wh pins s σ H Q I h
  refine isTrue_and (thn (ha pins s σ H _ I h) fun c s1 ⟨H1, I1, q1⟩ => ?_)
  cases c with
  | true => exact hb wh pins s1 σ H1 Q I1 q1
  | false => exact ⟨H1, I1, q1⟩
theorem pw_or (ha : PT X a tA) (hb : PW X (.BoolOp .Or (b :: rest) pos) tB') : PW X (.BoolOp .Or (a :: b :: rest) pos) (tOr tA tB') := by
  intro wh pins s σ H Q I h
  refine isTrue_or (thn (ha pins s σ H _ I h) fun c s1 ⟨H1, I1, q1⟩ => ?_)
  cases c with
  | true => exact ⟨H1, I1, q1⟩
  | false => exact hb wh pins s1 σ H1 Q I1 q1
theorem pt_not (ha : PT X a tA) : PT X (.UnaryOp .Not a pos) (tNot tA) := by
  intro pins s σ H Q I h
  exact isTrue_not (ha pins s σ H (fun c H1 => Q (!c) H1) I h)
/-- .. as values (bools) -/
def tAndV (ta tb : TE) : TE := fun σ H Q => ta σ H fun x H1 => ∃ c, x = .bl c ∧ if c = true then tb σ H1 Q else Q (.bl false) H1
def tOrV (ta tb : TE) : TE := fun σ H Q => ta σ H fun x H1 => ∃ c, x = .bl c ∧ if c = true then Q (.bl true) H1 else tb σ H1 Q
def tNotV (ta : TE) : TE := fun σ H Q => ta σ H fun x H1 => ∃ c, x = .bl c ∧ Q (.bl (!c)) H1
theorem pe_one {op} {t : TE} (h : PE X a t) : PE X (.BoolOp op [a] pos) t := fun pins s σ H Q I hw => BoolOp_one (h pins s σ H Q I hw)
theorem pe_and (ha : PE X a ta) (hb : PE X (.BoolOp .And (b :: rest) pos) tb) : PE X (.BoolOp .And (a :: b :: rest) pos) (tAndV ta tb) := by
  intro pins s σ H Q I h
  refine BoolOp_and (thn (ha pins s σ H _ I h) fun v s1 ⟨x, H1, I1, r1, q1⟩ => ?_)
  obtain ⟨c, rfl, q1⟩ := q1
  cases r1
  refine wpAny_truthy_bool ?_
  cases c with
  | true => exact hb pins s1 σ H1 Q I1 q1
  | false => exact ⟨.bl false, H1, I1, rfl, q1⟩
theorem pe_not (ha : PE X a ta) : PE X (.UnaryOp .Not a pos) (tNotV ta) := by
  intro pins s σ H Q I h
  refine UnaryOp_ (thn (ha pins s σ H _ I h) fun v s1 ⟨x, H1, I1, r1, q1⟩ => ?_)
  obtain ⟨c, rfl, q1⟩ := q1
  cases r1
  exact not_of (wpAny_truthy_bool ⟨.bl (!c), H1, I1, rfl, q1⟩)
/-- a if t else b -/
def tIf (t : TT) (ta tb : TE) : TE := fun σ H Q => t σ H fun c H1 => if c = true then ta σ H1 Q else tb σ H1 Q
end
end L2

namespace L2
open PySem PySem.Spec PyProof.Rows

/-! ### a list, a tuple that is read: tracked, frozen, or an object of the module -/
def SqL (K : PySem.W.Frag) (H : Hp) (a : Addr) (xs : List V) : Prop :=
  Rd H a (.lst xs) ∨
    ∃ (o : Obj) (its : Array Value) (n : Nat), K.lookup a = some o ∧ o.cls = .type "list" ∧ o.dict = none ∧ o.data = .seq its n ∧ its.size ≤ sizeLine ∧ Vals xs its.toList
def SqT (K : PySem.W.Frag) (H : Hp) (a : Addr) (xs : List V) : Prop :=
  Rd H a (.tup xs) ∨
    ∃ (o : Obj) (its : Array Value) (n : Nat), K.lookup a = some o ∧ o.cls = .type "tuple" ∧ o.data = .seq its n ∧ its.size ≤ sizeLine ∧ Vals xs its.toList
def absV : Value → Option V
  | .none => some .non
  | .bool b => some (.bl b)
  | .int i _ => some (.int i)
  | .str x _ => some (.str x)
  | .bytes b _ => some (.byt b)
  | .float b _ => some (.flt b)
  | .ref a => some (.ref a)
  | .type n => some (.ty n)
  | _ => none
theorem RelV.abs {x : V} {u : Value} (r : RelV x u) : absV u = some x := by
  cases x with
  | non => cases r; rfl
  | bl _ => cases r; rfl
  | int _ => obtain ⟨t, rfl⟩ := r; rfl
  | str _ => obtain ⟨t, rfl⟩ := r; rfl
  | byt _ => obtain ⟨t, rfl⟩ := r; rfl
  | flt _ => obtain ⟨t, rfl⟩ := r; rfl
  | ref _ => cases r; rfl
  | ty _ => cases r; rfl
theorem RelV.inj {x y : V} {u : Value} (r : RelV x u) (q : RelV y u) : x = y := Option.some.inj (r.abs.symm.trans q.abs)
theorem Vals.inj : ∀ {xs ys : List V} {us : List Value}, Vals xs us → Vals ys us → xs = ys
  | _, _, _, .nil, .nil => rfl
  | _, _, _, .cons r t, .cons r' t' => by rw [r.inj r', Vals.inj t t']
section
variable {X : Cx} {pins : List (Addr × Obj)} {σ : St} {H : Hp} {s : Shared} {a : Addr} {xs ys : List V}
theorem SqL.of {K : PySem.W.Frag} (h : H a = some (.lst xs)) : SqL K H a xs := .inl (.inl h)
theorem SqT.of {K : PySem.W.Frag} (h : H a = some (.tup xs)) : SqT K H a xs := .inl (.inl h)
theorem Inv.list (I : Inv X pins σ H s) (h : SqL X.K H a xs) : ∃ its : List Value, Vals xs its ∧ PlainL s.heap a its.toArray ∧ xs.length ≤ sizeLine := by
  rcases h with h | ⟨o, its, n, hk, hc, hd, hs, hz, r⟩
  · obtain ⟨z, its, n, r, e⟩ := h.ok I.hok
    exact ⟨its, r, ⟨_, n, e, rfl, rfl, rfl⟩, z⟩
  · refine ⟨its.toList, r, ⟨o, n, I.kIn a o hk, hc, hd, by simpa using hs⟩, ?_⟩
    have e := r.length
    simp only [Array.length_toList] at e
    omega
theorem Inv.tuple (I : Inv X pins σ H s) (h : SqT X.K H a xs) : ∃ its : List Value, Vals xs its ∧ IsTup s.heap a its.toArray ∧ xs.length ≤ sizeLine := by
  rcases h with h | ⟨o, its, n, hk, hc, hs, hz, r⟩
  · obtain ⟨z, its, r, p⟩ := h.ok I.hok
    exact ⟨its, r, p, z⟩
  · refine ⟨its.toList, r, ⟨o, I.kIn a o hk, hc, n, by simpa using hs⟩, ?_⟩
    have e := r.length
    simp only [Array.length_toList] at e
    omega
theorem Inv.list_inj (I : Inv X pins σ H s) (h : SqL X.K H a xs) (h' : SqL X.K H a ys) : xs = ys := by
  obtain ⟨its, r, ⟨o, n, e, _, _, d⟩, _⟩ := I.list h
  obtain ⟨its', r', ⟨o', n', e', _, _, d'⟩, _⟩ := I.list h'
  rw [e] at e'; cases e'
  rw [d] at d'
  injection d' with d1 _
  have : its = its' := by simpa using congrArg Array.toList d1
  subst this
  exact r.inj r'
end

/-! ### another wish about exceptions -/
abbrev Cx.wish (X : Cx) (E : Value → Shared → Prop) : Cx := { X with xe := E }
/-- no exception leaves -/
abbrev Cx.nox (X : Cx) : Cx := X.wish fun _ _ => False
theorem Cx.Ok.wish {X : Cx} (ok : X.Ok) (E : Value → Shared → Prop) : (X.wish E).Ok :=
  ⟨ok.mod, ok.kind, ok.glob, ok.blt, ok.above, ok.inj, ok.has, ok.cab, ok.hd, ok.frames, ok.stk, ok.exf, ok.bs, ok.bsz, ok.noex, ok.exfs, ok.funs, ok.frf⟩
theorem Cx.Ok.unwish {X : Cx} {E : Value → Shared → Prop} (ok : (X.wish E).Ok) : X.Ok :=
  ⟨ok.mod, ok.kind, ok.glob, ok.blt, ok.above, ok.inj, ok.has, ok.cab, ok.hd, ok.frames, ok.stk, ok.exf, ok.bs, ok.bsz, ok.noex, ok.exfs, ok.funs, ok.frf⟩
section
variable {X : Cx} {pins : List (Addr × Obj)} {σ : St} {H : Hp} {s : Shared} {E : Value → Shared → Prop}
theorem Inv.wish (I : Inv X pins σ H s) (E : Value → Shared → Prop) : Inv (X.wish E) pins σ H s := ⟨I.ok.wish E, I.os, I.bare, I.base, I.loc, I.cell, I.free, I.freeC, I.pin, I.hok, I.len⟩
theorem Inv.unwish (I : Inv (X.wish E) pins σ H s) : Inv X pins σ H s := ⟨I.ok.unwish, I.os, I.bare, I.base, I.loc, I.cell, I.free, I.freeC, I.pin, I.hok, I.len⟩
theorem SP.unwish {D : Ends} {f : Flow} {s' : Shared} (h : SP (X.wish E) pins D f s') : SP X pins D f s' := by
  cases f with
  | next => obtain ⟨σ', H', I, q⟩ := h; exact ⟨σ', H', I.unwish, q⟩
  | brk => obtain ⟨σ', H', I, q⟩ := h; exact ⟨σ', H', I.unwish, q⟩
  | cont => obtain ⟨σ', H', I, q⟩ := h; exact ⟨σ', H', I.unwish, q⟩
  | ret u => obtain ⟨v, σ', H', I, r, q⟩ := h; exact ⟨v, σ', H', I.unwish, r, q⟩
theorem PE.nox {e : Expr} {t : TE} (h : PE X.nox e t) : PE X e t := fun pins s σ H Q I hw =>
  wpAny_mono (h pins s σ H Q (I.wish _) hw) (fun _ _ ⟨v, H', I', r, q⟩ => ⟨v, H', I'.unwish, r, q⟩) fun _ _ z => False.elim z
theorem PT.nox {e : Expr} {t : TT} (h : PT X.nox e t) : PT X e t := fun pins s σ H Q I hw =>
  wpAny_mono (h pins s σ H Q (I.wish _) hw) (fun _ _ ⟨H', I', q⟩ => ⟨H', I'.unwish, q⟩) fun _ _ z => False.elim z
theorem PSs.nox {st : List Stmt} {t : TS} (h : PSs X.nox st t) : PSs X st t := fun pins s σ H D I hw =>
  wpAny_mono (h pins s σ H D (I.wish _) hw) (fun _ _ q => q.unwish) fun _ _ z => False.elim z
end

/-! ### blocks and small statements -/
section
variable {X : Cx} {st : Stmt} {rest : List Stmt} {t u : TS} {e : Expr} {te : TE} {pos : Pos}
def tNext : TS := fun D σ H => D.nx σ H
def tSeq (t u : TS) : TS := fun D σ H => t { D with nx := u D } σ H
theorem pss_nil : PSs X [] tNext := fun _ _ σ H _ I h => wpAny_execs_nil ⟨σ, H, I, h⟩
theorem pss_cons (h1 : PS X st t) (h2 : PSs X rest u) : PSs X (st :: rest) (tSeq t u) := by
  intro pins s σ H D I h
  refine wpAny_execs_cons (thn (h1 pins s σ H { D with nx := u D } I h) fun f s1 q => ?_)
  cases f with
  | next =>
    obtain ⟨σ', H', I', q⟩ := q
    exact h2 pins s1 σ' H' D I' q
  | ret v => exact q
  | brk => exact q
  | cont => exact q
theorem pss_one (h1 : PS X st t) : PSs X [st] t := by
  intro pins s σ H D I h
  refine wpAny_execs_cons (thn (h1 pins s σ H D I h) fun f s1 q => ?_)
  cases f with
  | next => exact wpAny_execs_nil q
  | ret v => exact q
  | brk => exact q
  | cont => exact q
def tBreak : TS := fun D σ H => D.bk σ H
def tCont : TS := fun D σ H => D.ct σ H
/-- in a def's body nothing is shown -/
theorem Inv.quiet {pins : List (Addr × Obj)} {σ : St} {H : Hp} {s : Shared} (I : Inv X pins σ H s) : interactive X.env = false := by simp [interactive, I.ok.kind]
/-- an expression whose value is dropped -/
def tDrop (te : TE) : TS := fun D σ H => te σ H fun _ H1 => D.nx σ H1
theorem ps_expr (he : PE X e te) (hs : swapsWith e none pos.line X.env = pure false := by rfl) : PS X (.Expr e pos) (tDrop te) := by
  intro pins s σ H D I h
  exact wpAny_Expr_any (thn (he pins s σ H _ I h) fun v s1 ⟨x, H1, I1, r1, q1⟩ => ⟨σ, H1, I1, q1⟩) I.quiet hs
def tRet (te : TE) : TS := fun D σ H => te σ H D.rt
theorem ps_ret (he : PE X e te) : PS X (.Return (some e) pos) (tRet te) := by
  intro pins s σ H D I h
  exact wpAny_Return_some (thn (he pins s σ H _ I h) fun v s1 ⟨x, H1, I1, r1, q1⟩ => ⟨x, σ, H1, I1, r1, q1⟩)
def tRetN : TS := fun D _ H => D.rt .non H
def tIfS (c : TT) (t u : TS) : TS := fun D σ H => c σ H fun b H1 => if b = true then t D σ H1 else u D σ H1
theorem ps_if {c : Expr} {a b : List Stmt} {tc : TT} (hc : PT X c tc) (ha : PSs X a t) (hb : PSs X b u) : PS X (.If c a b pos) (tIfS tc t u) := by
  intro pins s σ H D I h
  refine wpAny_If (thn (hc pins s σ H _ I h) fun d s1 ⟨H1, I1, q1⟩ => ?_)
  cases d with
  | true => exact ha pins s1 σ H1 D I1 q1
  | false => exact hb pins s1 σ H1 D I1 q1
/-- code that the proof never comes to -/
def tNever : TS := fun _ _ _ => False
theorem ps_never : PS X st tNever := fun _ _ _ _ _ _ h => h.elim
theorem pss_never {sts : List Stmt} : PSs X sts tNever := fun _ _ _ _ _ _ h => h.elim
end

/-! ### targets -/
abbrev TG := V → St → Hp → (St → Hp → Prop) → Prop
abbrev TGs := List V → St → Hp → (St → Hp → Prop) → Prop
def PG (X : Cx) (target : Expr) (t : TG) : Prop :=
  ∀ (pins : List (Addr × Obj)) (s : Shared) (σ : St) (H : Hp) (v : V) (u : Value) (Q : St → Hp → Prop), Inv X pins σ H s → RelV v u → t v σ H Q →
    wpAny (model X.prog X.w) X.A (assign target X.env u) (fun _ s' => ∃ σ' H', Inv X pins σ' H' s' ∧ Q σ' H') X.xe s
/-- several targets, one after another -/
def PGs (X : Cx) (ts : List Expr) (t : TGs) : Prop :=
  ∀ (pins : List (Addr × Obj)) (s : Shared) (σ : St) (H : Hp) (vs : List V) (us : List Value) (Q : St → Hp → Prop), Inv X pins σ H s → Vals vs us → t vs σ H Q →
    wpAny (model X.prog X.w) X.A (assignInOrder ((assignEach ts X.env).map (·.2)) us) (fun _ s' => ∃ σ' H', Inv X pins σ' H' s' ∧ Q σ' H') X.xe s
section
variable {X : Cx} {pos : Pos}
def gName (i : Nat) : TG := fun v σ H Q => Q (σ.set i (some v)) H
theorem pg_name {i : Nat} {x : Str} (hN : X.N.Nodup) (hi : X.N[i]? = some x) (hx : Loc X.env.scope x) (hf : X.fn x = true ∨ X.env.scope.names.lookup x = some .local := by first | exact .inl rfl | exact .inr rfl | assumption) : PG X (.Name x pos) (gName i) := by
  intro pins s σ H v u Q I r h
  exact wpAny_assign_Name (store_ok I hN hi hx r (fun s' I' => ⟨_, H, I', h⟩) hf)
def gNil : TGs := fun vs σ H Q => vs = [] ∧ Q σ H
def gCons (t : TG) (u : TGs) : TGs := fun vs σ H Q => ∃ v r, vs = v :: r ∧ t v σ H fun σ' H' => u r σ' H' Q
theorem pgs_nil : PGs X [] gNil := by
  intro pins s σ H vs us Q I r h
  obtain ⟨e, h⟩ := h
  subst e
  cases r
  exact assignInOrder_nil ⟨σ, H, I, h⟩
theorem pgs_cons {e : Expr} {es : List Expr} {t : TG} {u : TGs} (h1 : PG X e t) (h2 : PGs X es u)
    (hs : (assignEach (e :: es) X.env).map (·.2) = assign e X.env :: (assignEach es X.env).map (·.2) := by rfl) : PGs X (e :: es) (gCons t u) := by
  intro pins s σ H vs us Q I r h
  obtain ⟨v, vr, e1, h⟩ := h
  subst e1
  cases r with
  | cons r rr =>
    rw [hs]
    refine assignInOrder_cons (thn (h1 pins s σ H _ _ _ I r h) fun _ s1 ⟨σ1, H1, I1, q1⟩ => ?_)
    exact h2 pins s1 σ1 H1 _ _ Q I1 rr q1
/-- (a, b, ..) = a tuple of that length -/
def gTup (K : PySem.W.Frag) (n : Nat) (t : TGs) : TG := fun v σ H Q => ∃ a xs, v = .ref a ∧ SqT K H a xs ∧ xs.length = n ∧ t xs σ H Q
theorem pg_tup {es : List Expr} {k : Nat} {t : TGs} {n : Nat} (hc : X.calm = true) (h : PGs X es t)
    (hn : (assignEach es X.env).length = n := by rfl) (hst : (assignEach es X.env).findIdx? (·.1) = none := by rfl) : PG X (.Tuple es k pos) (gTup X.K n t) := by
  intro pins s σ H v u Q I r hw
  obtain ⟨a, xs, e1, hq, hl, hw⟩ := hw
  subst e1
  cases r
  obtain ⟨its, rv, ht, hz⟩ := I.tuple hq
  refine assign_Tuple_tuple (I.ok.hd hc) ht (by simp [hn, ← hl, rv.length]) hst fun h' hx => ?_
  have I1 : Inv X pins σ H { s with heap := h' } := I.kept (t' := s.toks) fun b o e => hx b o (Nat.ne_of_lt (Heap.lt_size e)) e
  exact h pins _ σ H xs _ Q I1 (by simpa using rv) hw
/-- target = value -/
def tAsg (te : TE) (g : TG) : TS := fun D σ H => te σ H fun x H1 => g x σ H1 D.nx
theorem ps_asg {tg e : Expr} {te : TE} {g : TG} (he : PE X e te) (hg : PG X tg g) (hs : swapsWithSole [tg] e pos.line X.env = pure false := by rfl) (hw : swappedStores [tg] e X.env = pure none := by rfl)
    (h1 : (assignEach [tg] X.env).map (·.2) = [assign tg X.env] := by rfl) : PS X (.Assign [tg] e pos) (tAsg te g) := by
  intro pins s σ H D I h
  refine wpAny_Assign_stores (thn (he pins s σ H _ I h) fun v s1 ⟨x, H1, I1, r1, q1⟩ => ?_) hs hw
  rw [h1]
  exact thn (hg pins s1 σ H1 x v _ I1 r1 q1) fun _ s2 q => q
/-- name = value -/
theorem ps_set {i : Nat} {x : Str} {e : Expr} {te : TE} {pos' : Pos} (hN : X.N.Nodup) (hi : X.N[i]? = some x) (hx : Loc X.env.scope x) (he : PE X e te) (hs : swapsWith e (some (.Name x pos')) pos.line X.env = pure false := by rfl) (hf : X.fn x = true ∨ X.env.scope.names.lookup x = some .local := by first | exact .inl rfl | exact .inr rfl | assumption) :
    PS X (.Assign [.Name x pos'] e pos) (tAsg te (gName i)) := by
  intro pins s σ H D I h
  refine wpAny_Assign_Name (thn (he pins s σ H _ I h) fun v s1 ⟨y, H1, I1, r1, q1⟩ => ?_) hs
  exact store_ok I1 hN hi hx r1 (fun s2 I2 => ⟨_, H1, I2, q1⟩) hf
end

/-! ### while -/
section
variable {X : Cx} {pos : Pos}
/-- the invariant W with its measure -/
def tWhile (c : TT) (tb : TS) : TS := fun D σ H => ∃ W : Nat → St → Hp → Prop, (∃ m, W m σ H) ∧ ∀ m σ H, W m σ H →
  c σ H fun b H1 => if b = true then ∃ N : St → Hp → Prop, (∀ σ' H', N σ' H' → ∃ m', m' < m ∧ W m' σ' H') ∧ tb { D with nx := N, ct := N, bk := D.nx } σ H1 else D.nx σ H1
theorem ps_while {c : Expr} {body : List Stmt} {tc : TT} {tb : TS} (hp : PassesOwn (model X.prog X.w) X.A X.env X.xe) (hc : PT X c tc) (hb : PSs X body tb) : PS X (.While c body [] pos) (tWhile tc tb) := by
  intro pins s σ H D I h
  obtain ⟨W, ⟨m0, w0⟩, turn⟩ := h
  refine wpAny_While (codeAny_whileLoop (fun n s' => ∃ σ' H', Inv X pins σ' H' s' ∧ W n σ' H') ?_ m0 ⟨σ, H, I, w0⟩)
  rintro n s1 ⟨σ1, H1, I1, w1⟩
  refine wpAny_passesOwn hp (thn (hc pins s1 σ1 H1 _ I1 (turn n σ1 H1 w1)) fun b s2 ⟨H2, I2, q2⟩ => ?_)
  cases b with
  | true =>
    obtain ⟨N, hN, q2⟩ := q2
    rw [if_pos rfl]
    refine wpAny_passesOwn hp (thn (hb pins s2 σ1 H2 _ I2 q2) fun f s3 q3 => ?_)
    cases f with
    | next =>
      obtain ⟨σ3, H3, I3, n3⟩ := q3
      obtain ⟨m', hm, w3⟩ := hN σ3 H3 n3
      exact ⟨m', hm, σ3, H3, I3, w3⟩
    | cont =>
      obtain ⟨σ3, H3, I3, n3⟩ := q3
      obtain ⟨m', hm, w3⟩ := hN σ3 H3 n3
      exact ⟨m', hm, σ3, H3, I3, w3⟩
    | brk => exact q3
    | ret v => exact q3
  | false =>
    rw [if_neg Bool.false_ne_true]
    exact wpAny_execs_nil ⟨σ1, H2, I2, q2⟩
end

/-! ### what a loop or a comprehension walks -/
/-- at turn i: it yields x (the heap may grow), or it stops -/
structure It where
  go : Nat → Hp → Prop
  yld : Nat → Hp → V → Hp → Prop
  stop : Nat → Hp → Prop
/-- the iterator's own objects may turn: they are not the frame's, not pinned, younger than the entry (or a comprehension's own) -/
def FpOk (X : Cx) (pins : List (Addr × Obj)) (H : Hp) (b : Addr) : Prop :=
  H b = none ∧ b ≠ X.env.locals ∧ b ∉ X.fs ∧ (b ∈ X.ex ∨ X.s₀.heap.objs.size ≤ b) ∧ (∀ x c, X.env.cells.lookup x = some c → c ≠ b) ∧ ∀ p ∈ X.pn ++ pins, p.1 ≠ b
theorem Inv.fpOk {X : Cx} {pins : List (Addr × Obj)} {σ : St} {H H' : Hp} {s : Shared} {b : Addr} (I : Inv X pins σ H s) (hb : s.heap.objs.size ≤ b) (hn : H' b = none) : FpOk X pins H' b := by
  refine ⟨hn, Nat.ne_of_gt (Nat.lt_of_lt_of_le I.lt hb), I.nofs hb, .inr (Nat.le_trans I.sz hb), fun x c e z => ?_, fun p hp z => ?_⟩
  · obtain ⟨v, q⟩ := I.cell x c e
    exact absurd (Nat.lt_of_lt_of_le q.lt (by rw [z]; exact hb)) (Nat.lt_irrefl _)
  · exact absurd (Nat.lt_of_lt_of_le (Heap.lt_size (I.pin p hp).1) (by rw [z]; exact hb)) (Nat.lt_irrefl _)
structure Turn (P : Program) (w : World) (K : PySem.W.Frag) (tg : Expr) (J : It) (fp : List Addr) (it : Addr) (tn : Nat → Heap → Prop) : Prop where
  mem : it ∈ fp
  obj : ∀ i h, tn i h → ∀ b ∈ fp, ∃ o, h.get? b = some o ∧ ∀ v, o.data ≠ .cell v
  keep : ∀ i h h', tn i h → (∀ b ∈ fp, ∀ o, h.get? b = some o → h'.get? b = some o) → tn i h'
  item : ∀ (X : Cx), X.prog = P → X.w = w → X.K = K → X.calm = true → ∀ (i : Nat) (pins : List (Addr × Obj)) (s : Shared) (σ : St) (H : Hp) (E : Value → Shared → Prop), Inv X pins σ H s → (∀ b ∈ fp, FpOk X pins H b) → tn i s.heap → J.go i H →
    wpAny (model P w) X.A (pyNext (.ref it)) (fun r s1 => ∃ u, r = some u ∧
      wpAny (model P w) X.A (letOwnedTupleGo tg (.ref it) u) (fun _ s2 => ∃ x H', Inv X pins σ H' s2 ∧ RelV x u ∧ J.yld i H x H' ∧ tn (i + 1) s2.heap ∧ ∀ b ∈ fp, H' b = none) E s1) E s
  done : ∀ (X : Cx), X.prog = P → X.w = w → X.K = K → X.calm = true → ∀ (i : Nat) (pins : List (Addr × Obj)) (s : Shared) (σ : St) (H : Hp) (E : Value → Shared → Prop), Inv X pins σ H s → (∀ b ∈ fp, FpOk X pins H b) → tn i s.heap → J.stop i H →
    wpAny (model P w) X.A (pyNext (.ref it)) (fun r s1 => r = none ∧ Inv X pins σ H s1) E s
  self : ∀ (A : Around) (i : Nat) (s : Shared) (Q : Value → Shared → Prop) (E : Value → Shared → Prop), tn i s.heap → Q (.ref it) s → wpAny (model P w) A (pyIter (.ref it)) Q E s
abbrev TI := St → Hp → (It → Hp → Prop) → Prop
/-- an iterator has come -/
def PIE (X : Cx) (pins : List (Addr × Obj)) (σ : St) (tg : Expr) (R : It → Hp → Prop) (itv : Value) (s2 : Shared) : Prop :=
  ∃ (it : Addr) (fp : List Addr) (tn : Nat → Heap → Prop) (J : It) (H' : Hp), itv = .ref it ∧ Inv X pins σ H' s2 ∧ Turn X.prog X.w X.K tg J fp it tn ∧ tn 0 s2.heap ∧ (∀ b ∈ fp, FpOk X pins H' b) ∧ R J H'
def PI (X : Cx) (tg iter : Expr) (wi : TI) : Prop :=
  ∀ (pins : List (Addr × Obj)) (s : Shared) (σ : St) (H : Hp) (R : It → Hp → Prop), Inv X pins σ H s → wi σ H R →
    wpAny (model X.prog X.w) X.A (eval iter X.env) (fun v s1 => wpAny (model X.prog X.w) X.A (pyIter v) (PIE X pins σ tg R) X.xe s1) X.xe s

/-- the step ahead of the store is nothing for an iterator that keeps no tuple -/
theorem go_of {M : Model} {A : Around} {E : Value → Shared → Prop} {s : Shared} {tg : Expr} {it : Addr} {u : Value} {o : Obj} {n : String} {vs : Array Value} {Q : Unit → Shared → Prop} (ho : s.heap.get? it = some o) (hc : o.cls = .type n) (hd : o.data = .fields vs)
    (hn : ["enumerate", "zip", "dict_itemiterator", "dict_reverseitemiterator", "odict_iterator", "itertools.zip_longest", "itertools.pairwise"].contains n = false) (hQ : Q () s) : wpAny M A (letOwnedTupleGo tg (.ref it) u) Q E s := by
  unfold letOwnedTupleGo
  cases tg <;> first
    | exact wpAny_pure hQ
    | (cases u <;> first
        | exact wpAny_pure hQ
        | (refine wpAny_bind (wpAny_load ho ?_)
           rw [hc, hd]
           show wpAny M A (if (["enumerate", "zip", "dict_itemiterator", "dict_reverseitemiterator", "odict_iterator", "itertools.zip_longest", "itertools.pairwise"].contains n && vs[0]? == some (rawInt _)) = true then _ else _) Q E s
           rw [if_neg (by intro h; rw [hn, Bool.false_and] at h; cases h)]
           exact wpAny_pure hQ))

/-- the list at a, as it stands at each turn (a loop may append to it) -/
def Itl (K : PySem.W.Frag) (a : Addr) : It :=
  ⟨fun i H => ∃ xs x, SqL K H a xs ∧ xs[i]? = some x, fun i H x H' => H' = H ∧ ∀ xs, SqL K H a xs → xs[i]? = some x, fun i H => ∃ xs, SqL K H a xs ∧ xs.length ≤ i⟩
def Itt (K : PySem.W.Frag) (a : Addr) : It :=
  ⟨fun i H => ∃ xs x, SqT K H a xs ∧ xs[i]? = some x, fun i H x H' => H' = H ∧ ∀ xs, SqT K H a xs → xs[i]? = some x, fun i H => ∃ xs, SqT K H a xs ∧ xs.length ≤ i⟩
/-- lo, lo + 1, .. (n of them) -/
def Itr (lo : Int) (n : Nat) : It := ⟨fun i _ => i < n, fun i H x H' => H' = H ∧ x = .int (lo + i), fun i _ => n ≤ i⟩
theorem turn_list {P : Program} {w : World} {K : PySem.W.Frag} {tg : Expr} (a it : Addr) : Turn P w K tg (Itl K a) [it] it (fun i h => h.IsListIter it a i) where
  mem := by simp
  obj := fun i h st b hb => by
    have e : b = it := by simpa using hb
    subst e
    obtain ⟨o, e, c, d⟩ := st
    exact ⟨o, e, fun v z => by rw [d] at z; cases z⟩
  keep := fun i h h' st k => st.at fun o e => k it (by simp) o e
  item := by
    intro X hP hw hK hc i pins s σ H E I hf st hg
    subst hP hw hK
    obtain ⟨xs, x, hq, hx⟩ := hg
    obtain ⟨its, rv, p, hz⟩ := I.list hq
    obtain ⟨u, hu, ru⟩ := rv.get hx
    obtain ⟨f0, f1, f2, f3, f4, f5⟩ := hf it (by simp)
    refine wpAny_pyNext_list_item st p.isList (x := u) (by simpa using hu) fun h' st' sb => ?_
    have I1 : Inv X pins σ H { s with heap := h' } := I.turned (t' := s.toks) (fun b o hb e => (sb.2 b hb).trans e) f0 f1 f3 f4 f5
    obtain ⟨o, e, c, d⟩ := id st'
    exact ⟨u, rfl, go_of (s := { s with heap := h' }) e c d (by decide) ⟨x, H, I1, ru, ⟨rfl, fun ys hy => by rw [I.list_inj hy hq]; exact hx⟩, st', fun b hb => (hf b hb).1⟩⟩
  done := by
    intro X hP hw hK hc i pins s σ H E I hf st hg
    subst hP hw hK
    obtain ⟨xs, hq, hx⟩ := hg
    obtain ⟨its, rv, p, hz⟩ := I.list hq
    obtain ⟨f0, f1, f2, f3, f4, f5⟩ := hf it (by simp)
    have hl := rv.length
    exact wpAny_pyNext_list_end (I.ok.hd hc) st p.isList (by simp; omega) fun h' eb => ⟨rfl, I.turned (t' := s.toks) (fun b o hb e => eb b o hb e) f0 f1 f3 f4 f5⟩
  self := fun _ _ _ _ _ st h => wpAny_pyIter_listiter st h
theorem turn_range {P : Program} {w : World} {K : PySem.W.Frag} {tg : Expr} (it : Addr) (lo : Int) (n : Nat) : Turn P w K tg (Itr lo n) [it] it (fun i h => IsRangeIter h it (lo + (i : Nat) * 1) ((n : Int) - (i : Nat)) 1) where
  mem := by simp
  obj := fun i h st b hb => by
    have e : b = it := by simpa using hb
    subst e
    exact ⟨_, st, fun v z => by
      have z' : Data.fields _ = Data.cell v := z
      cases z'⟩
  keep := fun i h h' st k => k it (by simp) _ st
  item := by
    intro X hP hw hK hc i pins s σ H E I hf st hg
    subst hP hw hK
    obtain ⟨f0, f1, f2, f3, f4, f5⟩ := hf it (by simp)
    have W := Walks.range (prog := X.prog) (w := X.w) (I.ok.hd hc) it lo 1 n
    refine W.item i s _ _ hg st fun v h' tk hv st' kk => ?_
    obtain ⟨t, rfl⟩ := hv
    have I1 : Inv X pins σ H { s with heap := h', toks := tk } := I.turned (fun b o hb e => kk b o (by simpa using hb) e) f0 f1 f3 f4 f5
    refine ⟨_, rfl, go_of (s := { s with heap := h', toks := tk }) (n := "range_iterator") st' rfl rfl (by decide) ⟨.int (lo + i), H, I1, ⟨t, ?_⟩, ⟨rfl, rfl⟩, st', fun b hb => (hf b hb).1⟩⟩
    rw [Int.mul_one]
  done := by
    intro X hP hw hK hc i pins s σ H E I hf st hg
    subst hP hw hK
    obtain ⟨f0, f1, f2, f3, f4, f5⟩ := hf it (by simp)
    exact wpAny_pyNext_range_end (I.ok.hd hc) st (by have : n ≤ i := hg; omega) fun h' eb => ⟨rfl, I.turned (t' := s.toks) (fun b o hb e => eb b o hb e) f0 f1 f3 f4 f5⟩
  self := fun _ _ _ _ _ st h => wpAny_pyIter_rangeiter st h
end L2

namespace L2
open PySem PySem.Spec PyProof.Rows
section
variable {X : Cx} {tg : Expr}
def iList (K : PySem.W.Frag) (tl : TE) : TI := fun σ H R => tl σ H fun x H1 => ∃ a, x = .ref a ∧ (∃ xs, SqL K H1 a xs) ∧ R (Itl K a) H1
def iTup (K : PySem.W.Frag) (tl : TE) : TI := fun σ H R => tl σ H fun x H1 => ∃ a, x = .ref a ∧ (∃ xs, SqT K H1 a xs) ∧ R (Itt K a) H1
theorem pi_list {l : Expr} {tl : TE} (hl : PE X l tl) : PI X tg l (iList X.K tl) := by
  intro pins s σ H R I h
  refine thn (hl pins s σ H _ I h) fun v s1 ⟨x, H1, I1, r1, q1⟩ => ?_
  obtain ⟨a, e, ⟨xs, hq⟩, q⟩ := q1
  subst e
  cases r1
  obtain ⟨its, rv, p, hz⟩ := I1.list hq
  refine wpAny_pyIter_list p.isList ?_
  refine ⟨s1.heap.objs.size, [s1.heap.objs.size], _, _, H1, rfl, I1.kept (t' := s1.toks) fun b o e => Heap.get?_push_of_some _ e, turn_list a _, ⟨_, Heap.get?_push_size _ rfl, rfl, rfl⟩, fun b hb => ?_, q⟩
  have e : b = s1.heap.objs.size := by simpa using hb
  subst e
  exact I1.fpOk (Nat.le_refl _) (I1.hok.fresh (Nat.le_refl _))
/-- a range object just made, walked -/
theorem range_it {pins : List (Addr × Obj)} {σ : St} {H : Hp} {s : Shared} {R : It → Hp → Prop} {E : Value → Shared → Prop} {lo hi : Int} {t u v : Tok} {tk : Nat} (I : Inv X pins σ H s) (h1 : -(2 ^ 62) ≤ lo) (h2 : lo < 2 ^ 62) (h3 : -(2 ^ 62) ≤ hi) (h4 : hi < 2 ^ 62)
    (q : R (Itr lo (hi - lo).toNat) H) : wpAny (model X.prog X.w) X.A (pyIter (.ref s.heap.objs.size)) (PIE X pins σ tg R) E { s with heap := s.heap.push { cls := .type "range", data := .fields #[.int lo t, .int hi u, .int 1 v] }, toks := tk } := by
  refine wpAny_pyIter_range (IsRange.new ..) (small_one h1 h2 h3 h4) ?_
  have I1 : Inv X pins σ H { s with heap := s.heap.push { cls := .type "range", data := .fields #[.int lo t, .int hi u, .int 1 v] }, toks := tk } := I.kept fun b o e => Heap.get?_push_of_some _ e
  refine ⟨(s.heap.push { cls := .type "range", data := .fields #[.int lo t, .int hi u, .int 1 v] }).objs.size, [(s.heap.push { cls := .type "range", data := .fields #[.int lo t, .int hi u, .int 1 v] }).objs.size], _, _, H, rfl,
    I1.kept (t' := tk) fun b o e => Heap.get?_push_of_some _ e, turn_range _ lo (hi - lo).toNat, ?_, fun b hb => ?_, q⟩
  · have e1 : lo + ((0 : Nat) : Int) * 1 = lo := by simp
    have e2 : (((hi - lo).toNat : Nat) : Int) - ((0 : Nat) : Int) = Builtin.Range.rangeSize lo hi 1 := by rw [rangeSize_one]; split <;> omega
    show IsRangeIter _ _ (lo + ((0 : Nat) : Int) * 1) ((((hi - lo).toNat : Nat) : Int) - ((0 : Nat) : Int)) 1
    rw [e1, e2]
    exact Heap.get?_push_size _ rfl
  · have e : b = (s.heap.push { cls := .type "range", data := .fields #[.int lo t, .int hi u, .int 1 v] }).objs.size := by simpa using hb
    subst e
    exact I1.fpOk (Nat.le_refl _) (I1.hok.fresh (Nat.le_refl _))
def iRng1 (ta : TA) : TI := fun σ H R => ta σ H fun vs H1 => ∃ j : Int, vs = [.int j] ∧ -(2 ^ 62) ≤ j ∧ j < 2 ^ 62 ∧ R (Itr 0 j.toNat) H1
def iRng2 (ta : TA) : TI := fun σ H R => ta σ H fun vs H1 => ∃ i j : Int, vs = [.int i, .int j] ∧ (-(2 ^ 62) ≤ i ∧ i < 2 ^ 62 ∧ -(2 ^ 62) ≤ j ∧ j < 2 ^ 62) ∧ R (Itr i (j - i).toNat) H1
theorem pi_range1 {a : Expr} {ta : TA} {p pos : Pos} (hg : Gl X "range") (hm : X.mg "range" = none) (ha : PA X [a] ta) (hs : starEach [a] X.env = [(false, eval a X.env)] := by rfl) : PI X tg (.Call (.Name "range" p) [a] [] pos) (iRng1 ta) := by
  intro pins s σ H R I h
  refine Call_ (ld_blt I hg hm boot_range (PyProof.Rows.callWith_type1 (thn (ha pos pins s σ H _ I h) fun us s1 ⟨vs, H1, I1, r1, q1⟩ => ?_) hs rfl))
  obtain ⟨j, e, q1, q2, q⟩ := q1
  subst e
  cases r1 with
  | cons r rr =>
    cases rr
    obtain ⟨t, rfl⟩ := r
    exact call_range_1 (range_it I1 (by omega) (by omega) q1 q2 (by simpa using q))
/-! ### for -/
/-- W: the invariant by the turn and a measure; N: what the body is to reach -/
def tFor (wi : TI) (g : TG) (tb : TS) : TS := fun D σ H => wi σ H fun J H1 => ∃ W : Nat → Nat → St → Hp → Prop, (∃ m, W 0 m σ H1) ∧ ∀ i m σ H, W i m σ H →
  (J.stop i H ∧ D.nx σ H) ∨ (J.go i H ∧ ∃ N : St → Hp → Prop, (∀ σ' H', N σ' H' → ∃ m', m' < m ∧ W (i + 1) m' σ' H') ∧ ∀ x H', J.yld i H x H' → g x σ H' fun σ2 H2 => tb { D with nx := N, ct := N, bk := D.nx } σ2 H2)
/-- the records at fp as they stand -/
def pinsAt (fp : List Addr) (h : Heap) : List (Addr × Obj) := fp.filterMap fun b => (h.get? b).map fun o => (b, o)
theorem mem_pinsAt {fp : List Addr} {h : Heap} {b : Addr} {o : Obj} (hb : b ∈ fp) (e : h.get? b = some o) : (b, o) ∈ pinsAt fp h := List.mem_filterMap.mpr ⟨b, hb, by rw [e]; rfl⟩
theorem of_pinsAt {fp : List Addr} {h : Heap} {p : Addr × Obj} (hp : p ∈ pinsAt fp h) : p.1 ∈ fp ∧ h.get? p.1 = some p.2 := by
  obtain ⟨b, hb, e⟩ := List.mem_filterMap.mp hp
  cases q : h.get? b with
  | none => rw [q] at e; cases e
  | some o =>
    rw [q] at e
    have e' : (b, o) = p := Option.some.inj e
    subst e'
    exact ⟨hb, q⟩
theorem Inv.pinned {pins : List (Addr × Obj)} {σ : St} {H : Hp} {s : Shared} {fp : List Addr} (I : Inv X pins σ H s) (hf : ∀ b ∈ fp, FpOk X pins H b) (ho : ∀ b ∈ fp, ∃ o, s.heap.get? b = some o ∧ ∀ v, o.data ≠ .cell v) : Inv X (pins ++ pinsAt fp s.heap) σ H s :=
  I.pins_of fun p hp => (List.mem_append.mp hp).elim (fun z => I.pin p (List.mem_append_right _ z)) fun z => by
    obtain ⟨hb, e⟩ := of_pinsAt z
    obtain ⟨f0, f1, f2, _⟩ := hf p.1 hb
    obtain ⟨o, e', d⟩ := ho p.1 hb
    rw [e] at e'; cases e'
    exact ⟨e, f0, f1, f2, d⟩
theorem Inv.unpinned {pins pl : List (Addr × Obj)} {σ : St} {H : Hp} {s : Shared} (I : Inv X (pins ++ pl) σ H s) : Inv X pins σ H s := I.pins_of fun p hp => I.pin p (List.mem_append_right _ (List.mem_append_left _ hp))
theorem ps_for {iter : Expr} {body : List Stmt} {wi : TI} {g : TG} {tb : TS} {pos : Pos} (hp : PassesOwn (model X.prog X.w) X.A X.env X.xe) (hc : X.calm = true) (hi : PI X tg iter wi) (hg : PG X tg g) (hb : PSs X body tb)
    (hs : ∀ x, foldedSetIterable iter X.env x = pure x := by intro _; rfl) : PS X (.For tg iter body [] pos) (tFor wi g tb) := by
  intro pins s σ H D I h
  refine wpAny_For (thn (hi pins s σ H _ I h) fun v s1 h1 => thn h1 fun itv s2 h2 => ?_) hs
  obtain ⟨it, fp, tn, J, H2, e, I2, T, st2, f2, W, ⟨m0, w0⟩, turn⟩ := h2
  subst e
  -- what stays true of the iterator's objects through the loop
  have stat : ∀ {H' : Hp}, (∀ b ∈ fp, H' b = none) → ∀ b ∈ fp, FpOk X pins H' b := fun hn b hb => ⟨hn b hb, (f2 b hb).2⟩
  refine codeAny_forLoop_any (fun n s' => ∃ i σ' H', Inv X pins σ' H' s' ∧ tn i s'.heap ∧ (∀ b ∈ fp, H' b = none) ∧ W i n σ' H') ?_ m0 ⟨0, σ, H2, I2, st2, fun b hb => (f2 b hb).1, w0⟩
  rintro n s3 ⟨i, σ3, H3, I3, st3, fr3, w3⟩
  rcases turn i n σ3 H3 w3 with ⟨stop, qn⟩ | ⟨go, N, hN, step⟩
  · refine wpAny_passesOwn hp (thn (T.done X rfl rfl rfl hc i pins s3 σ3 H3 X.xe I3 (stat fr3) st3 stop) fun r s4 ⟨hr, I4⟩ => ?_)
    subst hr
    exact wpAny_execs_nil ⟨σ3, H3, I4, qn⟩
  · refine wpAny_passesOwn hp (thn (T.item X rfl rfl rfl hc i pins s3 σ3 H3 X.xe I3 (stat fr3) st3 go) fun r s4 ⟨u, hr, h4⟩ => ?_)
    subst hr
    refine wpAny_passesOwn hp (thn h4 fun _ s5 ⟨x, H5, I5, r5, y5, st5, fr5⟩ => ?_)
    have I5' := I5.pinned (stat fr5) (T.obj _ _ st5)
    refine wpAny_passesOwn hp (thn (hg _ s5 σ3 H5 x u _ I5' r5 (step x H5 y5)) fun _ s6 ⟨σ6, H6, I6, q6⟩ => ?_)
    refine wpAny_passesOwn hp (thn (hb _ s6 σ6 H6 _ I6 q6) fun f s7 q7 => ?_)
    have again : ∀ {σ7 : St} {H7 : Hp}, Inv X (pins ++ pinsAt fp s5.heap) σ7 H7 s7 → N σ7 H7 → ∃ m, m < n ∧ ∃ i σ' H', Inv X pins σ' H' s7 ∧ tn i s7.heap ∧ (∀ b ∈ fp, H' b = none) ∧ W i m σ' H' := fun {σ7 H7} I7 n7 => by
      obtain ⟨m', hm, w7⟩ := hN σ7 H7 n7
      refine ⟨m', hm, i + 1, σ7, H7, I7.unpinned, T.keep _ _ _ st5 fun b hb o e => (I7.pin (b, o) (List.mem_append_right _ (List.mem_append_right _ (mem_pinsAt hb e)))).1, fun b hb => ?_, w7⟩
      obtain ⟨o, e, d⟩ := T.obj _ _ st5 b hb
      exact (I7.pin (b, o) (List.mem_append_right _ (List.mem_append_right _ (mem_pinsAt hb e)))).2.1
    cases f with
    | next => obtain ⟨σ7, H7, I7, n7⟩ := q7; exact again I7 n7
    | cont => obtain ⟨σ7, H7, I7, n7⟩ := q7; exact again I7 n7
    | brk => obtain ⟨σ7, H7, I7, q7⟩ := q7; exact ⟨σ7, H7, I7.unpinned, q7⟩
    | ret v => obtain ⟨x7, σ7, H7, I7, r7, q7⟩ := q7; exact ⟨x7, σ7, H7, I7.unpinned, r7, q7⟩
end

/-! ### the forms one uses -/
theorem for_range {lo : Int} {n : Nat} {g : TG} {tb : TS} {D : Ends} {σ : St} {H : Hp} (Pv : Nat → St → Hp → Prop) (h0 : Pv 0 σ H)
    (hs : ∀ i σ H, i < n → Pv i σ H → g (.int (lo + i)) σ H fun σ2 H2 => tb { D with nx := Pv (i + 1), ct := Pv (i + 1), bk := D.nx } σ2 H2) (hd : ∀ σ H, Pv n σ H → D.nx σ H) :
    ∃ W : Nat → Nat → St → Hp → Prop, (∃ m, W 0 m σ H) ∧ ∀ i m σ H, W i m σ H →
      ((Itr lo n).stop i H ∧ D.nx σ H) ∨ ((Itr lo n).go i H ∧ ∃ N : St → Hp → Prop, (∀ σ' H', N σ' H' → ∃ m', m' < m ∧ W (i + 1) m' σ' H') ∧ ∀ x H', (Itr lo n).yld i H x H' → g x σ H' fun σ2 H2 => tb { D with nx := N, ct := N, bk := D.nx } σ2 H2) := by
  refine ⟨fun i m σ H => m = n - i ∧ i ≤ n ∧ Pv i σ H, ⟨n, by simp, Nat.zero_le _, h0⟩, ?_⟩
  rintro i m σ H ⟨rfl, hi, p⟩
  by_cases hlt : i < n
  · refine .inr ⟨hlt, Pv (i + 1), fun σ' H' p' => ⟨n - (i + 1), by omega, rfl, hlt, p'⟩, fun x H' y => ?_⟩
    obtain ⟨e, y⟩ := y
    subst e y
    exact hs i σ _ hlt p
  · have e : i = n := by omega
    subst e
    exact .inl ⟨Nat.le_refl _, hd σ H p⟩
end L2

namespace L2
open PySem PySem.Spec PyProof.Rows

abbrev R2 := V → V → Hp → VK → Prop
/-- a two-place operation on values: f is binaryOp op, inplaceOp op or compareOp op -/
def OpR (X : Cx) (f : Value → Value → Sem Value) (r : R2) : Prop :=
  ∀ (pins : List (Addr × Obj)) (s : Shared) (σ : St) (H : Hp) (x y : V) (v u : Value) (Q : VK), Inv X pins σ H s → RelV x v → RelV y u → r x y H Q →
    wpAny (model X.prog X.w) X.A (f v u) (EP X pins σ Q) X.xe s
/-- a one-place operation -/
def UnR (X : Cx) (f : Value → Sem Value) (r : V → Hp → VK → Prop) : Prop :=
  ∀ (pins : List (Addr × Obj)) (s : Shared) (σ : St) (H : Hp) (x : V) (v : Value) (Q : VK), Inv X pins σ H s → RelV x v → r x H Q →
    wpAny (model X.prog X.w) X.A (f v) (EP X pins σ Q) X.xe s
/-- a call of a value that is known (a builtin, a type) with values -/
def CallR (X : Cx) (f : Value) (r : List V → Hp → VK → Prop) : Prop :=
  ∀ (pins : List (Addr × Obj)) (s : Shared) (σ : St) (H : Hp) (xs : List V) (us : List Value) (Q : VK), Inv X pins σ H s → Vals xs us → r xs H Q →
    wpAny (model X.prog X.w) X.A (call f us) (EP X pins σ Q) X.xe s
def tOp (r : R2) (ta tb : TE) : TE := fun σ H Q => ta σ H fun x H1 => tb σ H1 fun y H2 => r x y H2 Q
def tUn (r : V → Hp → VK → Prop) (ta : TE) : TE := fun σ H Q => ta σ H fun x H1 => r x H1 Q
/-- ints in, under C, and a value out -/
def rI (C : Int → Int → Prop) (g : Int → Int → V) : R2 := fun x y H Q => ∃ i j, x = .int i ∧ y = .int j ∧ C i j ∧ Q (g i j) H
def rI0 (g : Int → Int → V) : R2 := fun x y H Q => ∃ i j, x = .int i ∧ y = .int j ∧ Q (g i j) H
def rU (g : Int → V) : V → Hp → VK → Prop := fun x H Q => ∃ i, x = .int i ∧ Q (g i) H

section
variable {X : Cx} {a b c : Expr} {ta tb tc : TE} {pos : Pos}

theorem binT (ha : PE X a ta) (hb : PE X b tb) {pins : List (Addr × Obj)} {s : Shared} {σ : St} {H : Hp} {R : V → V → Hp → Prop} (I : Inv X pins σ H s)
    (h : ta σ H fun x H1 => tb σ H1 fun y H2 => R x y H2) {Q : Value → Shared → Prop} {f : Value → Value → Sem Value}
    (hf : ∀ v u s2 x y H2, Inv X pins σ H2 s2 → RelV x v → RelV y u → R x y H2 → wpAny (model X.prog X.w) X.A (f v u) Q X.xe s2) :
    wpAny (model X.prog X.w) X.A (eval a X.env) (fun v s₁ => wpAny (model X.prog X.w) X.A (eval b X.env) (fun u s₂ => wpAny (model X.prog X.w) X.A (f v u) Q X.xe s₂) X.xe s₁) X.xe s := by
  refine thn (ha pins s σ H _ I h) fun v s1 ⟨x, H1, I1, r1, q1⟩ => ?_
  refine thn (hb pins s1 σ H1 _ I1 q1) fun u s2 ⟨y, H2, I2, r2, q2⟩ => ?_
  exact hf v u s2 x y H2 I2 r1 r2 q2

theorem pe_op {op : Operator} {r : R2} (ho : OpR X (binaryOp op) r) (ha : PE X a ta) (hb : PE X b tb) : PE X (.BinOp a op b pos) (tOp r ta tb) := by
  intro pins s σ H Q I h
  exact wpAny_BinOp (binT ha hb I h fun v u s2 x y H2 I2 rx ry q => ho pins s2 σ H2 x y v u Q I2 rx ry q)
theorem pe_un {op : UnaryOp} {r : V → Hp → VK → Prop} (ho : UnR X (unaryOp op) r) (ha : PE X a ta) : PE X (.UnaryOp op a pos) (tUn r ta) := by
  intro pins s σ H Q I h
  exact UnaryOp_ (thn (ha pins s σ H _ I h) fun v s1 ⟨x, H1, I1, r1, q1⟩ => ho pins s1 σ H1 x v Q I1 r1 q1)
/-! ### ints -/
theorem opI {f : Value → Value → Sem Value} {C : Int → Int → Prop} {g : Int → Int → Int}
    (rule : ∀ (i j : Int) (t u : Tok) (s : Shared) (Q : Value → Shared → Prop) (E : Value → Shared → Prop), C i j → Q (.int (g i j) s.toks) { s with toks := s.toks + 1 } → wpAny (model X.prog X.w) X.A (f (.int i t) (.int j u)) Q E s) :
    OpR X f (rI C fun i j => .int (g i j)) := by
  intro pins s σ H x y v u Q I rx ry h
  obtain ⟨i, j, rfl, rfl, hc, q⟩ := h
  obtain ⟨t, rfl⟩ := rx
  obtain ⟨t', rfl⟩ := ry
  exact rule i j t t' s _ _ hc ⟨.int (g i j), H, I.tok _, ⟨_, rfl⟩, q⟩
theorem opI0 {f : Value → Value → Sem Value} {g : Int → Int → Int}
    (rule : ∀ (i j : Int) (t u : Tok) (s : Shared) (Q : Value → Shared → Prop) (E : Value → Shared → Prop), Q (.int (g i j) s.toks) { s with toks := s.toks + 1 } → wpAny (model X.prog X.w) X.A (f (.int i t) (.int j u)) Q E s) :
    OpR X f (rI0 fun i j => .int (g i j)) := by
  intro pins s σ H x y v u Q I rx ry h
  obtain ⟨i, j, rfl, rfl, q⟩ := h
  obtain ⟨t, rfl⟩ := rx
  obtain ⟨t', rfl⟩ := ry
  exact rule i j t t' s _ _ ⟨.int (g i j), H, I.tok _, ⟨_, rfl⟩, q⟩
theorem opB0 {f : Value → Value → Sem Value} {g : Int → Int → Bool}
    (rule : ∀ (i j : Int) (t u : Tok) (s : Shared) (Q : Value → Shared → Prop) (E : Value → Shared → Prop), Q (.bool (g i j)) s → wpAny (model X.prog X.w) X.A (f (.int i t) (.int j u)) Q E s) :
    OpR X f (rI0 fun i j => .bl (g i j)) := by
  intro pins s σ H x y v u Q I rx ry h
  obtain ⟨i, j, rfl, rfl, q⟩ := h
  obtain ⟨t, rfl⟩ := rx
  obtain ⟨t', rfl⟩ := ry
  exact rule i j t t' s _ _ ⟨.bl (g i j), H, I, rfl, q⟩

def CDiv (i j : Int) : Prop := 0 < j ∧ j < 1073741824
def CPow (i j : Int) : Prop := 0 ≤ j ∧ j ≤ 1000000 ∧ i.natAbs < 2 ^ 64
def CMul (i j : Int) : Prop := (-(2 ^ 64) < i ∧ i < 2 ^ 64) ∨ (-(2 ^ 64) < j ∧ j < 2 ^ 64)
theorem CMul.ok {i j : Int} (h : CMul i j) : IntMulOk i j := by
  rcases h with ⟨h1, h2⟩ | ⟨h1, h2⟩
  · exact .of_left (intBits_le_64 h1 h2)
  · exact .of_right (intBits_le_64 h1 h2)
theorem two_pow_nn (k : Nat) : (0 : Int) ≤ 2 ^ k := by
  rw [two_pow_cast]
  exact Int.natCast_nonneg _

theorem op_add : OpR X (binaryOp .Add) (rI0 fun i j => .int (i + j)) := opI0 fun _ _ _ _ _ _ _ q => add_int q
theorem op_sub : OpR X (binaryOp .Sub) (rI0 fun i j => .int (i - j)) := opI0 fun _ _ _ _ _ _ _ q => sub_int q
theorem op_mul : OpR X (binaryOp .Mult) (rI CMul fun i j => .int (i * j)) := opI fun _ _ _ _ _ _ _ hc q => mul_int q hc.ok
/-- // by a positive divisor -/
theorem op_fdiv : OpR X (binaryOp .FloorDiv) (rI CDiv fun i j => .int (i / j)) := opI fun i j _ _ _ _ _ hc q => by
  have h1 : (0 : Int) < j := hc.1
  have h2 : j < 1073741824 := hc.2
  exact floordiv_int (by omega) (by rw [Int.fdiv_eq_ediv_of_nonneg i (by omega)]; exact q) (.inl (PyProof.noPylong_small (by omega)))
/-- % by a positive divisor of any size -/
theorem op_mod : OpR X (binaryOp .Mod) (rI (fun _ j => 0 < j) fun i j => .int (i % j)) := opI fun i j _ _ _ _ _ hc q => by
  have h1 : (0 : Int) < j := hc
  exact mod_int' (by omega) (by rw [Int.fmod_eq_emod_of_nonneg i (by omega)]; exact q)
theorem op_pow : OpR X (binaryOp .Pow) (rI CPow fun i j => .int (i ^ j.toNat)) := opI fun _ _ _ _ _ _ _ hc q => pow_int_small hc.1 hc.2.1 hc.2.2 q
theorem op_shr : OpR X (binaryOp .RShift) (rI (fun _ j => 0 ≤ j) fun i j => .int (i / 2 ^ j.toNat)) := opI fun i j _ _ _ _ _ hc q =>
  rshift_int hc (by rw [Int.fdiv_eq_ediv_of_nonneg i (two_pow_nn _)]; exact q)
theorem op_and : OpR X (binaryOp .BitAnd) (rI0 fun i j => .int (Builtin.bitAnd i j)) := opI0 fun _ _ _ _ _ _ _ q => and_int q
theorem unI {f : Value → Sem Value} {g : Int → Int}
    (rule : ∀ (i : Int) (t : Tok) (s : Shared) (Q : Value → Shared → Prop) (E : Value → Shared → Prop), Q (.int (g i) s.toks) { s with toks := s.toks + 1 } → wpAny (model X.prog X.w) X.A (f (.int i t)) Q E s) :
    UnR X f (rU fun i => .int (g i)) := by
  intro pins s σ H x v Q I rx h
  obtain ⟨i, rfl, q⟩ := h
  obtain ⟨t, rfl⟩ := rx
  exact rule i t s _ _ ⟨.int (g i), H, I.tok _, ⟨_, rfl⟩, q⟩
theorem un_neg : UnR X (unaryOp .USub) (rU fun i => .int (-i)) := unI fun _ _ _ _ _ q => neg_int q
/-! ### bools among ints: n += (a < b) -/
end

/-! ### comparisons -/
/-- the scalars that == tells apart as data does -/
def scal : V → V → Bool
  | .non, .non => true | .non, .int _ => true | .int _, .non => true | .non, .bl _ => true | .bl _, .non => true | .non, .str _ => true | .str _, .non => true
  | .int _, .int _ => true | .bl _, .bl _ => true | .str _, .str _ => true | .byt _, .byt _ => true
  | .int _, .str _ => true | .str _, .int _ => true | .bl _, .str _ => true | .str _, .bl _ => true
  | _, _ => false
def rEq : R2 := fun x y H Q => scal x y = true ∧ Q (.bl (decide (x = y))) H
def rNe : R2 := fun x y H Q => scal x y = true ∧ Q (.bl (!decide (x = y))) H

theorem dec_int {i j : Int} : decide (V.int i = V.int j) = (i == j) := by
  rw [Bool.eq_iff_iff]
  simp
theorem dec_bl {i j : Bool} : decide (V.bl i = V.bl j) = (i == j) := by
  rw [Bool.eq_iff_iff]
  simp
theorem dec_str {i j : Str} : decide (V.str i = V.str j) = (i == j) := by
  rw [Bool.eq_iff_iff]
  simp
theorem dec_byt {i j : Array UInt8} : decide (V.byt i = V.byt j) = (i.toList == j.toList) := by
  rw [Bool.eq_iff_iff]
  cases i
  cases j
  simp

section
variable {X : Cx} {a b c : Expr} {ta tb tc : TE} {pos : Pos}
theorem fin_bl {pins : List (Addr × Obj)} {σ : St} {H : Hp} {s : Shared} {Q : VK} {k k' : Bool} (I : Inv X pins σ H s) (q : Q (.bl k) H) (e : k = k') : EP X pins σ Q (.bool k') s := by
  subst e
  exact ⟨.bl k, H, I, rfl, q⟩
theorem op_eq : OpR X (compareOp .Eq) rEq := by
  intro pins s σ H x y v u Q I rx ry h
  obtain ⟨hs, q⟩ := h
  cases x with
  | non =>
    cases rx
    cases y with
    | non => cases ry; exact PySem.EqNone.eq_none_none (fin_bl I q (by simp))
    | bl j => cases ry; exact PySem.EqNone.eq_none_bool (fin_bl I q (by simp))
    | int j => obtain ⟨t', rfl⟩ := ry; exact PySem.EqNone.eq_none_int (fin_bl I q (by simp))
    | str j => obtain ⟨t', rfl⟩ := ry; exact PySem.EqNone.eq_none_str (fin_bl I q (by simp))
    | _ => exact absurd (show false = true from hs) Bool.false_ne_true
  | bl i =>
    cases rx
    cases y with
    | non => cases ry; exact PySem.EqNone.eq_bool_none (fin_bl I q (by simp))
    | bl j => cases ry; exact eq_bool (fin_bl I q dec_bl)
    | str j => obtain ⟨t', rfl⟩ := ry; exact PySem.EqMixed.eq_bool_str (fin_bl I q (by simp))
    | _ => exact absurd (show false = true from hs) Bool.false_ne_true
  | int i =>
    obtain ⟨t, rfl⟩ := rx
    cases y with
    | non => cases ry; exact PySem.EqNone.eq_int_none (fin_bl I q (by simp))
    | int j => obtain ⟨t', rfl⟩ := ry; exact eq_int (fin_bl I q dec_int)
    | str j => obtain ⟨t', rfl⟩ := ry; exact PySem.EqMixed.eq_int_str (fin_bl I q (by simp))
    | _ => exact absurd (show false = true from hs) Bool.false_ne_true
  | str i =>
    obtain ⟨t, rfl⟩ := rx
    cases y with
    | non => cases ry; exact PySem.EqNone.eq_str_none (fin_bl I q (by simp))
    | bl j => cases ry; exact PySem.EqMixed.eq_str_bool (fin_bl I q (by simp))
    | int j => obtain ⟨t', rfl⟩ := ry; exact PySem.EqMixed.eq_str_int (fin_bl I q (by simp))
    | str j => obtain ⟨t', rfl⟩ := ry; exact eq_str (fin_bl I q dec_str)
    | _ => exact absurd (show false = true from hs) Bool.false_ne_true
  | byt i =>
    obtain ⟨t, rfl⟩ := rx
    cases y with
    | byt j => obtain ⟨t', rfl⟩ := ry; exact PySem.W.eq_bytes (fin_bl I q dec_byt)
    | _ => exact absurd (show false = true from hs) Bool.false_ne_true
  | _ => cases y <;> exact absurd (show false = true from hs) Bool.false_ne_true
theorem op_ne : OpR X (compareOp .NotEq) rNe := by
  intro pins s σ H x y v u Q I rx ry h
  obtain ⟨hs, q⟩ := h
  cases x with
  | non =>
    cases rx
    cases y with
    | non => cases ry; exact PySem.EqNone.ne_none_none (fin_bl I q (by simp))
    | bl j => cases ry; exact PySem.EqNone.ne_none_bool (fin_bl I q (by simp))
    | int j => obtain ⟨t', rfl⟩ := ry; exact PySem.EqNone.ne_none_int (fin_bl I q (by simp))
    | str j => obtain ⟨t', rfl⟩ := ry; exact PySem.EqNone.ne_none_str (fin_bl I q (by simp))
    | _ => exact absurd (show false = true from hs) Bool.false_ne_true
  | bl i =>
    cases rx
    cases y with
    | non => cases ry; exact PySem.EqNone.ne_bool_none (fin_bl I q (by simp))
    | bl j => cases ry; exact ne_bool (fin_bl I q (congrArg not dec_bl))
    | str j => obtain ⟨t', rfl⟩ := ry; exact PySem.EqMixed.ne_bool_str (fin_bl I q (by simp))
    | _ => exact absurd (show false = true from hs) Bool.false_ne_true
  | int i =>
    obtain ⟨t, rfl⟩ := rx
    cases y with
    | non => cases ry; exact PySem.EqNone.ne_int_none (fin_bl I q (by simp))
    | int j => obtain ⟨t', rfl⟩ := ry; exact ne_int (fin_bl I q (congrArg not dec_int))
    | str j => obtain ⟨t', rfl⟩ := ry; exact PySem.EqMixed.ne_int_str (fin_bl I q (by simp))
    | _ => exact absurd (show false = true from hs) Bool.false_ne_true
  | str i =>
    obtain ⟨t, rfl⟩ := rx
    cases y with
    | non => cases ry; exact PySem.EqNone.ne_str_none (fin_bl I q (by simp))
    | bl j => cases ry; exact PySem.EqMixed.ne_str_bool (fin_bl I q (by simp))
    | int j => obtain ⟨t', rfl⟩ := ry; exact PySem.EqMixed.ne_str_int (fin_bl I q (by simp))
    | str j => obtain ⟨t', rfl⟩ := ry; exact ne_str (fin_bl I q (congrArg not dec_str))
    | _ => exact absurd (show false = true from hs) Bool.false_ne_true
  | byt i =>
    obtain ⟨t, rfl⟩ := rx
    cases y with
    | byt j => obtain ⟨t', rfl⟩ := ry; exact PySem.W.ne_bytes (fin_bl I q (congrArg not dec_byt))
    | _ => exact absurd (show false = true from hs) Bool.false_ne_true
  | _ => cases y <;> exact absurd (show false = true from hs) Bool.false_ne_true

theorem op_lt : OpR X (compareOp .Lt) (rI0 fun i j => .bl (decide (i < j))) := opB0 fun _ _ _ _ _ _ _ q => lt_int q
theorem op_le : OpR X (compareOp .LtE) (rI0 fun i j => .bl (decide (i ≤ j))) := opB0 fun _ _ _ _ _ _ _ q => le_int q
theorem op_gt : OpR X (compareOp .Gt) (rI0 fun i j => .bl (decide (j < i))) := opB0 fun _ _ _ _ _ _ _ q => gt_int q
/-- the one string within the other -/
theorem op_in_str : OpR X (compareOp .In) (fun x y H Q => ∃ i j, x = .str i ∧ y = .str j ∧ Q (.bl (!(Builtin.Str.occurrences j i 0 j.length 1).isEmpty)) H) := by
  intro pins s σ H x y v u Q I rx ry h
  obtain ⟨i, j, rfl, rfl, q⟩ := h
  obtain ⟨t, rfl⟩ := rx
  obtain ⟨t', rfl⟩ := ry
  exact in_str (fin_bl I q rfl)

/-- two rules for one operation: by cases -/
theorem OpR.or {f : Value → Value → Sem Value} {r r' : R2} (h : OpR X f r) (h' : OpR X f r') : OpR X f (fun x y H Q => r x y H Q ∨ r' x y H Q) := by
  intro pins s σ H x y v u Q I rx ry q
  rcases q with q | q
  · exact h pins s σ H x y v u Q I rx ry q
  · exact h' pins s σ H x y v u Q I rx ry q

theorem nomark (b : Expr) {op : CmpOp} (h : op ≠ .In := by decide) (h2 : op ≠ .NotIn := by decide) : behindInMarks op b = false := by
  have e1 : (op == CmpOp.In) = false := by cases op <;> first | rfl | exact absurd rfl h
  have e2 : (op == CmpOp.NotIn) = false := by cases op <;> first | rfl | exact absurd rfl h2
  cases b <;> simp [behindInMarks, e1, e2]
/-- a comparison as a value; hm: nomark b, or (for in, not in) by with_unfolding_all rfl -/
theorem pe_cmpR {op : CmpOp} {r : R2} (ho : OpR X (compareOp op) r) (ha : PE X a ta) (hb : PE X b tb) (hm : behindInMarks op b = false) : PE X (.Compare a [op] [b] pos) (tOp r ta tb) := by
  intro pins s σ H Q I h
  exact wpAny_Compare1 (binT ha hb I h fun v u s2 x y H2 I2 rx ry q => ho pins s2 σ H2 x y v u Q I2 rx ry q) hm
/-- a reading of a value as a test -/
def tTest (t : TE) : TT := fun σ H Q => t σ H fun x H' => ∃ k, x = .bl k ∧ Q k H'
theorem pt_cmpR {op : CmpOp} {r : R2} (ho : OpR X (compareOp op) r) (ha : PE X a ta) (hb : PE X b tb) (hm : behindInMarks op b = false) : PT X (.Compare a [op] [b] pos) (tTest (tOp r ta tb)) := by
  intro pins s σ H Q I h
  refine wpAny_isTrue_Compare1 (thn (ha pins s σ H _ I h) fun v s1 ⟨x, H1, I1, r1, q1⟩ => thn (hb pins s1 σ H1 _ I1 q1) fun u s2 ⟨y, H2, I2, r2, q2⟩ =>
    thn (ho pins s2 σ H2 x y v u _ I2 r1 r2 q2) fun c s3 ⟨z, H3, I3, r3, k, e, q3⟩ => ?_) hm
  subst e
  cases r3
  exact wpAny_truthy_bool ⟨H3, I3, q3⟩
/-- a op1 b op2 c -/
def tChain (r r' : R2) (ta tb tc : TE) : TE := fun σ H Q => ta σ H fun x H1 => tb σ H1 fun y H2 => r x y H2 fun z H3 => ∃ k, z = .bl k ∧
  (if k = true then tc σ H3 fun w' H4 => r' y w' H4 Q else Q (.bl false) H3)
theorem pe_chain {op op' : CmpOp} {r r' : R2} (ho : OpR X (compareOp op) r) (ho' : OpR X (compareOp op') r') (ha : PE X a ta) (hb : PE X b tb) (hc : PE X c tc)
    (hm : lastMarks [op, op'] [b, c] = false := by with_unfolding_all rfl) : PE X (.Compare a [op, op'] [b, c] pos) (tChain r r' ta tb tc) := by
  intro pins s σ H Q I h
  refine Compare_chain (thn (ha pins s σ H _ I h) fun v s1 ⟨x, H1, I1, r1, q1⟩ => chain_link (thn (hb pins s1 σ H1 _ I1 q1) fun u s2 ⟨y, H2, I2, r2, q2⟩ =>
    thn (ho pins s2 σ H2 x y v u _ I2 r1 r2 q2) fun d s3 ⟨z, H3, I3, r3, k, e, q3⟩ => ?_)) hm
  subst e
  cases r3
  refine wpAny_truthy_bool ?_
  cases k with
  | false => exact ite_ff ⟨.bl false, H3, I3, rfl, q3⟩
  | true => exact ite_tt (chain_last (thn (hc pins s3 σ H3 _ I3 q3) fun w' s4 ⟨z', H4, I4, r4, q4⟩ => ho' pins s4 σ H4 y z' u w' Q I4 r2 r4 q4))
theorem pt_chain {op op' : CmpOp} {r r' : R2} (ho : OpR X (compareOp op) r) (ho' : OpR X (compareOp op') r') (ha : PE X a ta) (hb : PE X b tb) (hc : PE X c tc)
    (hm : lastMarks [op, op'] [b, c] = false := by with_unfolding_all rfl) : PT X (.Compare a [op, op'] [b, c] pos) (tTest (tChain r r' ta tb tc)) := by
  intro pins s σ H Q I h
  refine isTrue_chain (thn (ha pins s σ H _ I h) fun v s1 ⟨x, H1, I1, r1, q1⟩ => test_link (thn (hb pins s1 σ H1 _ I1 q1) fun u s2 ⟨y, H2, I2, r2, q2⟩ =>
    thn (ho pins s2 σ H2 x y v u _ I2 r1 r2 q2) fun d s3 ⟨z, H3, I3, r3, k, e, q3⟩ => ?_)) hm
  subst e
  cases r3
  refine wpAny_truthy_bool ?_
  cases k with
  | false =>
    obtain ⟨k', e', q'⟩ := q3
    cases e'
    exact ite_ff ⟨H3, I3, q'⟩
  | true =>
    refine ite_tt (test_last (thn (hc pins s3 σ H3 _ I3 q3) fun w' s4 ⟨z', H4, I4, r4, q4⟩ => thn (ho' pins s4 σ H4 y z' u w' _ I4 r2 r4 q4) fun d' s5 ⟨z2, H5, I5, r5, k2, e2, q5⟩ => ?_))
    subst e2
    cases r5
    exact wpAny_truthy_bool ⟨H5, I5, q5⟩

/-! ### truth -/
theorem line63 : (sizeLine : Nat) < 2 ^ 63 := by rw [sizeLine_eq]; decide
/-! ### strs and bytes -/
theorem op_add_str : OpR X (binaryOp .Add) (fun x y H Q => ∃ i j, x = .str i ∧ y = .str j ∧ i.length + j.length ≤ sizeLine ∧ Q (.str (i ++ j)) H) := by
  intro pins s σ H x y v u Q I rx ry h
  obtain ⟨i, j, rfl, rfl, hz, q⟩ := h
  obtain ⟨t, rfl⟩ := rx
  obtain ⟨t', rfl⟩ := ry
  exact add_str (fun t' tk => ⟨.str (i ++ j), H, I.tok _, ⟨_, rfl⟩, q⟩) hz
/-! ### scalar builtins, by CallR -/
theorem vals1 {x : V} {us : List Value} (r : Vals [x] us) : ∃ u, us = [u] ∧ RelV x u := by
  cases r with
  | cons r1 r2 => cases r2; exact ⟨_, rfl, r1⟩
theorem vals2 {x y : V} {us : List Value} (r : Vals [x, y] us) : ∃ u w', us = [u, w'] ∧ RelV x u ∧ RelV y w' := by
  cases r with
  | cons r1 r2 =>
    cases r2 with
    | cons r3 r4 => cases r4; exact ⟨_, _, rfl, r1, r3⟩
end
end L2

namespace L2
open PySem PySem.Spec PyProof.Rows

/-! ### an instance, its attributes a map -/
structure ObjM (h : Heap) (x dx C : Addr) (mA : Str → Option Value) : Prop where
  obj : h.get? x = some (PySem.W.instObj C dx)
  ns : h.Ns1 dx mA
  ne : dx ≠ x

theorem lookIn_ns {h : Heap} {dx : Addr} {mA : Str → Option Value} (n : h.Ns1 dx mA) : ∃ od, h.get? dx = some od ∧ ∀ name, PySem.W.lookIn name od = some (mA name) := by
  obtain ⟨o, es, ep, ho, hd, hk, _, hm⟩ := n
  refine ⟨o, ho, fun name => ?_⟩
  have e := hm name
  unfold nsFind findBy at e
  rw [← Array.find?_toList] at e
  unfold PySem.W.lookIn
  rw [hd]
  dsimp only
  split
  · rename_i y q
    rw [q] at e
    exact congrArg some e
  · rename_i q
    rw [q] at e
    have a : es.toList.any (·.refKey) = false := by
      rw [List.any_eq_false]
      intro y hy
      obtain ⟨z, t, hkey⟩ := hk y (Array.mem_toList_iff.mp hy)
      simp [DictEntry.refKey, hkey]
    have a' : ¬ es.toList.any (·.refKey) = true := by rw [a]; exact Bool.false_ne_true
    rw [if_neg a']
    exact congrArg some e

theorem ObjM.look {h : Heap} {x dx C : Addr} {mA : Str → Option Value} (I : ObjM h x dx C mA) : ∃ od, PySem.W.InstAt h x (PySem.W.instObj C dx) C (some od) ∧ ∀ name, PySem.W.lookIn name od = some (mA name) :=
  let ⟨od, ho, hl⟩ := lookIn_ns I.ns
  ⟨od, ⟨I.obj, rfl, rfl, ho⟩, hl⟩

section
variable {prog : Program} {w : World} {A : Around} {E : Value → Shared → Prop} {s : Shared} {K : PySem.W.Frag} {x dx C f : Addr} {mA : Str → Option Value} {name : Str} {v : Value}

theorem get_map {expr : Bool} {Q : Value → Shared → Prop} (X : K.In s.heap) (I : ObjM s.heap x dx C mA) (hg : PySem.W.plainGet K C name = true) (hh : PySem.W.hasDictIn K C = true)
    (ha : PySem.W.findIn K (.ref C) name = some none) (hv : mA name = some v) (hv' : PySem.W.handedIn v = true) (h : Q v { s with toks := s.toks + 1 }) :
    wpAny (model prog w) A (getAttr (.ref x) name expr) Q E s := by
  obtain ⟨od, J, hl⟩ := I.look
  exact PySem.W.get_value X J (PySem.W.plainGet_of hg).1 (PySem.W.findObj_own hh ha rfl (by rw [hl, hv])) hv' h

theorem get_meth {pl : Sem Bool} {Q : Value × List Value → Shared → Prop} (X : K.In s.heap) (I : ObjM s.heap x dx C mA) (hg : PySem.W.plainGet K C name = true)
    (hf : PySem.W.findIn K (.ref C) name = some (some (.ref f))) (ht : PySem.W.isFn K (.ref f) = true) (hv : mA name = none) (h : Q (.ref f, [.ref x]) s) :
    wpAny (model prog w) A (getMethod (.ref x) name pl) Q E s := by
  obtain ⟨od, J, hl⟩ := I.look
  exact PySem.W.method_fn X J (PySem.W.plainGet_of hg).1 (PySem.W.plainGet_of hg).2 hf (beq_iff_eq.mp ht) (by show (PySem.W.lookIn name od).map (·.isSome) = some false; rw [hl, hv]; rfl) h

theorem set_map {ns : List Str} {Q : Unit → Shared → Prop} (X : K.In s.heap) (I : ObjM s.heap x dx C mA)
    (hs : PySem.W.findIn K (.ref C) "__setattr__" = some (some (.builtin "object.__setattr__"))) (hp : PySem.W.plainOver K C = true) (ht : PySem.W.takerIn K C name = some none) (hh : PySem.W.hasDictIn K C = true)
    (hw : PySem.Within mA ns) (hsz : ns.length ≤ sizeLine)
    (h : ∀ h', ObjM h' x dx C (fun y => if y = name then some v else mA y) → Heap.SameBut dx s.heap h' → Q () { s with heap := h', toks := s.toks + 2 }) :
    wpAny (model prog w) A (setAttr (.ref x) name v) Q E s := by
  obtain ⟨od, J, hl⟩ := I.look
  refine PySem.W.set_plain X J hs (PySem.W.osa_open (s := { s with toks := s.toks + 1 }) (r := none) X J hp ht fun b => ?_)
  obtain ⟨cd, hc, hd'⟩ := PySem.W.any_some hh
  have hx : s.heap.get? x = some ⟨.ref C, some dx, .plain, #[]⟩ := I.obj
  refine wpAny_bind (wpAny_pure (wpAny_bind (wpAny_bind (wpAny_loadPart hx (wpAny_bind (PySem.W.Looks.here (s := { s with toks := s.toks + 1 }) (PySem.W.looks_clsIn X hc) ?_))))))
  rw [hd']
  refine wpAny_pure (a := some dx) (wpAny_bind (wpAny_pure (wpAny_bind ?_)))
  refine wpAny_nsSet1 (s := { s with toks := s.toks + 1 }) I.ns fun h' hn2 hs2 => ?_
  obtain ⟨oD, esD, epD, hoD, hdD, hcD⟩ := hn2.count (PySem.Within.cons name v hw)
  refine wpAny_bind (wpAny_lookBehind hoD (by rw [hdD]; exact pastItsLine_dict (Nat.le_trans hcD (by rw [List.length_cons]; omega))) ?_)
  exact wpAny_pure (h _ ⟨(hs2.2 _ (Ne.symm I.ne)).trans I.obj, hn2, I.ne⟩ hs2)

/-- C(..): the dict at the heap's end, the instance behind it; then its __init__ -/
theorem make_map {R : Result → Shared → Prop} {vs : List Value} {kw : List (Str × Value)} (X : K.In s.heap) (hm : PySem.W.makesIn K C = true)
    (hi : PySem.W.findIn K (.ref C) "__init__" = some (some (.ref f))) (hf : PySem.W.typeIn K (.ref f) = some (.type "function"))
    (h : codeAny (model prog w) (A.under (.builtin "type.__call__" ⟨.ref C :: vs, kw⟩)) (.call (.ref f) ⟨.ref (s.heap.objs.size + 1) :: vs, kw⟩) (PySem.W.InitBack (s.heap.objs.size + 1) R)
      { s with heap := (s.heap.push PySem.W.emptyDict).push (PySem.W.instObj C s.heap.objs.size) }) :
    codeAny (model prog w) A (.call (.ref C) ⟨vs, kw⟩) R s := by
  obtain ⟨hh, g, d, t, os⟩ := s
  exact PySem.W.make_core (PySem.W.makes_of X hm) (PySem.W.looks_findIn X hi) (fun self => PySem.W.bind_fn X self hf) (.inl rfl) h
end

/-! ### the attributes as a list of pairs -/
def putF (f : Str) (v : V) : List (Str × V) → List (Str × V)
  | [] => [(f, v)]
  | (g, x) :: r => if g = f then (g, v) :: r else (g, x) :: putF f v r
theorem lookup_putF (f g : Str) (v : V) : ∀ fs : List (Str × V), (putF f v fs).lookup g = if g = f then some v else fs.lookup g
  | [] => by
    show List.lookup g [(f, v)] = _
    by_cases h : g = f
    · have hb : (g == f) = true := beq_iff_eq.mpr h
      simp only [List.lookup, hb, if_pos h]
    · have hb : (g == f) = false := beq_eq_false_iff_ne.mpr h
      simp only [List.lookup, hb, if_neg h]
  | (k, x) :: r => by
    have ih := lookup_putF f g v r
    rw [show putF f v ((k, x) :: r) = (if k = f then (k, v) :: r else (k, x) :: putF f v r) from rfl]
    by_cases hk : k = f
    · rw [if_pos hk]
      by_cases h : g = k
      · have hb : (g == k) = true := beq_iff_eq.mpr h
        simp only [List.lookup, hb, if_pos (h.trans hk)]
      · have hb : (g == k) = false := beq_eq_false_iff_ne.mpr h
        simp only [List.lookup, hb, if_neg (fun e : g = f => h (e.trans hk.symm))]
    · rw [if_neg hk]
      by_cases h : g = k
      · have hb : (g == k) = true := beq_iff_eq.mpr h
        simp only [List.lookup, hb, if_neg (fun e : g = f => hk (h.symm.trans e))]
      · have hb : (g == k) = false := beq_eq_false_iff_ne.mpr h
        simp only [List.lookup, hb]
        exact ih
theorem keys_putF (f : Str) (v : V) : ∀ fs : List (Str × V), f ∈ (putF f v fs).map (·.1) ∧ ∀ g, g ∈ fs.map (·.1) → g ∈ (putF f v fs).map (·.1)
  | [] => ⟨by simp [putF], fun g h => by simp at h⟩
  | (k, x) :: r => by
    obtain ⟨i1, i2⟩ := keys_putF f v r
    rw [show putF f v ((k, x) :: r) = (if k = f then (k, v) :: r else (k, x) :: putF f v r) from rfl]
    by_cases hk : k = f
    · rw [if_pos hk]
      subst hk
      exact ⟨by simp, fun g h => by simpa using h⟩
    · rw [if_neg hk]
      refine ⟨?_, fun g h => ?_⟩
      · rw [List.map_cons]
        exact List.mem_cons_of_mem _ i1
      · rw [List.map_cons] at h ⊢
        rcases List.mem_cons.mp h with e | e
        · exact List.mem_cons.mpr (.inl e)
        · exact List.mem_cons_of_mem _ (i2 g e)
theorem length_putF (f : Str) (v : V) : ∀ fs : List (Str × V), (putF f v fs).length ≤ fs.length + 1
  | [] => by simp [putF]
  | (k, x) :: r => by
    have ih := length_putF f v r
    rw [show putF f v ((k, x) :: r) = (if k = f then (k, v) :: r else (k, x) :: putF f v r) from rfl]
    by_cases hk : k = f
    · rw [if_pos hk, List.length_cons, List.length_cons]; omega
    · rw [if_neg hk, List.length_cons, List.length_cons]; omega

theorem RelO.some_of {v : V} {o : Option Value} (r : RelO (some v) o) : ∃ u, o = some u ∧ RelV v u := by
  cases o with
  | none => exact (show False from r).elim
  | some u => exact ⟨u, rfl, r⟩
theorem RelO.none_of {o : Option Value} (r : RelO none o) : o = none := by
  cases o with
  | none => rfl
  | some u => exact (show False from r).elim
theorem handed_of {v : V} {u : Value} (r : RelV v u) : PySem.W.handedIn u = true := by
  cases v with
  | non => cases (show u = Value.none from r); rfl
  | bl b => cases (show u = Value.bool b from r); rfl
  | int i => obtain ⟨t, e⟩ := (show ∃ t, u = Value.int i t from r); cases e; rfl
  | str x => obtain ⟨t, e⟩ := (show ∃ t, u = Value.str x t from r); cases e; rfl
  | byt b => obtain ⟨t, e⟩ := (show ∃ t, u = Value.bytes b t from r); cases e; rfl
  | flt b => obtain ⟨t, e⟩ := (show ∃ t, u = Value.float b t from r); cases e; rfl
  | ref a => cases (show u = Value.ref a from r); rfl
  | ty n => cases (show u = Value.type n from r); rfl

section
variable {P : Program} {w : World} {H H' : Hp} {h h' : Heap} {a C dx : Addr} {fs fs' : List (Str × V)}
theorem ins_get (hok : HOk P w H h) (e : H a = some (.ins C dx fs)) : ∃ mA, ObjM h a dx C mA ∧ (∀ f, RelO (fs.lookup f) (mA f)) ∧ PySem.Within mA (fs.map (·.1)) ∧ fs.length ≤ 1000 ∧ H dx = some (.own a) := by
  obtain ⟨d, z, ne, ob, mA, n, r, q⟩ := (show ObjOk P w H h a (.ins C dx fs) from hok a _ e)
  exact ⟨mA, ⟨ob, n, ne⟩, r, q, z, d⟩
end

/-! ### what of the text a class must have -/
structure Cls (K : PySem.W.Frag) (C : Addr) : Prop where
  pg : PySem.W.plainGet K C Str.empty = true
  hd : PySem.W.hasDictIn K C = true
  po : PySem.W.plainOver K C = true
  sa : PySem.W.findIn K (.ref C) "__setattr__" = some (some (.builtin "object.__setattr__"))
theorem Cls.get {K : PySem.W.Frag} {C : Addr} (c : Cls K C) (f : Str) : PySem.W.plainGet K C f = true := c.pg
/-- no class of it has the name -/
def NoAttr (K : PySem.W.Frag) (C : Addr) (f : Str) : Prop := PySem.W.findIn K (.ref C) f = some none
theorem NoAttr.taker {K : PySem.W.Frag} {C : Addr} {f : Str} (n : NoAttr K C f) : PySem.W.takerIn K C f = some none := by
  unfold PySem.W.takerIn
  rw [show PySem.W.findIn K (.ref C) f = some none from n]
  rfl
/-- a constant of the class -/
structure Con (K : PySem.W.Frag) (C : Addr) (f : Str) (v : V) (u : Value) : Prop where
  at_ : PySem.W.findIn K (.ref C) f = some (some u)
  rel : RelV v u
  get : PySem.W.specialIn K u "__get__" = some none
  cp : PySem.W.copiedNames.contains f = false
/-- a method: a plain def of the class or of one above it -/
structure Meth (K : PySem.W.Frag) (C : Addr) (m : Str) (f : Addr) : Prop where
  at_ : PySem.W.findIn K (.ref C) m = some (some (.ref f))
  fn : PySem.W.isFn K (.ref f) = true
  kp : PySem.W.keepIn K (.ref f) = true

section
variable {X : Cx} {pins : List (Addr × Obj)} {σ : St} {H : Hp} {s : Shared} {a C dx : Addr} {fs : List (Str × V)} {f : Str} {v : V} {A : Around} {E : Value → Shared → Prop}

theorem getattr_ok {b : Bool} {Q : Value → Shared → Prop} (I : Inv X pins σ H s) (e : H a = some (.ins C dx fs)) (c : Cls X.K C) (n : NoAttr X.K C f) (l : fs.lookup f = some v)
    (h : ∀ u s', Inv X pins σ H s' → RelV v u → Q u s') : wpAny (model X.prog X.w) A (getAttr (.ref a) f b) Q E s := by
  obtain ⟨mA, O, r, _, _, _⟩ := ins_get I.hok e
  obtain ⟨u, hu, ru⟩ := RelO.some_of (v := v) (o := mA f) (by rw [← l]; exact r f)
  exact get_map I.kIn O (c.get f) c.hd n hu (handed_of ru) (h u _ (I.tok _) ru)

theorem getmeth_ok {m : Str} {g : Addr} {pl : Sem Bool} {Q : Value × List Value → Shared → Prop} (I : Inv X pins σ H s) (e : H a = some (.ins C dx fs)) (c : Cls X.K C) (k : Meth X.K C m g) (l : fs.lookup m = none)
    (h : Q (.ref g, [.ref a]) s) : wpAny (model X.prog X.w) A (getMethod (.ref a) m pl) Q E s := by
  obtain ⟨mA, O, r, _, _, _⟩ := ins_get I.hok e
  have hn : mA m = none := RelO.none_of (by rw [← l]; exact r m)
  exact get_meth I.kIn O (c.get m) k.at_ k.fn hn h

theorem setattr_ok {y : V} {u : Value} {Q : Unit → Shared → Prop} (I : Inv X pins σ H s) (e : H a = some (.ins C dx fs)) (c : Cls X.K C) (n : NoAttr X.K C f) (hl : fs.length < 1000) (ry : RelV y u)
    (h : ∀ s', Inv X pins σ (upd H a (.ins C dx (putF f y fs))) s' → Q () s') : wpAny (model X.prog X.w) A (setAttr (.ref a) f u) Q E s := by
  obtain ⟨mA, O, r, wi, _, ho⟩ := ins_get I.hok e
  have hz : (fs.map (·.1)).length ≤ sizeLine := by rw [List.length_map, sizeLine_eq]; omega
  refine set_map I.kIn O c.sa c.po n.taker c.hd wi hz fun h' O' sb => h _ ?_
  have hd : ∃ o, h'.get? dx = some o := let ⟨o, _, _, e', _⟩ := O'.ns; ⟨o, e'⟩
  refine I.write (x := a) (e := dx) (by rw [e]; exact True.intro) (.inr ho) (fun b q hb z => (sb.2 b hb).trans z) hd ?_
  refine ⟨by rw [upd_ne O.ne]; exact ho, ?_, O.ne, O'.obj, _, O'.ns, fun g => ?_, fun g hg => ?_⟩
  · have := length_putF f y fs; omega
  · show RelO ((putF f y fs).lookup g) (if g = f then some u else mA g)
    rw [lookup_putF]
    by_cases q : g = f
    · rw [if_pos q, if_pos q]; exact ry
    · rw [if_neg q, if_neg q]; exact r g
  · by_cases q : g = f
    · rw [q]; exact (keys_putF f y fs).1
    · refine (keys_putF f y fs).2 g (wi g fun z => hg ?_)
      show (if g = f then some u else mA g) = none
      rw [if_neg q]; exact z

/-- a new instance, tracked, without attributes -/
theorem Inv.made (I : Inv X pins σ H s) : Inv X pins σ (upd (upd H s.heap.objs.size (.own (s.heap.objs.size + 1))) (s.heap.objs.size + 1) (.ins C s.heap.objs.size []))
    { s with heap := (s.heap.push PySem.W.emptyDict).push (PySem.W.instObj C s.heap.objs.size) } := by
  have e1 : (s.heap.push PySem.W.emptyDict).get? s.heap.objs.size = some PySem.W.emptyDict := Heap.get?_push_size s.heap rfl
  have e2 : ((s.heap.push PySem.W.emptyDict).push (PySem.W.instObj C s.heap.objs.size)).get? (s.heap.objs.size + 1) = some (PySem.W.instObj C s.heap.objs.size) := by
    have := Heap.get?_push_size (s.heap.push PySem.W.emptyDict) (o := PySem.W.instObj C s.heap.objs.size) rfl
    rwa [Heap.size_push] at this
  have e3 : (s.heap.push PySem.W.emptyDict).Ns s.heap.objs.size (fun _ => none) := ⟨PySem.W.emptyDict, #[], _, e1, rfl, (fun e he => absurd he (by simp)), fun _ => rfl⟩
  have I1 := I.laid (a := s.heap.objs.size) (o := .own (s.heap.objs.size + 1)) (h' := s.heap.push PySem.W.emptyDict) (t' := s.toks) (fun b u q => Heap.get?_push_of_some _ q) (Nat.le_refl _) ⟨_, e1⟩
  refine I1.laid (a := s.heap.objs.size + 1) (o := .ins C s.heap.objs.size []) (t' := s.toks) (fun b u q => Heap.get?_push_of_some _ q) (Nat.le_of_eq (Heap.size_push _ _)) ?_
  have ne : s.heap.objs.size ≠ s.heap.objs.size + 1 := Nat.ne_of_lt (Nat.lt_succ_self _)
  refine ⟨by rw [upd_ne ne, upd_same], Nat.zero_le _, ne, e2, fun _ => none, (Heap.Ns1.of_empty e3).at fun o q => Heap.get?_push_of_some _ q, fun _ => True.intro, fun y hy => absurd rfl hy⟩

/-- e.f where nothing but the object is asked: through attributeBase (super) and the last hold -/
theorem attr_of {prog : Program} {w : World} {env : Env} {e : Expr} {f : Str} {pos : Pos} {s : Shared} {Q : Value → Shared → Prop} (hb : attributeBase e f env (eval e env) = eval e env)
    (h : wpAny (model prog w) A (eval e env) (fun o s₁ => wpAny (model prog w) A (getAttr o f true) Q E s₁) E s) : wpAny (model prog w) A (eval (.Attribute e f pos) env) Q E s :=
  Attribute_any_ h (by rw [arm_eval_Attribute, hb])
end

/-! ### readings and rules -/
/-- e.f, an attribute of the instance -/
def tFld (K : PySem.W.Frag) (ta : TE) (f : Str) : TE := fun σ H Q => ta σ H fun x H1 => ∃ a C dx fs v, x = .ref a ∧ H1 a = some (.ins C dx fs) ∧ Cls K C ∧ NoAttr K C f ∧ fs.lookup f = some v ∧ Q v H1
/-- e.f = value -/
def sFld (K : PySem.W.Frag) (ta tv : TE) (f : Str) : TS := fun D σ H => tv σ H fun y H1 => ta σ H1 fun x H2 => ∃ a C dx fs, x = .ref a ∧ H2 a = some (.ins C dx fs) ∧ Cls K C ∧ NoAttr K C f ∧ fs.length < 1000 ∧
  D.nx σ (upd H2 a (.ins C dx (putF f y fs)))
section
variable {X : Cx} {o e value : Expr} {f : Str} {pos pos' tpos : Pos} {ta tv : TE}
theorem pe_fld (he : PE X e ta) (hb : attributeBase e f X.env (eval e X.env) = eval e X.env) : PE X (.Attribute e f pos) (tFld X.K ta f) := by
  intro pins s σ H Q I h
  refine attr_of hb (thn (he pins s σ H _ I h) fun u s1 ⟨x, H1, I1, rx, a, C, dx, fs, v, ex, ea, c, n, l, q⟩ => ?_)
  subst ex
  obtain rfl : u = Value.ref a := rx
  exact getattr_ok I1 ea c n l fun u' s2 I2 ru => ⟨v, H1, I2, ru, q⟩
theorem ps_fld (ha : PE X o ta) (hv : PE X value tv) (hs : swapsWith value (some (.Attribute o f pos')) pos.line X.env = pure false) : PS X (.Assign [.Attribute o f pos'] value pos) (sFld X.K ta tv f) := by
  intro pins s σ H D I h
  refine plainObj_wpAny_Assign_Attribute (thn (hv pins s σ H _ I h) fun u s1 ⟨y, H1, I1, ry, q⟩ => thn (ha pins s1 σ H1 _ I1 q) fun ov s2 ⟨x, H2, I2, rx, a, C, dx, fs, ex, ea, c, n, l, q2⟩ => ?_) hs
  subst ex
  obtain rfl : ov = Value.ref a := rx
  exact setattr_ok I2 ea c n l ry fun s3 I3 => ⟨σ, _, I3, q2⟩
end

/-! ### isinstance -/
section
variable {X : Cx} {pins : List (Addr × Obj)} {σ : St} {H : Hp} {s : Shared} {A : Around} {E : Value → Shared → Prop} {Q : Value → Shared → Prop} {c : Value} {b : Bool}
/-- the type of a value, as the fragment's deciders take it; for an instance its class -/
inductive TyOf (K : PySem.W.Frag) (H : Hp) : V → Value → Prop where
  | non : TyOf K H .non (.type "NoneType")
  | bl (x : Bool) : TyOf K H (.bl x) (.type "bool")
  | int (i : Int) : TyOf K H (.int i) (.type "int")
  | str (x : Str) : TyOf K H (.str x) (.type "str")
  | flt (x : UInt64) : TyOf K H (.flt x) (.type "float")
  | lst {a : Addr} {xs : List V} (e : H a = some (.lst xs)) : TyOf K H (.ref a) (.type "list")
  | frz {a : Addr} {o : Obj} {xs : List V} (e : H a = some (.frz o (.lst xs))) : TyOf K H (.ref a) (.type "list")
  | tup {a : Addr} {xs : List V} (e : H a = some (.tup xs)) : TyOf K H (.ref a) (.type "tuple")
  | dK {a : Addr} {kvs : List (Key × V)} (e : H a = some (.dK kvs)) : TyOf K H (.ref a) (.type "dict")
  | dT {a : Addr} {kvs : List (List Key × V)} (e : H a = some (.dT kvs)) : TyOf K H (.ref a) (.type "dict")
  | ins {a C dx : Addr} {fs : List (Str × V)} (e : H a = some (.ins C dx fs)) (cl : Cls K C) (ha : PySem.W.findIn K (.ref C) "__class__" = some (some (.builtin "object.__class__")))
      (hn : PySem.W.specialIn K (.builtin "object.__class__") "__get__" = some (some (.builtin "getset_descriptor.__get__"))) (htk : PySem.W.takesIn K (.builtin "object.__class__") = some true)
      (hm : PySem.W.mroIn K C (.type "object") = some true) : TyOf K H (.ref a) (.ref C)
/-- isinstance(x, c) for one class c, a built-in or an own one: kitOne's answer -/
theorem isinst_ok {x : V} {u t : Value} (I : Inv X pins σ H s) (rx : RelV x u) (ty : TyOf X.K H x t) (e : PySem.W.kitOne X.K t c = some b) (h : ∀ tk, Q (.bool b) { s with toks := tk }) :
    wpAny (model X.prog X.w) A (call (.builtin "isinstance") [u, c]) Q E s := by
  cases ty with
  | non => cases (show u = Value.none from rx); exact PySem.W.kia_one PySem.W.kitx_none I.kIn True.intro e (fun z => nomatch z) h
  | bl y => cases (show u = Value.bool y from rx); exact PySem.W.kia_one PySem.W.kitx_bool I.kIn True.intro e (fun z => nomatch z) h
  | int i => obtain ⟨t, q⟩ := (show ∃ t, u = Value.int i t from rx); cases q; exact PySem.W.kia_one PySem.W.kitx_int I.kIn True.intro e (fun z => nomatch z) h
  | str y => obtain ⟨t, q⟩ := (show ∃ t, u = Value.str y t from rx); cases q; exact PySem.W.kia_one PySem.W.kitx_str I.kIn True.intro e (fun z => nomatch z) h
  | flt y => obtain ⟨t, q⟩ := (show ∃ t, u = Value.float y t from rx); cases q; exact PySem.W.kia_one PySem.W.kitx_float I.kIn True.intro e (fun z => nomatch z) h
  | @lst a xs ea =>
    cases (show u = Value.ref a from rx)
    obtain ⟨_, _, n, _, h1⟩ := (show ObjOk X.prog X.w H s.heap a (.lst xs) from I.hok a _ ea)
    exact PySem.W.kia_one PySem.W.kitx_list I.kIn ⟨_, h1, rfl⟩ e (fun z => nomatch z) h
  | @frz a ob xs ea =>
    cases (show u = Value.ref a from rx)
    obtain ⟨_, _, _, n, _, h1⟩ := (show ObjOk X.prog X.w H s.heap a (.frz ob (.lst xs)) from I.hok a _ ea)
    exact PySem.W.kia_one PySem.W.kitx_list I.kIn ⟨_, h1, rfl⟩ e (fun z => nomatch z) h
  | @tup a xs ea =>
    cases (show u = Value.ref a from rx)
    obtain ⟨_, _, _, p⟩ := (show ObjOk X.prog X.w H s.heap a (.tup xs) from I.hok a _ ea)
    obtain ⟨o, h1, h2, _⟩ := p
    exact PySem.W.kia_one PySem.W.kitx_tuple I.kIn ⟨o, h1, h2⟩ e (fun z => nomatch z) h
  | @dK a kvs ea =>
    cases (show u = Value.ref a from rx)
    obtain ⟨_, _, vs, _, p⟩ := (show ObjOk X.prog X.w H s.heap a (.dK kvs) from I.hok a _ ea)
    obtain ⟨o, es, ep, h1, h2, _⟩ := p
    exact PySem.W.kia_one PySem.W.kitx_dict I.kIn ⟨o, h1, h2.1⟩ e (fun z => nomatch z) h
  | @dT a kvs ea =>
    cases (show u = Value.ref a from rx)
    obtain ⟨_, _, xs, _, o, es, ep, h1, h2, _⟩ := (show ObjOk X.prog X.w H s.heap a (.dT kvs) from I.hok a _ ea)
    exact PySem.W.kia_one PySem.W.kitx_dict I.kIn ⟨o, h1, h2.1⟩ e (fun z => nomatch z) h
  | @ins a C dx fs ea cl ha hn htk hm =>
    cases (show u = Value.ref a from rx)
    obtain ⟨mA, O, _⟩ := ins_get I.hok ea
    obtain ⟨od, J, _⟩ := O.look
    exact PySem.W.kia_one (PySem.W.kitx_own (cl.get _) cl.hd ha hn htk hm) I.kIn J e (fun z => nomatch z) h
end
end L2

namespace L2
open PySem PySem.Spec PyProof.Rows

/-! ### room -/
structure Room (k : Nat) (A : Around) : Prop where
  hd : A.handled = none
  dp : A.depth + 3 * k + 5 < recursionLimit
  un : A.units + 16 * k + 200 < cLine
theorem Room.mono {j k : Nat} {A : Around} (r : Room k A) (h : j ≤ k) : Room j A := ⟨r.hd, by have := r.dp; omega, by have := r.un; omega⟩
theorem Room.deeper {k : Nat} {A : Around} (r : Room (k + 1) A) (env : Env) : Room k (A.deeper env) :=
  ⟨r.hd, by have := r.dp; show A.depth + 1 + 3 * k + 5 < _; omega, by have := r.un; show A.units + 3 + 16 * k + 200 < _; omega⟩
theorem Room.in1 {k : Nat} {A : Around} (r : Room (k + 1) A) : Room k A.in1 :=
  ⟨r.hd, by have := r.dp; show A.depth + 3 * k + 5 < _; omega, by have := r.un; show A.units + 1 + 16 * k + 200 < _; omega⟩
theorem make_depth {A : Around} {C : Addr} {us : List Value} {kw : List (Str × Value)} : (A.under (.builtin "type.__call__" ⟨.ref C :: us, kw⟩)).depth = A.depth + 1 := by
  first | rfl | simp [Around.under, Code.weight, Code.isCreation, Code.isGuard, Code.isCaller, Code.frames, Code.isFrame, guardIds]
theorem make_units {A : Around} {C : Addr} {us : List Value} {kw : List (Str × Value)} : (A.under (.builtin "type.__call__" ⟨.ref C :: us, kw⟩)).units = A.units + 1 := by
  first | rfl | simp [Around.under, Code.cUnits, Code.frames, Code.isFrame]
theorem Room.make {k : Nat} {A : Around} (r : Room (k + 1) A) (C : Addr) (us : List Value) (kw : List (Str × Value)) : Room k (A.under (.builtin "type.__call__" ⟨.ref C :: us, kw⟩)) :=
  ⟨r.hd, by have := r.dp; rw [make_depth]; omega, by have := r.un; rw [make_units]; omega⟩
theorem Room.depth {k : Nat} {A : Around} (r : Room k A) : A.depth < recursionLimit := by have := r.dp; omega
theorem Room.units {k : Nat} {A : Around} (r : Room k A) : A.units + 64 < cLine := by have := r.un; omega
/-! ### argument lists and displays -/
def tNil : TA := fun _ H Q => Q [] H
def tCons (ta : TE) (tr : TA) : TA := fun σ H Q => ta σ H fun x H1 => tr σ H1 fun xs H2 => Q (x :: xs) H2
section
variable {X : Cx} {e : Expr} {es : List Expr} {te : TE} {t : TA} {pos : Pos}
theorem pa_nil : PA X [] tNil := fun _ _ _ _ H Q I h => Calls.spliced_nil ⟨[], H, I, .nil, h⟩
theorem pa_cons (ha : PE X e te) (hr : PA X es t) (hs : starEach (e :: es) X.env = (false, eval e X.env) :: starEach es X.env := by rfl) : PA X (e :: es) (tCons te t) := by
  intro pos pins s σ H Q I h
  rw [hs]
  show wpAny _ _ (spliced ((false, eval e X.env) :: backTo pos (starEach es X.env))) _ _ s
  refine Calls.spliced_cons (thn (ha pins s σ H _ I h) fun u s1 ⟨x, H1, I1, r1, q1⟩ => ?_)
  exact thn (hr pos pins s1 σ H1 _ I1 q1) fun us s2 ⟨xs, H2, I2, r2, q2⟩ => ⟨x :: xs, H2, I2, .cons r1 r2, q2⟩

/-- a tuple, a list of written items -/
def tTup (t : TA) : TE := fun σ H Q => t σ H fun xs H1 => xs.length ≤ sizeLine ∧ ∀ p, H1 p = none → Q (.ref p) (upd H1 p (.tup xs))
def tLst (t : TA) : TE := fun σ H Q => t σ H fun xs H1 => xs.length ≤ sizeLine ∧ ∀ p, H1 p = none → Q (.ref p) (upd H1 p (.lst xs))
theorem pe_tup {x1} (h : PA X es t) : PE X (.Tuple es x1 pos) (tTup t) := by
  intro pins s σ H Q I hq
  refine wpAny_Tuple_spliced (thn (h pos pins s σ H _ I hq) fun us s1 ⟨xs, H1, I1, r, z, q⟩ => ⟨by rw [← r.length]; exact z, ?_⟩)
  have hf : H1 s1.heap.objs.size = none := I1.hok.fresh (Nat.le_refl _)
  refine ⟨.ref s1.heap.objs.size, upd H1 s1.heap.objs.size (.tup xs), I1.laid (t' := s1.toks) (fun b u e => Heap.get?_push_of_some _ e) (Nat.le_refl _) ?_, rfl, q _ hf⟩
  exact ⟨z, us, r, ⟨_, Heap.get?_push_size _ rfl, rfl, _, rfl⟩⟩
theorem pe_lst (h : PA X es t) : PE X (.List es pos) (tLst t) := by
  intro pins s σ H Q I hq
  refine wpAny_List_spliced (thn (h pos pins s σ H _ I hq) fun us s1 ⟨xs, H1, I1, r, z, q⟩ => ⟨by rw [← r.length]; exact z, ?_⟩)
  have hf : H1 s1.heap.objs.size = none := I1.hok.fresh (Nat.le_refl _)
  refine ⟨.ref s1.heap.objs.size, upd H1 s1.heap.objs.size (.lst xs), I1.laid (t' := s1.toks) (fun b u e => Heap.get?_push_of_some _ e) (Nat.le_refl _) ?_, rfl, q _ hf⟩
  exact ⟨z, us, 0, r, Heap.get?_push_size _ rfl⟩
end

/-! ### what a def promises -/
/-- a def's promise: the bound arguments in the parameters' order, the heap, the wanted end, the wanted exception -/
abbrev Sp := List V → Hp → VK → XK → Prop
/-- how an exception lies behind a call (file 08 gives it): the callers' frames, abstract heap and state ahead of the call, the wish, the exception, the state -/
abbrev CXT := List Env → Hp → Shared → XK → Value → Shared → Prop

/-- the state at a call -/
structure Env0 (P : Program) (w : World) (K : PySem.W.Frag) (mg : Str → Option Value) (base : Heap) (A : Around) (outer : List Env) (s : Shared) (H : Hp) : Prop where
  frames : A.frames = some outer
  mod : Mod K mg base
  bs : ∀ b o, base.get? b = some o → s.heap.get? b = some o ∧ H b = none
  bsz : base.objs.size ≤ s.heap.objs.size
  funs : s.heap.FunFrames base outer
  frf : ∀ b ∈ frs outer, H b = none
  hok : HOk P w H s.heap
  bare : AllBare s.gens
/-- a call's end -/
def CE (outer : List Env) (P : Program) (w : World) (H : Hp) (s : Shared) (Q : VK) (u : Value) (s' : Shared) : Prop :=
  ∃ v H', s'.os = s.os ∧ AllBare s'.gens ∧ Un (frs outer) [] H H' s.heap s'.heap ∧ HOk P w H' s'.heap ∧ RelV v u ∧ Q v H'
def CR (CX : CXT) (outer : List Env) (P : Program) (w : World) (H : Hp) (s : Shared) (Q : VK) (E : XK) (r : Result) (s' : Shared) : Prop :=
  match r with
  | .ok (.ret u) => CE outer P w H s Q u s'
  | .ok _ => False
  | .error e => CX outer H s E e s'
structure FnOk (P : Program) (w : World) (K : PySem.W.Frag) (mg : Str → Option Value) (base : Heap) (CX : CXT) (k : Nat) (f : Addr) (fd : FuncData) (ps : List Str) (sp : Sp) : Prop where
  len : ∀ vs H Q E, sp vs H Q E → vs.length = ps.length
  run : ∀ (A : Around) (outer : List Env) (s : Shared) (H : Hp) (args : Args) (us : List Value) (vs : List V) (Q : VK) (E : XK), Room k A → Env0 P w K mg base A outer s H → BindsTo s fd args (ps.zip us) → Vals vs us → sp vs H Q E →
    codeAny (model P w) A (.call (.ref f) args) (CR CX outer P w H s Q E) s
theorem FnOk.mono {P : Program} {w : World} {K : PySem.W.Frag} {mg : Str → Option Value} {base : Heap} {CX : CXT} {j k : Nat} {f : Addr} {fd : FuncData} {ps : List Str} {sp : Sp} (F : FnOk P w K mg base CX j f fd ps sp) (h : j ≤ k) :
    FnOk P w K mg base CX k f fd ps sp := ⟨F.len, fun A outer s H args us vs Q E hr => F.run A outer s H args us vs Q E (hr.mono h)⟩
/-- a weaker promise -/
theorem FnOk.imp {P : Program} {w : World} {K : PySem.W.Frag} {mg : Str → Option Value} {base : Heap} {CX : CXT} {k : Nat} {f : Addr} {fd : FuncData} {ps : List Str} {sp sp' : Sp} (F : FnOk P w K mg base CX k f fd ps sp)
    (h : ∀ vs H Q E, sp' vs H Q E → sp vs H Q E) : FnOk P w K mg base CX k f fd ps sp' :=
  ⟨fun vs H Q E q => F.len vs H Q E (h _ _ _ _ q), fun A outer s H args us vs Q E hr he hb hv hs => F.run A outer s H args us vs Q E hr he hb hv (h _ _ _ _ hs)⟩

theorem Env0.make {P : Program} {w : World} {K : PySem.W.Frag} {mg : Str → Option Value} {base : Heap} {A : Around} {outer : List Env} {s : Shared} {H : Hp} (e : Env0 P w K mg base A outer s H) (C : Addr) (us : List Value) (kw : List (Str × Value)) :
    Env0 P w K mg base (A.under (.builtin "type.__call__" ⟨.ref C :: us, kw⟩)) outer s H := ⟨by first | exact e.frames | (simpa [Around.under, Code.envs, Code.isFrame, pushEnvs] using e.frames), e.mod, e.bs, e.bsz, e.funs, e.frf, e.hok, e.bare⟩
theorem Env0.in1 {P : Program} {w : World} {K : PySem.W.Frag} {mg : Str → Option Value} {base : Heap} {A : Around} {outer : List Env} {s : Shared} {H : Hp} (e : Env0 P w K mg base A outer s H) :
    Env0 P w K mg base A.in1 outer s H := ⟨e.frames, e.mod, e.bs, e.bsz, e.funs, e.frf, e.hok, e.bare⟩

section
variable {X : Cx} {pins : List (Addr × Obj)} {σ : St} {H : Hp} {s s' : Shared}
/-- from a body: what a callee wants -/
theorem Inv.env0 (I : Inv X pins σ H s) : Env0 X.prog X.w X.K X.mg X.base X.A X.stack s H :=
  ⟨I.ok.frames, I.ok.mod, I.bs, Nat.le_trans I.ok.bsz I.sz, I.stack, I.stkFree, I.hok, I.bare⟩
/-- behind a call -/
theorem Inv.after {Q : VK} {u : Value} (I : Inv X pins σ H s) (h : CE X.stack X.prog X.w H s Q u s') : EP X pins σ Q u s' := by
  obtain ⟨v, H', os, bare, un, hok, r, q⟩ := h
  obtain ⟨hh, g, d, t, os'⟩ := s'
  obtain rfl : os' = s.os := os
  exact ⟨v, H', I.call (h' := hh) (g' := g) (d' := d) (t' := t) (ch := []) un hok bare (fun b z => absurd z (by simp)), r, q⟩
end

/-! ### calls -/
/-- f(..): the written arguments, then the defaults dvs; E: what is wanted of an exception -/
def tCall (sp : Sp) (dvs : List V) (E : XK) (t : TA) : TE := fun σ H Q => t σ H fun vs H1 => sp (vs ++ dvs) H1 Q E
/-- o.m(..) of an instance of the class at C -/
def tMeth (C : Addr) (m : Str) (sp : Sp) (dvs : List V) (E : XK) (ta : TE) (t : TA) : TE := fun σ H Q => ta σ H fun x H1 => ∃ a dx fs, x = .ref a ∧ H1 a = some (.ins C dx fs) ∧ fs.lookup m = none ∧
  t σ H1 fun vs H2 => sp (x :: (vs ++ dvs)) H2 Q E
/-- C(..): a new instance and its dict, then __init__ -/
def tMake (C : Addr) (sp : Sp) (dvs : List V) (E : XK) (t : TA) : TE := fun σ H Q => t σ H fun vs H1 => ∀ x dx, H1 x = none → H1 dx = none → dx ≠ x →
  sp (.ref x :: (vs ++ dvs)) (upd (upd H1 dx (.own x)) x (.ins C dx [])) (fun v H2 => v = .non ∧ Q (.ref x) H2) E

/-- how the parameters are bound: us the positional arguments, kw the keywords' values by name, ds the defaults that fill up -/
def Binds (K : PySem.W.Frag) (fd : FuncData) (ps : List Str) (ds : List Value) : Prop :=
  ∀ (s : Shared) (us : List Value), K.In s.heap → (us ++ ds).length = ps.length → BindsTo s fd ⟨us, []⟩ (ps.zip (us ++ ds))
/-- every parameter is given -/
theorem Binds.all {K : PySem.W.Frag} {fd : FuncData} {ps : List Str} (h : ∀ us : List Value, us.length = ps.length → bindArgs fd ⟨us, []⟩ = pure (ps.zip us)) : Binds K fd ps [] := fun s us _ hl => by
  rw [List.append_nil] at hl ⊢
  exact .of_eq (h us hl)

/-- an exception of a callee reaches what this body wants of exceptions -/
def Passes (CX : CXT) (X : Cx) (E : XK) : Prop := ∀ (pins : List (Addr × Obj)) (σ : St) (H : Hp) (s : Shared) (e : Value) (s' : Shared), Inv X pins σ H s → CX X.stack H s E e s' → X.xe e s'

section
variable {X : Cx} {CX : CXT} {k : Nat} {f C : Addr} {fd : FuncData} {ps : List Str} {sp : Sp} {dvs : List V} {ds : List Value} {E : XK} {x m : Str} {p pos apos : Pos} {e o : Expr} {es : List Expr} {ta : TE} {t : TA}

/-- the callee runs -/
theorem run_fn {pins : List (Addr × Obj)} {σ : St} {H : Hp} {s : Shared} {Q : VK} {us : List Value} {vs : List V} (F : FnOk X.prog X.w X.K X.mg X.base CX k f fd ps sp) (hr : Room k X.A) (hb : Binds X.K fd ps ds) (hd : Vals dvs ds) (hx : Passes CX X E)
    (I : Inv X pins σ H s) (r : Vals vs us) (h : sp (vs ++ dvs) H Q E) : wpAny (model X.prog X.w) X.A (call (.ref f) us) (EP X pins σ Q) X.xe s := by
  have r2 : Vals (vs ++ dvs) (us ++ ds) := r.append hd
  have hl : (us ++ ds).length = ps.length := by rw [← r2.length]; exact F.len _ _ _ _ h
  refine wpAny_call (codeAny_mono (F.run X.A X.stack s H ⟨us, []⟩ (us ++ ds) (vs ++ dvs) Q E hr I.env0 (hb s us I.kIn hl) r2 h) fun r s' hq => ?_)
  cases r with
  | error e => exact hx pins σ H s e s' I hq
  | ok fl =>
    cases fl with
    | ret u => exact I.after hq
    | next => exact False.elim hq
    | brk => exact False.elim hq
    | cont => exact False.elim hq

theorem pe_call (F : FnOk X.prog X.w X.K X.mg X.base CX k f fd ps sp) (hr : Room k X.A) (hg : Gl X x) (hm : X.mg x = some (.ref f)) (hk : PySem.W.keepIn X.K (.ref f) = true) (hb : Binds X.K fd ps ds) (hd : Vals dvs ds) (hx : Passes CX X E)
    (ha : PA X (e :: es) t) (hdb : (x == ("__debug__" : Str)) = false := by decide) (he : starEach (e :: es) X.env = (false, eval e X.env) :: starEach es X.env := by rfl) (hpl : (backTo pos (starEach es X.env)).any (·.1) = false := by rfl) :
    PE X (.Call (.Name x p) (e :: es) [] pos) (tCall sp dvs E t) := by
  intro pins s σ H Q I h
  refine wpAny_Call_Name_kw (ld_glob I hg hm ?_ hdb)
  refine PySem.W.callWith_K (h₀ := X.base) I.ok.mod.kin hk (thn (ha pos pins s σ H _ I h) fun us s1 ⟨vs, H1, I1, r, q⟩ => ⟨I1.kIn, ?_⟩) he hpl
  exact run_fn F hr hb hd hx I1 r q
/-- o.m() -/
theorem pe_meth0 {pl : Sem Bool} (he : PE X o ta) (c : Cls X.K C) (hm : Meth X.K C m f) (F : FnOk X.prog X.w X.K X.mg X.base CX k f fd ps sp) (hr : Room k X.A) (hb : Binds X.K fd ps ds) (hd : Vals dvs ds) (hx : Passes CX X E)
    (ht : eval (.Call (.Attribute o m apos) [] [] pos) X.env = (do
      let ov ← eval o X.env
      standAt apos.atName
      let (f, first) ← holding [ov] (getMethod ov m pl)
      callWith pos f first (backTo pos (starEach [] X.env)) (backToKw pos (keywordEach [] X.env))) := by rfl) :
    PE X (.Call (.Attribute o m apos) [] [] pos) (tMeth C m sp dvs E ta tNil) := by
  intro pins s σ H Q I h
  refine PySem.W.methodCall_KW (pl := pl) (thn (he pins s σ H _ I h) fun u s1 ⟨x, H1, I1, rx, a, dx, fs, ex, ea, l, q⟩ => ?_) ht
  subst ex
  obtain rfl : u = Value.ref a := rx
  refine getmeth_ok I1 ea c hm l ?_
  exact PySem.W.callWith_K0 (first := [.ref a]) I1.kIn hm.kp (run_fn (us := [.ref a]) (vs := [.ref a]) F hr hb hd hx I1 (.cons rfl .nil) q)

/-- what a class must have to be made -/
structure Mk (K : PySem.W.Frag) (C f : Addr) : Prop where
  makes : PySem.W.makesIn K C = true
  init : PySem.W.findIn K (.ref C) "__init__" = some (some (.ref f))
  fn : PySem.W.isFn K (.ref f) = true
  kp : PySem.W.keepIn K (.ref C) = true

theorem run_make {pins : List (Addr × Obj)} {σ : St} {H : Hp} {s : Shared} {Q : VK} {us : List Value} {vs : List V} (M : Mk X.K C f) (F : FnOk X.prog X.w X.K X.mg X.base CX k f fd ps sp) (hr : Room (k + 1) X.A) (hb : Binds X.K fd ps ds) (hd : Vals dvs ds)
    (hx : Passes CX X E) (I : Inv X pins σ H s) (r : Vals vs us)
    (h : ∀ x dx, H x = none → H dx = none → dx ≠ x → sp (.ref x :: (vs ++ dvs)) (upd (upd H dx (.own x)) x (.ins C dx [])) (fun v H2 => v = .non ∧ Q (.ref x) H2) E) :
    wpAny (model X.prog X.w) X.A (call (.ref C) us) (EP X pins σ Q) X.xe s := by
  have hq := h (s.heap.objs.size + 1) s.heap.objs.size (I.hok.fresh (Nat.le_succ _)) (I.hok.fresh (Nat.le_refl _)) (Nat.ne_of_lt (Nat.lt_succ_self _))
  have I2 := Inv.made (C := C) I
  have r2 : Vals (V.ref (s.heap.objs.size + 1) :: (vs ++ dvs)) (Value.ref (s.heap.objs.size + 1) :: (us ++ ds)) := .cons rfl (r.append hd)
  have hl : (Value.ref (s.heap.objs.size + 1) :: us ++ ds).length = ps.length := by
    have e := r2.length
    rw [F.len _ _ _ _ hq] at e
    exact e.symm
  refine wpAny_call (make_map (f := f) I.kIn M.makes M.init (beq_iff_eq.mp M.fn) (codeAny_mono (F.run _ X.stack _ _ ⟨Value.ref (s.heap.objs.size + 1) :: us, []⟩ (Value.ref (s.heap.objs.size + 1) :: (us ++ ds)) _ _ E (hr.make C us [])
    (I2.env0.make C us []) (hb _ (Value.ref (s.heap.objs.size + 1) :: us) I2.kIn hl) r2 hq) fun r s' hq' => ?_))
  cases r with
  | error e => exact hx pins σ _ _ e s' I2 hq'
  | ok fl =>
    cases fl with
    | ret u =>
      obtain ⟨v, H', I3, rv, ev, q3⟩ := I2.after hq'
      subst ev
      exact ⟨rv, ⟨V.ref (s.heap.objs.size + 1), H', I3, rfl, q3⟩⟩
    | next => exact False.elim hq'
    | brk => exact False.elim hq'
    | cont => exact False.elim hq'
theorem pe_make (M : Mk X.K C f) (F : FnOk X.prog X.w X.K X.mg X.base CX k f fd ps sp) (hr : Room (k + 1) X.A) (hg : Gl X x) (hm : X.mg x = some (.ref C)) (hb : Binds X.K fd ps ds) (hd : Vals dvs ds) (hx : Passes CX X E)
    (ha : PA X (e :: es) t) (hdb : (x == ("__debug__" : Str)) = false := by decide) (he : starEach (e :: es) X.env = (false, eval e X.env) :: starEach es X.env := by rfl) (hpl : (backTo pos (starEach es X.env)).any (·.1) = false := by rfl) :
    PE X (.Call (.Name x p) (e :: es) [] pos) (tMake C sp dvs E t) := by
  intro pins s σ H Q I h
  refine wpAny_Call_Name_kw (ld_glob I hg hm ?_ hdb)
  refine PySem.W.callWith_K (h₀ := X.base) I.ok.mod.kin M.kp (thn (ha pos pins s σ H _ I h) fun us s1 ⟨vs, H1, I1, r, q⟩ => ⟨I1.kIn, ?_⟩) he hpl
  exact run_make M F hr hb hd hx I1 r q
end

/-! ### keywords -/
section
variable {X : Cx} {CX : CXT} {k : Nat} {f C : Addr} {fd : FuncData} {ps ks : List Str} {sp : Sp} {E : XK} {x m : Str} {p pos apos kpos : Pos} {e o : Expr} {es : List Expr} {kws : List Keyword} {te ta : TE} {t tk : TA} {nm : Option Str}
/-- how a call with keywords binds: g puts the positional values us and the keywords' values ws (names ks) in the parameters' order, defaults among them -/
structure KBinds (K : PySem.W.Frag) (fd : FuncData) (ps ks : List Str) (g : List Value → List Value → List Value) (gV : List V → List V → List V) : Prop where
  to : ∀ (s : Shared) (us ws : List Value), K.In s.heap → (g us ws).length = ps.length → BindsTo s fd ⟨us, ks.zip ws⟩ (ps.zip (g us ws))
  rel : ∀ {vs : List V} {us : List Value} {zs : List V} {ws : List Value}, Vals vs us → Vals zs ws → Vals (gV vs zs) (g us ws)
variable {g : List Value → List Value → List Value} {gV : List V → List V → List V}
end

/-! ### a def's body keeps its promise -/
/-- names: the parameters first -/
structure FnScope (N P : List Str) (sc : Scope) : Prop where
  kind : sc.kind = .function
  co : sc.isCoroutine = false
  gen : sc.isGenerator = false
  nd : N.Nodup
  pre : N.take P.length = P
  par : ∀ x ∈ P, sc.names.lookup x = some .local ∨ sc.names.lookup x = some .cell
  nofree : ∀ y ∈ sc.names, y.2 ≠ .free

theorem bindL_out {kindOf : Str → Option NameKind} {x : Str} : ∀ {binds : List (Str × Value)} {m : Str → Option Value}, (∀ v, (x, v) ∉ binds) → bindL kindOf binds m x = m x
  | [], _, _ => rfl
  | (n, v) :: r, m, h => by
    unfold bindL
    rw [bindL_out fun w hw => h w (List.mem_cons_of_mem _ hw)]
    split
    · have : x ≠ n := by rintro rfl; exact h v List.mem_cons_self
      simp [this]
    · rfl
theorem bindC_out {kindOf : Str → Option NameKind} {x : Str} : ∀ {binds : List (Str × Value)} {m : Str → Option Value}, (∀ v, (x, v) ∉ binds) → bindC kindOf binds m x = m x
  | [], _, _ => rfl
  | (n, v) :: r, m, h => by
    unfold bindC
    rw [bindC_out fun w hw => h w (List.mem_cons_of_mem _ hw)]
    split
    · rfl
    · have : x ≠ n := by rintro rfl; exact h v List.mem_cons_self
      simp [this]
theorem bindL_get {kindOf : Str → Option NameKind} {x : Str} {v : Value} : ∀ {P : List Str} {vs : List Value} {i : Nat} {m : Str → Option Value}, P.Nodup → P[i]? = some x → vs[i]? = some v → kindOf x = some .local →
    bindL kindOf (P.zip vs) m x = some v
  | [], _, _, _, _, h, _, _ => by simp at h
  | _ :: _, [], _, _, _, _, h, _ => by simp at h
  | p :: P, w :: vs, 0, m, nd, h1, h2, hk => by
    simp at h1 h2; subst h1; subst h2
    show bindL kindOf ((p, w) :: P.zip vs) m p = _
    unfold bindL
    rw [bindL_out fun v hv => (List.nodup_cons.mp nd).1 (List.of_mem_zip hv).1, if_pos hk]
    simp
  | p :: P, w :: vs, i + 1, m, nd, h1, h2, hk => by
    show bindL kindOf ((p, w) :: P.zip vs) m x = _
    unfold bindL
    exact bindL_get (i := i) (List.nodup_cons.mp nd).2 (by simpa using h1) (by simpa using h2) hk
theorem bindC_get {kindOf : Str → Option NameKind} {x : Str} {v : Value} : ∀ {P : List Str} {vs : List Value} {i : Nat} {m : Str → Option Value}, P.Nodup → P[i]? = some x → vs[i]? = some v → kindOf x ≠ some .local →
    bindC kindOf (P.zip vs) m x = some v
  | [], _, _, _, _, h, _, _ => by simp at h
  | _ :: _, [], _, _, _, _, h, _ => by simp at h
  | p :: P, w :: vs, 0, m, nd, h1, h2, hk => by
    simp at h1 h2; subst h1; subst h2
    show bindC kindOf ((p, w) :: P.zip vs) m p = _
    unfold bindC
    rw [bindC_out fun v hv => (List.nodup_cons.mp nd).1 (List.of_mem_zip hv).1, if_neg hk]
    simp
  | p :: P, w :: vs, i + 1, m, nd, h1, h2, hk => by
    show bindC kindOf ((p, w) :: P.zip vs) m x = _
    unfold bindC
    exact bindC_get (i := i) (List.nodup_cons.mp nd).2 (by simpa using h1) (by simpa using h2) hk

/-- the names' values at the entry -/
def start (N : List Str) (vs : List V) : St := vs.map some ++ List.replicate (N.length - vs.length) none

/-- the context of a def's body, at its entry; an exception leaves the frame, then lies as CX says -/
def cxOf (CX : CXT) (P : Program) (w : World) (K : PySem.W.Frag) (mg : Str → Option Value) (base : Heap) (N : List Str) (qual : Str) (scope : Scope) (f : Addr) (cd : Value) (A : Around) (outer : List Env) (s : Shared) (H : Hp) (E : XK) : Cx where
  prog := P
  w := w
  K := K
  mg := mg
  base := base
  A := A.deeper (envOfC qual scope s.heap.objs.size f cd)
  N := N
  s₀ := s
  H₀ := H
  env := envOfC qual scope s.heap.objs.size f cd
  outer := outer
  stack := envOfC qual scope s.heap.objs.size f cd :: outer
  ex := []
  calm := true
  fn := fun _ => true
  pn := []
  xe := fun e s' => wpAny (model P w) (A.deeper (envOfC qual scope s.heap.objs.size f cd)) (leaving (envOfC qual scope s.heap.objs.size f cd) e) (fun _ s'' => CX outer H s E e s'') (fun e' s'' => CX outer H s E e' s'') s'

theorem cell_has {sc : Scope} {n : Nat} {x : Str} (h : sc.names.lookup x = some .cell) : ∃ c, (cellsFrom n sc.names []).lookup x = some c := by
  have q := PySem.W.cellsFrom_some sc.names n [] (.inl h)
  exact Option.isSome_iff_exists.mp q

theorem inv_start {CX : CXT} {P : Program} {w : World} {K : PySem.W.Frag} {mg : Str → Option Value} {base : Heap} {N ps : List Str} {qual : Str} {scope : Scope} {f : Addr} {cd : Value} {A : Around} {outer : List Env} {s s1 : Shared} {H : Hp} {E : XK} {us : List Value} {vs : List V}
    (S : FnScope N ps scope) (hd : A.handled = none) (e0 : Env0 P w K mg base A outer s H) (hl : vs.length = ps.length) (r : Vals vs us)
    (x : InCallC s s.heap.objs.size (bindL (envOfC qual scope s.heap.objs.size f cd).kindOf (ps.zip us) fun _ => none) (cellsFrom (s.heap.objs.size + 1) scope.names []) (bindC (envOfC qual scope s.heap.objs.size f cd).kindOf (ps.zip us) fun _ => none) s1) :
    Inv (cxOf CX P w K mg base N qual scope f cd A outer s H E) [] (start N vs) H s1 := by
  have hpl : ps.length ≤ N.length := by have := congrArg List.length S.pre; rw [List.length_take] at this; omega
  obtain ⟨h1, tk, rfl, hk⟩ := x.done
  have noA : ∀ b : Addr, b ∉ (cxOf CX P w K mg base N qual scope f cd A outer s H E).ex := fun b z => absurd (show b ∈ ([] : List Addr) from z) (by simp)
  refine ⟨⟨e0.mod, S.kind, rfl, rfl, Nat.le_refl _, fun y z c h1 h2 => ?_, fun y hy => ?_, fun y c _ h => ?_, fun _ => hd, Around.frames_deeper e0.frames, .inr ⟨rfl, rfl⟩, fun b z => absurd z (noA b), e0.bs, e0.bsz, fun b _ _ => noA b, fun b z => absurd z (noA b), e0.funs, e0.frf⟩,
    rfl, e0.bare, Un.kept hk, ⟨_, x.toInCall.ns, fun i y v h1 h2 h3 => ?_⟩, fun y c h => ⟨_, x.cell y c h⟩, e0.hok.fresh (Nat.le_refl _), fun y c h => ?_, fun p hp => absurd (show p ∈ ([] : List (Addr × Obj)) from hp) (by simp), e0.hok.kept hk, ?_⟩
  · exact name_of_addr x.apart (PySem.mem_of_lookup h1) (PySem.mem_of_lookup h2)
  · have hy : scope.names.lookup y = some .cell ∨ scope.names.lookup y = some .free := hy
    rcases hy with hy | hy
    · exact cell_has hy
    · exact absurd rfl (S.nofree _ (PySem.mem_of_lookup hy))
  · exact Nat.le_of_lt (x.above y c (PySem.mem_of_lookup h))
  · have hi : i < vs.length := by
      unfold start at h2
      by_cases hi : i < vs.length
      · exact hi
      · rw [List.getElem?_append_right (by simpa using hi)] at h2
        rw [List.getElem?_replicate] at h2
        split at h2 <;> cases h2
    have ha : vs[i]? = some v := by
      unfold start at h2
      rw [List.getElem?_append_left (by simpa using hi), List.getElem?_map] at h2
      cases e : vs[i]? with
      | none => rw [e] at h2; cases h2
      | some a => rw [e] at h2; cases h2; rfl
    obtain ⟨u, hu, rv⟩ := r.get ha
    have hp : ps[i]? = some y := by
      rw [← S.pre, List.getElem?_take_of_lt (by omega)]; exact h1
    have ndP : ps.Nodup := by rw [← S.pre]; exact S.nd.sublist (List.take_sublist _ _)
    refine ⟨u, rv, ?_⟩
    rcases S.par y (List.mem_of_getElem? hp) with k | k
    · exact .inl ⟨k, bindL_get ndP hp hu k⟩
    · obtain ⟨c, e⟩ := cell_has (n := s.heap.objs.size + 1) k
      refine .inr ⟨.inl k, c, e, ?_⟩
      have q := x.cell y c e
      rw [bindC_get ndP hp hu (by show scope.names.lookup y ≠ _; rw [k]; decide)] at q
      exact q
  · exact e0.hok.fresh (Nat.le_of_lt (x.above y c (PySem.mem_of_lookup h)))
  · unfold start
    show _ = N.length
    rw [List.length_append, List.length_map, List.length_replicate]
    omega

/-- THE RULE: a def (or a method) of the text, by its body. The body's reading t is chosen for each entry; it is run at the parameters' values -/
theorem fn_of {CX : CXT} {P : Program} {w : World} {K : PySem.W.Frag} {mg : Str → Option Value} {base : Heap} {k : Nat} {f : Addr} {name qual : Str} {params : Arguments} {body : List Stmt} {scope : Scope} {dV kV doc pm cdv ct oc : Value} {an od : Option Addr}
    {osl : Array (Option Value)} {N ps : List Str} {sp : Sp} (lk : K.lookup f = some ⟨oc, od, .func (PySem.W.fnOf name qual params body scope dV kV doc pm an cdv ct), osl⟩) (hcd : PySem.W.codeIn K cdv qual = true) (S : FnScope N ps scope)
    (len : ∀ vs H Q E, sp vs H Q E → vs.length = ps.length)
    (hbody : ∀ (A : Around) (outer : List Env) (s : Shared) (H : Hp) (vs : List V) (Q : VK) (E : XK), Room k (A.deeper (envOfC qual scope s.heap.objs.size f cdv)) → sp vs H Q E →
      ∃ t, PSs (cxOf CX P w K mg base N qual scope f cdv A outer s H E) body t ∧ t { nx := fun _ H' => Q .non H', rt := Q } (start N vs) H) :
    FnOk P w K mg base CX (k + 1) f (PySem.W.fnOf name qual params body scope dV kV doc pm an cdv ct) ps sp := by
  refine ⟨len, fun A outer s H args us vs Q E hr e0 hb r hsp => ?_⟩
  have hl := len _ _ _ _ hsp
  have KX : K.In s.heap := e0.mod.kin.keeps fun b o e => (e0.bs b o e).1
  have lim : s.heap.NoLimit := e0.mod.nolimit.keeps fun b o e => (e0.bs b o e).1
  have hkind : ∀ y ∈ ps.zip us, scope.names.lookup y.1 = some .local ∨ (scope.names.lookup y.1 = some .cell ∧ ((cellsFrom (s.heap.objs.size + 1) scope.names []).lookup y.1).isSome = true) := fun ⟨n, v⟩ hy => by
    rcases S.par n (List.of_mem_zip hy).1 with q | q
    · exact .inl q
    · exact .inr ⟨q, PySem.W.cellsFrom_some _ _ _ (.inl q)⟩
  refine codeAny_call_function hr.depth (KX _ _ lk) rfl S.co S.gen rfl (PySem.W.codeRec_of KX hcd) (hb _ _ _ _ ?_)
  refine wpAny_newFunctionEnv_cells S.kind hkind fun env he s1 x => ?_
  subst he
  refine ⟨lim.keeps x.toInCall.keep, codeAny_func ?_⟩
  obtain ⟨t, ht, hq⟩ := hbody A outer s H vs Q E (hr.deeper _) hsp
  have I : Inv (cxOf CX P w K mg base N qual scope f cdv A outer s H E) [] (start N vs) H s1 := inv_start S hr.hd e0 hl r x
  refine wpAny_mono (ht [] s1 (start N vs) H _ I hq) (fun fl s' hs => ?_) fun e s' hs => hs
  have fin : ∀ {σ' : St} {H' : Hp} {v : V} {u : Value}, Inv (cxOf CX P w K mg base N qual scope f cdv A outer s H E) [] σ' H' s' → RelV v u → Q v H' → CE outer P w H s Q u s' :=
    fun {σ' H' v u} J rv q => ⟨v, H', J.os, J.bare, J.base, J.hok, rv, q⟩
  cases fl with
  | ret u =>
    obtain ⟨v, σ', H', J, rv, q⟩ := hs
    exact fin J rv q
  | next =>
    obtain ⟨σ', H', J, q⟩ := hs
    exact fin (v := V.non) (u := Value.none) J rfl q
  | brk =>
    obtain ⟨_, _, _, q⟩ := hs
    exact False.elim q
  | cont =>
    obtain ⟨_, _, _, q⟩ := hs
    exact False.elim q
end L2

namespace L2
open PySem PySem.Spec PyProof.Rows
section
variable {X : Cx} {x : Str} {p pos : Pos} {e : Expr} {es : List Expr} {t : TA} {id T : String} {r : List V → Hp → VK → Prop}

def tCB (r : List V → Hp → VK → Prop) (t : TA) : TE := fun σ H Q => t σ H fun vs H1 => r vs H1 Q
/-- f(e, ..), f a built-in function -/
theorem pe_callB (hc : CallR X (.builtin id) r) (hg : Gl X x) (hm : X.mg x = none) (hv : bootBuiltins x = some (.builtin id)) (ha : PA X (e :: es) t) (hn : x ≠ "__name__" := by decide) (hdb : (x == ("__debug__" : Str)) = false := by decide)
    (he : starEach (e :: es) X.env = (false, eval e X.env) :: starEach es X.env := by rfl) (hpl : (backTo pos (starEach es X.env)).any (·.1) = false := by rfl) : PE X (.Call (.Name x p) (e :: es) [] pos) (tCB r t) := by
  intro pins s σ H Q I h
  refine wpAny_Call_Name_kw (ld_blt I hg hm hv ?_ hn hdb)
  exact PyProof.Rows.callWith_builtin1 (thn (ha pos pins s σ H _ I h) fun us s1 ⟨vs, H1, I1, r1, q1⟩ => hc pins s1 σ H1 vs us Q I1 r1 q1) he hpl
/-- T(e, ..), T a built-in type -/
theorem pe_callTy (hc : CallR X (.type T) r) (hg : Gl X x) (hm : X.mg x = none) (hv : bootBuiltins x = some (.type T)) (ha : PA X (e :: es) t) (hn : x ≠ "__name__" := by decide) (hdb : (x == ("__debug__" : Str)) = false := by decide)
    (he : starEach (e :: es) X.env = (false, eval e X.env) :: starEach es X.env := by rfl) (hpl : (backTo pos (starEach es X.env)).any (·.1) = false := by rfl) : PE X (.Call (.Name x p) (e :: es) [] pos) (tCB r t) := by
  intro pins s σ H Q I h
  refine wpAny_Call_Name_kw (ld_blt I hg hm hv ?_ hn hdb)
  exact PyProof.Rows.callWith_type1 (thn (ha pos pins s σ H _ I h) fun us s1 ⟨vs, H1, I1, r1, q1⟩ => hc pins s1 σ H1 vs us Q I1 r1 q1) he hpl
end
end L2

namespace HT
open PySem PyProof.Rows

section
open PySem.SeqAt
open PySem.AutoSeq1 (wpAny_loadPart')
open PySem.MeetsSeq PySem.MeetsSeq2 PySem.MeetsSeq3

end

section
variable {prog : Program} {w : World} {A : Around} {E : Value → Shared → Prop} {s : Shared}

/-! ### t[a:b], not the whole -/
/-- a slice's bound as a place among n (d where it is left out) -/
def sIx (n d : Nat) : Option Int → Nat
  | none => d
  | some v => if v < 0 then (v + (n : Int)).toNat else min v.toNat n
theorem sIx_none (n d : Nat) : sIx n d none = d := rfl
theorem sIx_nat (n d k : Nat) : sIx n d (some (k : Int)) = min k n := by
  show (if (k : Int) < 0 then ((k : Int) + (n : Int)).toNat else min (k : Int).toNat n) = min k n
  rw [if_neg (by omega), Int.toNat_natCast]
end
end HT

namespace L2
open PySem PySem.Spec PyProof.Rows

/-! ### the parts of a slice -/
abbrev TO := St → Hp → (Option Int → Hp → Prop) → Prop
/-- a slice's part (left out, or an int) -/
def PO (X : Cx) (e : Option Expr) (t : TO) : Prop :=
  ∀ (pins : List (Addr × Obj)) (s : Shared) (σ : St) (H : Hp) (Q : Option Int → Hp → Prop), Inv X pins σ H s → t σ H Q →
    wpAny (model X.prog X.w) X.A (evalPart e X.env) (fun u s' => ∃ o H', Inv X pins σ H' s' ∧ IsPart u o ∧ Q o H') X.xe s
def tNoPart : TO := fun _ H Q => Q none H
def tPart (t : TE) : TO := fun σ H Q => t σ H fun x H1 => ∃ i, x = .int i ∧ Q (some i) H1

theorem intsAre_of {ns : List Int} : ∀ {us : List Value}, Vals (ns.map V.int) us → IntsAre us ns := by
  induction ns with
  | nil => intro us r; rw [List.map_nil] at r; cases r; exact .nil
  | cons n ns ih =>
    intro us r
    rw [List.map_cons] at r
    cases r with
    | cons r1 r2 =>
      obtain ⟨t, e⟩ := r1
      subst e
      exact .cons n t (ih r2)

section
variable {X : Cx} {e : Expr} {te : TE} {lo hi : Option Expr} {tl th : TO} {pos p2 : Pos}

theorem po_none : PO X none tNoPart := by
  intro pins s σ H Q I h
  rw [evalPart_none]
  exact wpAny_pure ⟨none, H, I, .none, h⟩
theorem po_some (h : PE X e te) : PO X (some e) (tPart te) := by
  intro pins s σ H Q I hw
  rw [evalPart_some]
  refine thn (h pins s σ H _ I hw) fun u s1 ⟨x, H1, I1, r1, q1⟩ => ?_
  obtain ⟨i, rfl, q⟩ := q1
  obtain ⟨t, rfl⟩ := r1
  exact ⟨some i, H1, I1, .int i t, q⟩

/-- what a slice of a value is, by values: the slice object stands at sl -/
def SlR (X : Cx) (r : V → Option Int → Option Int → Hp → VK → Prop) : Prop :=
  ∀ (pins : List (Addr × Obj)) (s : Shared) (σ : St) (H : Hp) (x : V) (v vl vu : Value) (lo hi : Option Int) (sl : Addr) (Q : VK), Inv X pins σ H s → RelV x v → s.heap.IsSliceOf sl vl vu .none → IsPart vl lo → IsPart vu hi → r x lo hi H Q →
    ∃ T id, typeLookup (.type T) "__getitem__" = pure (some (.builtin id)) ∧ s.TypeIs v T ∧ wpAny (model X.prog X.w) X.A (getItem v (.ref sl)) (EP X pins σ Q) X.xe s
theorem SlR.or {r r' : V → Option Int → Option Int → Hp → VK → Prop} (h : SlR X r) (h' : SlR X r') : SlR X (fun x lo hi H Q => r x lo hi H Q ∨ r' x lo hi H Q) := by
  intro pins s σ H x v vl vu lo hi sl Q I rx hs pl pu q
  rcases q with q | q
  · exact h pins s σ H x v vl vu lo hi sl Q I rx hs pl pu q
  · exact h' pins s σ H x v vl vu lo hi sl Q I rx hs pl pu q
def tSl (r : V → Option Int → Option Int → Hp → VK → Prop) (te : TE) (tl th : TO) : TE := fun σ H Q => te σ H fun x H1 => tl σ H1 fun l H2 => th σ H2 fun u H3 => r x l u H3 Q
/-- a[lo:hi], any a -/
theorem pe_slice {r : V → Option Int → Option Int → Hp → VK → Prop} (hr : SlR X r) (he : PE X e te) (hl : PO X lo tl) (hu : PO X hi th) : PE X (.Subscript e (.Slice lo hi none p2) pos) (tSl r te tl th) := by
  intro pins s σ H Q I h
  refine Subscript_ (thn (he pins s σ H _ I h) fun v s1 ⟨x, H1, I1, r1, q1⟩ => ?_)
  refine wpAny_Slice (thn (hl pins s1 σ H1 _ I1 q1) fun vl s2 ⟨l, H2, I2, pl, q2⟩ => thn (hu pins s2 σ H2 _ I2 q2) fun vu s3 ⟨u, H3, I3, pu, q3⟩ => ?_)
  rw [evalPart_none]
  refine wpAny_pure ?_
  have I4 : Inv X pins σ H3 { s3 with heap := s3.heap.push { cls := .type "slice", data := .fields #[vl, vu, .none] } } := I3.kept (t' := s3.toks) fun b ob q => Heap.get?_push_of_some _ q
  obtain ⟨T, id, hT, ht, hg⟩ := hr pins { s3 with heap := s3.heap.push { cls := .type "slice", data := .fields #[vl, vu, .none] } } σ H3 x v vl vu l u s3.heap.objs.size Q I4 r1 (Heap.IsSliceOf.new ..) pl pu q3
  show wpAny (model X.prog X.w) X.A (subscriptTail e (.Slice lo hi none p2) v (.ref s3.heap.objs.size)) (EP X pins σ Q) X.xe { s3 with heap := s3.heap.push { cls := .type "slice", data := .fields #[vl, vu, .none] } }
  exact tail_any (ops := [.ref s3.heap.objs.size, v]) ht hT hg (by with_unfolding_all rfl)

/-- the items of xs[lo:hi] -/
def cutV (xs : List V) (lo hi : Option Int) : List V := (xs.drop (HT.sIx xs.length 0 lo)).take (HT.sIx xs.length xs.length hi - HT.sIx xs.length 0 lo)
theorem cutV_length (xs : List V) (lo hi : Option Int) : (cutV xs lo hi).length ≤ xs.length := by
  unfold cutV
  rw [List.length_take, List.length_drop]
  omega
/-! ### t < u, t + u -/
end
end L2

namespace L2
open PySem PySem.Spec PyProof.Rows

/-! ### places -/
/-- the place that an index of any sign means -/
def ixN (n : Nat) (i : Int) : Option Nat := if 0 ≤ i then (if i < n then some i.toNat else none) else if -(n : Int) ≤ i then some (i + n).toNat else none
def atI {α : Type} (xs : List α) (i : Int) : Option α := (ixN xs.length i).bind fun j => xs[j]?
theorem ixN_seq {n : Nat} {i : Int} {j : Nat} (h : ixN n i = some j) : seqIndex? i n = some j ∧ j < n ∧ -(n : Int) ≤ i ∧ i < n := by
  unfold ixN at h
  by_cases h0 : 0 ≤ i
  · rw [if_pos h0] at h
    by_cases h1 : i < n
    · rw [if_pos h1] at h
      have e : i.toNat = j := Option.some.inj h
      exact ⟨by rw [seqIndex_of h0 h1, e], by omega, by omega, h1⟩
    · rw [if_neg h1] at h; cases h
  · rw [if_neg h0] at h
    by_cases h1 : -(n : Int) ≤ i
    · rw [if_pos h1] at h
      have e : (i + n).toNat = j := Option.some.inj h
      exact ⟨by rw [seqIndex_neg (by omega) h1, e], by omega, h1, by omega⟩
    · rw [if_neg h1] at h; cases h
theorem atI_get {α : Type} {xs : List α} {i : Int} {v : α} (h : atI xs i = some v) : ∃ j, seqIndex? i xs.length = some j ∧ xs[j]? = some v ∧ j < xs.length ∧ -(xs.length : Int) ≤ i ∧ i < xs.length := by
  unfold atI at h
  cases e : ixN xs.length i with
  | none => rw [e] at h; cases h
  | some j =>
    rw [e] at h
    obtain ⟨h1, h2, h3, h4⟩ := ixN_seq e
    exact ⟨j, h1, h, h2, h3, h4⟩
theorem atI_nat {α : Type} {xs : List α} {j : Nat} {v : α} (h : xs[j]? = some v) : atI xs (j : Int) = some v := by
  have hj : j < xs.length := (List.getElem?_eq_some_iff.mp h).1
  have e : ixN xs.length (j : Int) = some j := by
    unfold ixN
    rw [if_pos (by omega), if_pos (by omega)]; simp
  unfold atI; rw [e]; exact h
/-! ### what may be subscripted -/
/-- what stands as an index of a plain subscript -/
def PlainIx (b : Expr) : Prop := ∀ o i, subscripted b false o i = operate [o, i] (getItem o i)
/-- a subscript by values -/
def IxR (X : Cx) (r : R2) : Prop :=
  ∀ (value slice : Expr) (pins : List (Addr × Obj)) (s : Shared) (σ : St) (H : Hp) (x y : V) (v u : Value) (Q : VK), Inv X pins σ H s → RelV x v → RelV y u → r x y H Q →
    subscripted slice false v u = operate [v, u] (getItem v u) → wpAny (model X.prog X.w) X.A (subscriptTail value slice v u) (EP X pins σ Q) X.xe s
/-- a call of a builtin's method by values: the receiver, the arguments -/
def MtR (X : Cx) (id : String) (r : V → List V → Hp → VK → Prop) : Prop :=
  ∀ (pins : List (Addr × Obj)) (s : Shared) (σ : St) (H : Hp) (x : V) (xs : List V) (v : Value) (us : List Value) (Q : VK), Inv X pins σ H s → RelV x v → Vals xs us → r x xs H Q →
    wpAny (model X.prog X.w) X.A (call (.builtin id) (v :: us)) (EP X pins σ Q) X.xe s
section
variable {X : Cx} {a b : Expr} {ta tb : TE} {pos : Pos}
theorem IxR.or {r r' : R2} (h : IxR X r) (h' : IxR X r') : IxR X (fun x y H Q => r x y H Q ∨ r' x y H Q) := by
  intro value slice pins s σ H x y v u Q I rx ry q hs
  rcases q with q | q
  · exact h value slice pins s σ H x y v u Q I rx ry q hs
  · exact h' value slice pins s σ H x y v u Q I rx ry q hs
theorem MtR.or {id : String} {r r' : V → List V → Hp → VK → Prop} (h : MtR X id r) (h' : MtR X id r') : MtR X id (fun x xs H Q => r x xs H Q ∨ r' x xs H Q) := by
  intro pins s σ H x xs v us Q I rx rs q
  rcases q with q | q
  · exact h pins s σ H x xs v us Q I rx rs q
  · exact h' pins s σ H x xs v us Q I rx rs q
/-- a[b] -/
theorem pe_ix {r : R2} (hr : IxR X r) (ha : PE X a ta) (hb : PE X b tb) (hs : PlainIx b) : PE X (.Subscript a b pos) (tOp r ta tb) := by
  intro pins s σ H Q I h
  exact Subscript_ (binT ha hb I h fun v u s2 x y H2 I2 rx ry q => hr a b pins s2 σ H2 x y v u Q I2 rx ry q (hs _ _))

def rIxL (K : PySem.W.Frag) : R2 := fun x y H Q => ∃ p xs i v, x = .ref p ∧ y = .int i ∧ SqL K H p xs ∧ atI xs i = some v ∧ Q v H
def rIxT (K : PySem.W.Frag) : R2 := fun x y H Q => ∃ p xs i v, x = .ref p ∧ y = .int i ∧ SqT K H p xs ∧ atI xs i = some v ∧ Q v H
def rIxS : R2 := fun x y H Q => ∃ z i c, x = .str z ∧ y = .int i ∧ z.length ≤ sizeLine ∧ atI z.cps.toList i = some c ∧ Q (.str ⟨#[c]⟩) H
theorem ix_list : IxR X (rIxL X.K) := by
  intro value slice pins s σ H x y v u Q I rx ry h hs
  obtain ⟨p, xs, i, z, rfl, rfl, hq, he, q⟩ := h
  cases rx
  obtain ⟨t, rfl⟩ := ry
  obtain ⟨its, r, pl, hz⟩ := I.list hq
  obtain ⟨j, h1, h2, h3, h4, h5⟩ := atI_get he
  obtain ⟨w, ew, rw'⟩ := r.get h2
  have hl := r.length
  have hn := line63
  have fin : EP X pins σ Q w s := ⟨z, H, I, rw', q⟩
  by_cases h0 : 0 ≤ i
  · have hj : i.toNat = j := by
      rw [seqIndex_of h0 h5] at h1
      exact Option.some.inj h1
    exact item_listR pl.isList h0 (by omega) (by rw [hj]; simpa using ew) fin hs
  · have hj : (i + (its.toArray.size : Int)).toNat = j := by
      rw [seqIndex_neg (by omega) h4] at h1
      rw [List.size_toArray, ← hl]
      exact Option.some.inj h1
    exact subscriptTail_builtinR (x := w) pl.isList.typeIs slot_list_getitem.lookup
      (wpAny_getItem_list_neg (Q := fun r s' => r = w ∧ EP X pins σ Q r s') pl.isList (by omega) (by rw [List.size_toArray] <;> omega) (by omega) (by rw [hj]; simpa using ew) ⟨rfl, fin⟩) hs
theorem ix_tup : IxR X (rIxT X.K) := by
  intro value slice pins s σ H x y v u Q I rx ry h hs
  obtain ⟨p, xs, i, z, rfl, rfl, hq, he, q⟩ := h
  cases rx
  obtain ⟨t, rfl⟩ := ry
  obtain ⟨its, r, pl, hz⟩ := I.tuple hq
  obtain ⟨j, h1, h2, h3, h4, h5⟩ := atI_get he
  obtain ⟨w, ew, rw'⟩ := r.get h2
  have hl := r.length
  have hn := line63
  have fin : EP X pins σ Q w s := ⟨z, H, I, rw', q⟩
  exact subscriptTail_builtinR (x := w) pl.typeIs slot_tuple_getitem.lookup
    (getItem_tuple (j := j) (Q := fun r s' => r = w ∧ EP X pins σ Q r s') pl (by omega) (by omega) (by rw [List.size_toArray, ← hl]; exact h1) (by simpa using ew) ⟨rfl, fin⟩) hs
theorem ix_str : IxR X rIxS := by
  intro value slice pins s σ H x y v u Q I rx ry h hs
  obtain ⟨z, i, c, rfl, rfl, hz, he, q⟩ := h
  obtain ⟨t, rfl⟩ := rx
  obtain ⟨t', rfl⟩ := ry
  obtain ⟨j, h1, h2, h3, h4, h5⟩ := atI_get he
  have hl : z.cps.toList.length = z.length := by simp [Str.length]
  rw [hl] at h1 h4 h5
  have hn := line63
  exact tail_any (typeIs_str s z t) slot_str_getitem.lookup (getItem_str (c := c) (by
    have e1 : decide (i < -(2 ^ 63 : Int)) = false := decide_eq_false (by omega)
    have e2 : decide (i ≥ 2 ^ 63) = false := decide_eq_false (by omega)
    rw [e1, e2, Bool.or_false]) (by rw [h1]; simpa using h2) ⟨.str ⟨#[c]⟩, H, I.tok _, ⟨_, rfl⟩, q⟩) hs
/-! ### xs[i] = v, any sign -/
theorem Inv.lst {pins : List (Addr × Obj)} {σ : St} {H : Hp} {s : Shared} {p : Addr} {xs : List V} (I : Inv X pins σ H s) (h : H p = some (.lst xs)) :
    ∃ (its : List Value) (n : Nat), Vals xs its ∧ s.heap.get? p = some { cls := .type "list", data := .seq its.toArray n } ∧ xs.length ≤ sizeLine := by
  obtain ⟨z, its, n, r, e⟩ := I.hok p _ h
  exact ⟨its, n, r, e, z⟩
/-! ### slices -/
theorem slice_bounds (lo hi : Option Int) (n : Nat) : (sliceBounds lo hi none n).1 = ((HT.sIx n 0 lo : Nat) : Int) ∧ (sliceBounds lo hi none n).2.1 = ((HT.sIx n n hi : Nat) : Int) ∧ (sliceBounds lo hi none n).2.2 = 1 := by
  refine ⟨?_, ?_, rfl⟩
  · cases lo with
    | none => simp [sliceBounds, HT.sIx]
    | some i =>
      simp only [sliceBounds, HT.sIx, Option.getD_none, show (1 : Int) > 0 by decide, if_true]
      by_cases h : i < 0
      · simp only [h, if_true] <;> omega
      · simp only [h, if_false] <;> omega
  · cases hi with
    | none => simp [sliceBounds, HT.sIx]
    | some i =>
      simp only [sliceBounds, HT.sIx, Option.getD_none, show (1 : Int) > 0 by decide, if_true]
      by_cases h : i < 0
      · simp only [h, if_true] <;> omega
      · simp only [h, if_false] <;> omega
theorem slicePick_cut (its : List Value) (lo hi : Option Int) : slicePick its.toArray lo hi none = ((its.drop (HT.sIx its.length 0 lo)).take (HT.sIx its.length its.length hi - HT.sIx its.length 0 lo)).toArray := by
  obtain ⟨h1, h2, h3⟩ := slice_bounds lo hi its.toArray.size
  unfold slicePick
  rw [h1, h2, h3]
  simp only [sliceRange_one, pick_run, List.size_toArray] <;> rfl
/-- xs[lo:hi] of a list: a new list -/
def rSlL (K : PySem.W.Frag) : V → Option Int → Option Int → Hp → VK → Prop := fun x lo hi H Q => ∃ a xs, x = .ref a ∧ SqL K H a xs ∧ ∀ p, H p = none → Q (.ref p) (upd H p (.lst (cutV xs lo hi)))
theorem sl_list : SlR X (rSlL X.K) := by
  intro pins s σ H x v vl vu lo hi sl Q I rx hs pl pu h
  obtain ⟨a, xs, rfl, hx, q⟩ := h
  cases rx
  obtain ⟨its, r, ht, hz⟩ := I.list hx
  have hlen := r.length
  refine ⟨"list", _, slot_list_getitem.lookup, ht.isList.typeIs, ?_⟩
  refine wpAny_getItem_list_slice ht.isList hs pl pu .none (by simp) ?_ (by rw [List.size_toArray] <;> omega)
  rw [slicePick_cut, ← hlen]
  refine ⟨.ref s.heap.objs.size, _, I.laid (t' := s.toks) (o := .lst (cutV xs lo hi)) (fun b ob q => Heap.get?_push_of_some _ q) (Nat.le_refl _) ?_, rfl, q _ (I.hok.fresh (Nat.le_refl _))⟩
  exact ⟨Nat.le_trans (cutV_length xs lo hi) hz, _, 0, (r.drop (HT.sIx xs.length 0 lo)).take (HT.sIx xs.length xs.length hi - HT.sIx xs.length 0 lo), Heap.get?_push_size _ rfl⟩

/-! ### in, not in: flat items -/
def flatV : V → Bool
  | .non => true
  | .bl _ => true
  | .int _ => true
  | .str _ => true
  | _ => false
/-- == of flat values -/
def eqV : V → V → Bool
  | .non, .non => true
  | .bl a, .bl b => a == b
  | .bl a, .int b => (if a then 1 else 0) == b
  | .int a, .bl b => a == (if b then 1 else 0)
  | .int a, .int b => a == b
  | .str a, .str b => a == b
  | _, _ => false
theorem eqAt_V {A : Around} {s : Shared} {y x : V} {u v : Value} (ry : RelV y u) (rx : RelV x v) (fy : flatV y = true) (fx : flatV x = true) : SeqAt.EqAt A s u v (eqV y x) := by
  cases y with
  | non =>
    cases ry
    cases x with
    | non => cases rx; exact SeqAt.EqAt.same _
    | bl b => cases rx; exact SeqAt.EqAt.none_bool b
    | int b => obtain ⟨t, rfl⟩ := rx; exact SeqAt.EqAt.none_int b t
    | str b => obtain ⟨t, rfl⟩ := rx; exact SeqAt.EqAt.none_str b t
    | _ => exact absurd (show false = true from fx) Bool.false_ne_true
  | bl a =>
    cases ry
    cases x with
    | non => cases rx; exact SeqAt.EqAt.bool_none a
    | bl b => cases rx; exact SeqAt.EqAt.bool_bool a b
    | int b => obtain ⟨t, rfl⟩ := rx; exact SeqAt.EqAt.bool_int a b t
    | str b => obtain ⟨t, rfl⟩ := rx; exact SeqAt.EqAt.bool_str a b t
    | _ => exact absurd (show false = true from fx) Bool.false_ne_true
  | int a =>
    obtain ⟨t', rfl⟩ := ry
    cases x with
    | non => cases rx; exact SeqAt.EqAt.int_none a t'
    | bl b => cases rx; exact SeqAt.EqAt.int_bool a t' b
    | int b => obtain ⟨t, rfl⟩ := rx; exact SeqAt.EqAt.int_int a t' b t
    | str b => obtain ⟨t, rfl⟩ := rx; exact SeqAt.EqAt.int_str a t' b t
    | _ => exact absurd (show false = true from fx) Bool.false_ne_true
  | str a =>
    obtain ⟨t', rfl⟩ := ry
    cases x with
    | non => cases rx; exact SeqAt.EqAt.str_none a t'
    | bl b => cases rx; exact SeqAt.EqAt.str_bool a t' b
    | int b => obtain ⟨t, rfl⟩ := rx; exact SeqAt.EqAt.str_int a t' b t
    | str b => obtain ⟨t, rfl⟩ := rx; exact SeqAt.EqAt.str_str a t' b t
    | _ => exact absurd (show false = true from fx) Bool.false_ne_true
  | _ => exact absurd (show false = true from fy) Bool.false_ne_true
/-- the items' answers, read off the values (a value's own answer does not lean on its token) -/
def eqU (x : V) (u : Value) : Bool := match u with
  | .none => eqV .non x
  | .bool b => eqV (.bl b) x
  | .int i _ => eqV (.int i) x
  | .str z _ => eqV (.str z) x
  | _ => false
theorem eqU_of {x y : V} {u : Value} (r : RelV y u) (f : flatV y = true) : eqU x u = eqV y x := by
  cases y with
  | non => cases r; rfl
  | bl b => cases r; rfl
  | int i => obtain ⟨t, rfl⟩ := r; rfl
  | str z => obtain ⟨t, rfl⟩ := r; rfl
  | _ => exact absurd (show false = true from f) Bool.false_ne_true
theorem any_eqU {x : V} : ∀ {xs : List V} {us : List Value}, Vals xs us → xs.all flatV = true → us.any (eqU x) = xs.any fun y => eqV y x
  | _, _, .nil, _ => rfl
  | y :: xs, u :: us, .cons r t, f => by
    rw [List.all_cons, Bool.and_eq_true] at f
    rw [List.any_cons, List.any_cons, eqU_of r f.1, any_eqU t f.2]
theorem mem_eqAt {A : Around} {s : Shared} {x : V} {v : Value} (rx : RelV x v) (fx : flatV x = true) : ∀ {xs : List V} {us : List Value}, Vals xs us → xs.all flatV = true → ∀ u ∈ us, SeqAt.EqAt A s u v (eqU x u)
  | _, _, .nil, _ => fun u hu => by cases hu
  | y :: xs, u :: us, .cons r t, f => fun u' hu => by
    rw [List.all_cons, Bool.and_eq_true] at f
    rcases List.mem_cons.mp hu with rfl | hu
    · rw [eqU_of r f.1]; exact eqAt_V r rx f.1 fx
    · exact mem_eqAt rx fx t f.2 u' hu
def inV (x : V) (xs : List V) : Bool := xs.any fun y => eqV y x
/-- x in a list or tuple of flat items -/
def rIn (K : PySem.W.Frag) (neg : Bool) : R2 := fun x y H Q => ∃ p xs, y = .ref p ∧ (SqL K H p xs ∨ SqT K H p xs) ∧ flatV x = true ∧ xs.all flatV = true ∧ Q (.bl (if neg then !inV x xs else inV x xs)) H
theorem op_notIn_seq : OpR X (compareOp .NotIn) (rIn X.K true) := by
  intro pins s σ H x y v u Q I rx ry h
  obtain ⟨p, xs, rfl, hq, fx, fs, q⟩ := h
  cases ry
  rcases hq with hq | hq
  · obtain ⟨its, r, pl, hz⟩ := I.list hq
    refine SeqAt.notIn_listAt (eqU x) pl.isList (fun w hw => mem_eqAt rx fx r fs w (by simpa using hw)) ⟨.bl _, H, I, rfl, ?_⟩
    rw [show its.toArray.any (eqU x) = its.any (eqU x) by simp, any_eqU r fs]
    exact q
  · obtain ⟨its, r, pl, hz⟩ := I.tuple hq
    refine SeqAt.notIn_tupleAt (eqU x) pl (fun w hw => mem_eqAt rx fx r fs w (by simpa using hw)) ⟨.bl _, H, I, rfl, ?_⟩
    rw [show its.toArray.any (eqU x) = its.any (eqU x) by simp, any_eqU r fs]
    exact q
/-! ### len, list(x), tuple(x) of any list or tuple that is read -/
theorem call_len_seq : CallR X (.builtin "len") (fun xs H Q => ∃ p ys, xs = [.ref p] ∧ (SqL X.K H p ys ∨ SqT X.K H p ys) ∧ Q (.int ys.length) H) := by
  intro pins s σ H xs us Q I r h
  obtain ⟨p, ys, rfl, hq, q⟩ := h
  obtain ⟨u, rfl, rx⟩ := vals1 r
  cases rx
  have hn := line63
  rcases hq with hq | hq
  · obtain ⟨its, r', pl, hz⟩ := I.list hq
    have hlen := r'.length
    exact Calls.call_len_list pl.isList (by simp only [List.size_toArray] <;> omega) ⟨.int ys.length, H, I.tok _, ⟨s.toks + 1, by rw [List.size_toArray, hlen]⟩, q⟩
  · obtain ⟨its, r', pl, hz⟩ := I.tuple hq
    have hlen := r'.length
    exact len_tuple pl (by simp only [List.size_toArray] <;> omega) ⟨.int ys.length, H, I.tok _, ⟨s.toks + 1, by rw [List.size_toArray, hlen]⟩, q⟩
theorem call_len_str : CallR X (.builtin "len") (fun xs H Q => ∃ z, xs = [.str z] ∧ z.length ≤ sizeLine ∧ Q (.int z.length) H) := by
  intro pins s σ H xs us Q I r h
  obtain ⟨z, rfl, hz, q⟩ := h
  obtain ⟨u, rfl, t, rfl⟩ := vals1 r
  have hn := line63
  exact len_str (by omega) ⟨.int z.length, H, I.tok _, ⟨_, rfl⟩, q⟩
theorem CallR.or {f : Value} {r r' : List V → Hp → VK → Prop} (h : CallR X f r) (h' : CallR X f r') : CallR X f (fun xs H Q => r xs H Q ∨ r' xs H Q) := by
  intro pins s σ H xs us Q I rs q
  rcases q with q | q
  · exact h pins s σ H xs us Q I rs q
  · exact h' pins s σ H xs us Q I rs q
theorem call_list_of : CallR X (.type "list") (fun xs H Q => ∃ p ys, xs = [.ref p] ∧ (SqL X.K H p ys ∨ SqT X.K H p ys) ∧ ∀ l, H l = none → Q (.ref l) (upd H l (.lst ys))) := by
  intro pins s σ H xs us Q I r h
  obtain ⟨p, ys, rfl, hq, q⟩ := h
  obtain ⟨u, rfl, rx⟩ := vals1 r
  cases rx
  have fin : ∀ (its : List Value), Vals ys its → ys.length ≤ sizeLine → ∀ (h' : Heap) (c' : Nat), (∀ b o', s.heap.get? b = some o' → h'.get? b = some o') →
      h'.get? s.heap.objs.size = some { cls := .type "list", dict := none, data := .seq its.toArray c', slots := #[] } → EP X pins σ Q (.ref s.heap.objs.size) { s with heap := h' } := fun its r' hz h' c' kp e =>
    ⟨.ref s.heap.objs.size, _, I.laid (t' := s.toks) kp (Nat.le_refl _) (show ObjOk X.prog X.w _ h' _ (.lst ys) from ⟨hz, its, c', r', e⟩), rfl, q _ (I.hok.fresh (Nat.le_refl _))⟩
  rcases hq with hq | hq
  · obtain ⟨its, r', pl, hz⟩ := I.list hq
    have hlen := r'.length
    obtain ⟨o, ho, hc, n, hd⟩ := pl.isList
    exact call_list_seq p (.inl rfl) ho hc hd (fun h' c' kp e => fin its r' hz h' c' kp e) (by simp only [List.size_toArray] <;> omega)
  · obtain ⟨its, r', pl, hz⟩ := I.tuple hq
    have hlen := r'.length
    obtain ⟨o, ho, hc, n, hd⟩ := pl
    exact call_list_seq p (.inr rfl) ho hc hd (fun h' c' kp e => fin its r' hz h' c' kp e) (by simp only [List.size_toArray] <;> omega)
theorem call_tuple_of : CallR X (.type "tuple") (fun xs H Q => ∃ p ys, xs = [.ref p] ∧ ((SqL X.K H p ys ∧ ∀ l, H l = none → Q (.ref l) (upd H l (.tup ys))) ∨ (SqT X.K H p ys ∧ Q (.ref p) H))) := by
  intro pins s σ H xs us Q I r h
  obtain ⟨p, ys, rfl, h⟩ := h
  obtain ⟨u, rfl, rx⟩ := vals1 r
  cases rx
  rcases h with ⟨hq, q⟩ | ⟨hq, q⟩
  · obtain ⟨its, r', pl, hz⟩ := I.list hq
    have hlen := r'.length
    refine call_tuple_list pl.isList (fun h' kp => ?_) (by simp only [List.size_toArray] <;> omega)
    have I1 : Inv X pins σ H { s with heap := h' } := I.kept (t' := s.toks) kp
    have I2 : Inv X pins σ (upd H h'.objs.size (.tup ys)) { s with heap := h'.push { cls := .type "tuple", data := .seq its.toArray } } :=
      I1.laid (t' := s.toks) (fun b o e => Heap.get?_push_of_some _ e) (Nat.le_refl _) (show ObjOk X.prog X.w _ _ _ (.tup ys) from ⟨hz, its, r', IsTup.new _ _⟩)
    exact ⟨.ref h'.objs.size, _, I2, rfl, q _ (I1.hok.fresh (Nat.le_refl _))⟩
  · obtain ⟨its, r', pl, hz⟩ := I.tuple hq
    exact call_tuple_same pl ⟨.ref p, H, I, rfl, q⟩

/-! ### the call of a builtin's method: o.m(..) -/
/-- the value is of that builtin type -/
def tyV (K : PySem.W.Frag) (T : String) (x : V) (H : Hp) : Prop := match x with
  | .str _ => T = "str"
  | .int _ => T = "int"
  | .ref p => (T = "list" ∧ ∃ xs, SqL K H p xs) ∨ (T = "tuple" ∧ ∃ o, K.lookup p = some o ∧ o.cls = .type "tuple" ∧ o.dict = none) ∨
      (T = "dict" ∧ ((∃ kvs, H p = some (.dK kvs)) ∨ ∃ kvs, H p = some (.dT kvs))) ∨ (T = "set" ∧ ∃ S n, H p = some (.set S n))
  | _ => False
theorem tyV_is {pins : List (Addr × Obj)} {σ : St} {H : Hp} {s : Shared} {T : String} {x : V} {v : Value} (I : Inv X pins σ H s) (r : RelV x v) (ty : tyV X.K T x H) :
    s.TypeIs v T ∧ ∀ a, v = .ref a → ∃ ob, s.heap.get? a = some ob ∧ ob.dict = none := by
  cases x with
  | str z =>
    obtain ⟨t, rfl⟩ := r
    cases (show T = "str" from ty)
    exact ⟨typeIs_str s z t, fun _ e => nomatch e⟩
  | int i =>
    obtain ⟨t, rfl⟩ := r
    cases (show T = "int" from ty)
    exact ⟨typeIs_int s i t, fun _ e => nomatch e⟩
  | ref p =>
    cases r
    rcases ty with ⟨rfl, xs, hq⟩ | ⟨rfl, o, hk, hc, hd⟩ | ⟨rfl, hk⟩ | ⟨rfl, S, n, hk⟩
    · obtain ⟨its, _, pl, _⟩ := I.list hq
      refine ⟨pl.isList.typeIs, fun a e => ?_⟩
      cases e
      obtain ⟨o, n, e, c, hd, _⟩ := pl
      exact ⟨o, e, hd⟩
    · refine ⟨⟨o, I.kIn p o hk, hc⟩, fun a e => ?_⟩
      cases e
      exact ⟨o, I.kIn _ o hk, hd⟩
    · have z : ∃ o, s.heap.get? p = some o ∧ o.ExactDict := by
        rcases hk with ⟨kvs, hk⟩ | ⟨kvs, hk⟩
        · obtain ⟨_, _, _, _, o, _, _, e, ex, _⟩ := I.hok p _ hk
          exact ⟨o, e, ex⟩
        · obtain ⟨_, _, _, _, o, _, _, e, ex, _⟩ := I.hok p _ hk
          exact ⟨o, e, ex⟩
      obtain ⟨o, e, ex⟩ := z
      refine ⟨⟨o, e, ex.1⟩, fun a e2 => ?_⟩
      cases e2
      exact ⟨o, e, ex.2.1⟩
    · obtain ⟨o, _, _, _, e, ex, _⟩ := I.hok p _ hk
      refine ⟨⟨o, e, ex.1⟩, fun a e2 => ?_⟩
      cases e2
      exact ⟨o, e, ex.2.1⟩
  | _ => exact False.elim ty
def tBM0 (K : PySem.W.Frag) (T : String) (r : V → List V → Hp → VK → Prop) (to : TE) : TE := fun σ H Q => to σ H fun x H1 => tyV K T x H1 ∧ r x [] H1 Q
def tBM (K : PySem.W.Frag) (T : String) (r : V → List V → Hp → VK → Prop) (to : TE) (t : TA) : TE := fun σ H Q => to σ H fun x H1 => tyV K T x H1 ∧ t σ H1 fun xs H2 => r x xs H2 Q
variable {o e : Expr} {es : List Expr} {to : TE} {t : TA} {name : Str} {apos cpos : Pos} {T id : String} {r : V → List V → Hp → VK → Prop}
theorem pe_bm0 (pa : PlainAttrs T) (slot : Slot T name id) (hty : typeOf (.builtin id) = pure (.type "method_descriptor")) (hm : MtR X id r) (ho : PE X o to)
    (hbase : attributeBase o name X.env (eval o X.env) = eval o X.env := by rfl) (hline : (apos.endLine == cpos.line) = true := by rfl) : PE X (.Call (.Attribute o name apos) [] [] cpos) (tBM0 X.K T r to) := by
  intro pins s σ H Q I h
  refine wpAny_Call_method0_late hbase hline (thn (ho pins s σ H _ I h) fun v s1 ⟨x, H1, I1, r1, ty, q1⟩ => ?_)
  obtain ⟨h1, h2⟩ := tyV_is I1 r1 ty
  exact ⟨T, id, pa, slot, hty, h1, h2, Calls.callWith_builtin rfl (PySem.evalArgs_none (hm pins s1 σ H1 x [] v [] Q I1 r1 .nil q1))⟩
theorem pe_bm (pa : PlainAttrs T) (slot : Slot T name id) (hty : typeOf (.builtin id) = pure (.type "method_descriptor")) (hm : MtR X id r) (ho : PE X o to) (ha : PA X (e :: es) t)
    (hbase : attributeBase o name X.env (eval o X.env) = eval o X.env := by rfl)
    (hfew : ((backTo cpos (starEach (e :: es) X.env)).all (fun x => !x.1) && (backToKw cpos (keywordEach [] X.env)).all (fun x => x.1.isSome)
      && decide ((e :: es).length + ([] : List Keyword).length + (if ([] : List Keyword).isEmpty then 0 else 1) < 30)) = true := by rfl)
    (hline : (apos.endLine == cpos.line) = true := by rfl) (hs : starEach (e :: es) X.env = (false, eval e X.env) :: starEach es X.env := by rfl) (hplain : (backTo cpos (starEach es X.env)).any (·.1) = false := by rfl) :
    PE X (.Call (.Attribute o name apos) (e :: es) [] cpos) (tBM X.K T r to t) := by
  intro pins s σ H Q I h
  refine wpAny_Call_method_late hbase hfew hline rfl (thn (ho pins s σ H _ I h) fun v s1 ⟨x, H1, I1, r1, ty, q1⟩ => ?_)
  obtain ⟨h1, h2⟩ := tyV_is I1 r1 ty
  refine ⟨T, id, pa, slot, hty, h1, h2, ?_⟩
  have hA := ha cpos pins s1 σ H1 _ I1 q1
  rw [hs] at hA ⊢
  refine Calls.callWith_builtin (by show (false || (backTo cpos (starEach es X.env)).any (·.1)) = false; rw [hplain] <;> rfl) (Calls.evalArgs_plain ?_)
  exact thn hA fun us s2 ⟨vs, H2, I2, r2, q2⟩ => hm pins s2 σ H2 x vs v us Q I2 r1 r2 q2
/- xs.append(e), list.index on a module's tuple .. are MtR facts of 06m -/
end
end L2

namespace L2
open PySem PySem.Spec PyProof.Rows

def MtM (X : Cx) (id : String) (r : V → List V → Hp → VK → Prop) : Prop :=
  ∀ (pins : List (Addr × Obj)) (s : Shared) (σ : St) (H : Hp) (x : V) (xs : List V) (v : Value) (us : List Value) (Q : VK), Inv X pins σ H s → RelV x v → Vals xs us → r x xs H Q →
    wpAny (model X.prog X.w) X.A (call (.builtin id) (v :: us)) (EP X pins σ Q) X.xe s

/-! ### lists of values -/
theorem Vals.one : ∀ {x : V} {us : List Value}, Vals [x] us → ∃ u, us = [u] ∧ RelV x u
  | _, _, .cons r .nil => ⟨_, rfl, r⟩
theorem Vals.two : ∀ {x y : V} {us : List Value}, Vals [x, y] us → ∃ u v, us = [u, v] ∧ RelV x u ∧ RelV y v
  | _, _, _, .cons r (.cons q .nil) => ⟨_, _, rfl, r, q⟩
theorem Vals.zero : ∀ {us : List Value}, Vals [] us → us = []
  | _, .nil => rfl
theorem Vals.dropLast {xs : List V} {us : List Value} (h : Vals xs us) : Vals xs.dropLast us.dropLast := by
  induction h with
  | nil => exact .nil
  | cons r t ih =>
    cases t with
    | nil => exact .nil
    | cons q t' => exact .cons r ih
theorem Vals.eraseIdx : ∀ {xs : List V} {us : List Value} (i : Nat), Vals xs us → Vals (xs.eraseIdx i) (us.eraseIdx i)
  | _, _, _, .nil => .nil
  | _, _, 0, .cons _ t => t
  | _, _, i + 1, .cons r t => .cons r (Vals.eraseIdx i t)
theorem Vals.reverse {xs : List V} {us : List Value} (h : Vals xs us) : Vals xs.reverse us.reverse := by
  induction h with
  | nil => exact .nil
  | cons r t ih => rw [List.reverse_cons, List.reverse_cons]; exact Vals.append ih (.cons r .nil)
theorem erase_last {α : Type} (l : List α) : l.eraseIdx (l.length - 1) = l.dropLast := by
  induction l with
  | nil => rfl
  | cons a r ih =>
    cases r with
    | nil => rfl
    | cons b r =>
      have e : (a :: b :: r).length - 1 = ((b :: r).length - 1) + 1 := by
        have h1 : (a :: b :: r).length = r.length + 2 := rfl
        have h2 : (b :: r).length = r.length + 1 := rfl
        omega
      rw [e, List.eraseIdx_cons_succ, ih]
      all_goals rfl
section
variable {X : Cx} {pins : List (Addr × Obj)} {σ : St} {H : Hp} {s : Shared} {l b : Addr} {xs ys zs : List V}

/-! ### the two steps: a tracked list is rewritten, a new list is laid -/
theorem Inv.lset {its its' : List Value} {n : Nat} {f : Array Value → Array Value} {t' : Nat} (I : Inv X pins σ H s) (hH : H l = some (.lst xs))
    (e : s.heap.get? l = some { cls := .type "list", data := .seq its.toArray n }) (hf : f its.toArray = its'.toArray) (hv : Vals ys its') (hz : ys.length ≤ sizeLine) :
    Inv X pins σ (upd H l (.lst ys)) { s with heap := s.heap.update l (Obj.mapSeq f), toks := t' } := by
  have q := PySem.IsL.update e f
  rw [hf] at q
  refine I.write (x := l) (e := l) (by rw [hH]; exact trivial) (.inl rfl) (fun b' u hb hu => (Heap.get?_update_other s.heap (Obj.mapSeq f) (Ne.symm hb)).trans hu) ⟨_, q⟩ ?_
  exact ⟨hz, its', _, hv, q⟩
theorem Inv.lnew {its : List Value} {t' : Nat} (I : Inv X pins σ H s) (hv : Vals ys its) (hz : ys.length ≤ sizeLine) :
    Inv X pins σ (upd H s.heap.objs.size (.lst ys)) { s with heap := s.heap.push { cls := .type "list", data := .seq its.toArray }, toks := t' } :=
  I.laid (fun _ _ q => Heap.get?_push_of_some _ q) (Nat.le_refl _) ⟨hz, its, 0, hv, Heap.get?_push_size _ rfl⟩
theorem Inv.fresh (I : Inv X pins σ H s) : H s.heap.objs.size = none := I.hok.fresh (Nat.le_refl _)
theorem Inv.lstM (I : Inv X pins σ H s) (hH : H l = some (.lst xs)) : xs.length ≤ sizeLine ∧ ∃ (its : List Value) (n : Nat), Vals xs its ∧ xs.length = its.length ∧ s.heap.get? l = some { cls := .type "list", data := .seq its.toArray n } := by
  obtain ⟨z, its, n, r, e⟩ := I.hok l _ hH
  exact ⟨z, its, n, r, r.length, e⟩

end

section
variable {X : Cx}

/-! ### methods -/
def rAppend : V → List V → Hp → VK → Prop := fun x vs H Q => ∃ l xs y, x = .ref l ∧ vs = [y] ∧ H l = some (.lst xs) ∧ xs.length < sizeLine ∧ Q .non (upd H l (.lst (xs ++ [y])))
theorem mt_append : MtM X "list.append" rAppend := by
  intro pins s σ H x vs v us Q I rx rv h
  obtain ⟨l, xs, y, rfl, rfl, hH, hz, q⟩ := h
  cases rx
  obtain ⟨u, rfl, ru⟩ := rv.one
  obtain ⟨z, its, n, r, hl, e⟩ := I.lstM hH
  refine call_meets F.slot_list_append ⟨_, e, rfl⟩ F.entry_list_append (F.args_list_append_2 _ _) (PySem.list_append l its.toArray n u (by rw [List.size_toArray]; omega)) ⟨e, ?_⟩
  refine ⟨.non, _, I.lset (its' := its ++ [u]) hH e (by simp) (r.append (.cons ru .nil)) ?_, rfl, q⟩
  rw [List.length_append, List.length_singleton]
  omega

def rExtend : V → List V → Hp → VK → Prop := fun x vs H Q => ∃ l b xs zs, x = .ref l ∧ vs = [.ref b] ∧ H l = some (.lst xs) ∧ H b = some (.lst zs) ∧ xs.length + zs.length ≤ sizeLine ∧ Q .non (upd H l (.lst (xs ++ zs)))
def rPop : V → List V → Hp → VK → Prop := fun x vs H Q => ∃ l xs y, x = .ref l ∧ vs = [] ∧ H l = some (.lst xs) ∧ xs[xs.length - 1]? = some y ∧ Q y (upd H l (.lst xs.dropLast))
theorem mt_pop : MtM X "list.pop" rPop := by
  intro pins s σ H x vs v us Q I rx rv h
  obtain ⟨l, xs, y, rfl, rfl, hH, hy, q⟩ := h
  cases rx
  have hus := rv.zero
  subst hus
  obtain ⟨z, its, n, r, hl, e⟩ := I.lstM hH
  obtain ⟨u, hu, ru⟩ := r.get hy
  have hy' : its.toArray[its.toArray.size - 1]? = some u := by
    show its.toArray[its.length - 1]? = some u
    rw [← Array.getElem?_toList, ← hl]
    exact hu
  refine call_meets F.slot_list_pop ⟨_, e, rfl⟩ F.entry_list_pop (F.args_list_pop_1 _) (MeetsSeq.list_pop_last l its.toArray n u hy' (by rw [List.size_toArray]; omega)) ⟨e, ?_⟩
  refine ⟨y, _, I.lset (its' := its.dropLast) hH e ?_ r.dropLast ?_, ru, q⟩
  · show its.toArray.eraseIdxIfInBounds (its.toArray.size - 1) = its.dropLast.toArray
    rw [List.size_toArray, List.eraseIdxIfInBounds_toArray, erase_last]
  · rw [List.length_dropLast]
    omega

def rReverse : V → List V → Hp → VK → Prop := fun x vs H Q => ∃ l xs, x = .ref l ∧ vs = [] ∧ H l = some (.lst xs) ∧ Q .non (upd H l (.lst xs.reverse))
theorem mt_reverse : MtM X "list.reverse" rReverse := by
  intro pins s σ H x vs v us Q I rx rv h
  obtain ⟨l, xs, rfl, rfl, hH, q⟩ := h
  cases rx
  have hus := rv.zero
  subst hus
  obtain ⟨z, its, n, r, hl, e⟩ := I.lstM hH
  refine call_meets F.slot_list_reverse ⟨_, e, rfl⟩ F.entry_list_reverse (F.args_list_reverse_1 _) (AutoSeq1.list_reverse_list_0 l its.toArray n (by rw [List.size_toArray]; omega)) ⟨e, ?_⟩
  refine ⟨.non, _, I.lset (its' := its.reverse) hH e (by simp) r.reverse ?_, rfl, q⟩
  rw [List.length_reverse]
  omega

def rClear : V → List V → Hp → VK → Prop := fun x vs H Q => ∃ l xs, x = .ref l ∧ vs = [] ∧ H l = some (.lst xs) ∧ Q .non (upd H l (.lst []))
/-! ### list + list, list += list, list * int -/
def rCat : R2 := fun x y H Q => ∃ l b xs zs, x = .ref l ∧ y = .ref b ∧ H l = some (.lst xs) ∧ H b = some (.lst zs) ∧ xs.length + zs.length ≤ sizeLine ∧ ∀ p, H p = none → Q (.ref p) (upd H p (.lst (xs ++ zs)))
theorem op_cat : OpR X (binaryOp .Add) rCat := by
  intro pins s σ H x y v u Q I rx ry h
  obtain ⟨l, b, xs, zs, rfl, rfl, hH, hB, hz, q⟩ := h
  cases rx
  cases ry
  obtain ⟨z, its, n, r, hl, e⟩ := I.lstM hH
  obtain ⟨z2, its2, n2, r2, hl2, e2⟩ := I.lstM hB
  refine PySem.P.add_list e e2 ?_ (by rw [List.size_toArray, List.size_toArray]; omega)
  have ea : its.toArray ++ its2.toArray = (its ++ its2).toArray := by simp
  rw [ea]
  exact ⟨.ref _, _, I.lnew (t' := s.toks) (r.append r2) (by rw [List.length_append]; omega), rfl, q _ I.fresh⟩
/-! ### del xs[i] -/
end

/-! ### xs[a:b] = ys -/
section
variable {prog : Program} {w : World} {A : Around} {E : Value → Shared → Prop} {s : Shared}
set_option maxRecDepth 100000 in
end

section
variable {X : Cx}
end
end L2

namespace Att
open PySem PySem.W PySem.Calls PyProof.Rows

/-! ### the script -/
theorem ints_of_wellAll {P : Params} {h : Heap} : ∀ (ns : List Int) (vs : List Value), WellAll P h vs (ns.map WData.int) → IntsAre vs ns := by
  intro ns
  induction ns with
  | nil =>
    intro vs w
    rw [List.map_nil] at w
    cases w
    exact .nil
  | cons n ns ih =>
    intro vs w
    rw [List.map_cons] at w
    cases w with
    | cons a b =>
      cases a
      exact .cons _ _ (ih _ b)

theorem script_of {l : OpenLaw} {n : Nat} (hn : l.most = some n) {P : Params} {h : Heap} {args : List WData} {vals : List Value}
    (hpre : l.row.toRowW.claim.pre args = true) (hwl : WellAll P h vals args) :
    ∃ a vs ns, vals = [Value.ref a] ∧ args = [WData.list (ns.map WData.int)] ∧ h.get? a = some { cls := .type "list", data := .seq vs.toArray } ∧ IntsAre vs ns ∧ ns.length ≤ n := by
  have hsh : WShape.hasAll [] args [.list .int] = true := (pre_splitW hpre).1
  have hc : l.pre.holds [] { args := args } = true := (pre_splitW hpre).2
  obtain ⟨d, r, rfl, h1, h2⟩ := hasAllW_cons hsh
  obtain rfl := hasAllW_nil h2
  obtain ⟨xs, rfl, h3⟩ := hasW_list h1
  obtain ⟨ns, rfl⟩ := items_int h3
  have hlen : ns.length ≤ n := by
    unfold OpenLaw.pre at hc
    have h4 : (WTm.not (.lt (.lit (.int (n : Int))) (.len (.arg 0)))).holds [] { args := [.list (ns.map .int)] } = true := by
      have h4 := (holds_andW hc).1
      rw [hn] at h4
      exact h4
    have h5 := condW_of h4 (w_not (w_lt w_lit (w_len_list (w_arg rfl))))
    rw [List.length_map] at h5
    refine Nat.le_of_not_lt fun q => ?_
    have q' : (n : Int) < ((ns.length : Nat) : Int) := by omega
    first
      | (rw [decide_eq_true q'] at h5; exact absurd h5 (by decide))
      | (simp at h5; omega)
  cases hwl with
  | cons w1 w2 =>
    cases w2
    cases w1 with
    | list ho hall => exact ⟨_, _, ns, rfl, rfl, ho, ints_of_wellAll ns _ hall, hlen⟩

theorem post_true (l : OpenLaw) (args : List WData) : l.row.toRowW.claim.post args (.bool true) args = true :=
  postW_of (r := l.row.toRowW) (X := (true == true))
    (show WShape.has [] (.bool true) .bool = true by first | rfl | decide | simp [WShape.has, WShape.arms, WShape.armsAll])
    (show (WTm.eq .res (.lit (.bool true))).value [] { args := args, res := some (.bool true), after := args } = some (.bool (true == true)) from w_eq_bool (w_res rfl) w_lit) rfl

/-! ### the attachment: holds_open's last premise (the goal 'hc' behind k_head) from a wpAny of the law's body -/
/-- the same from a codeAny of the CALL (for a layer whose function contracts speak of calls) -/
theorem attach_call {l : OpenLaw} {n : Nat} {q : Program} {loose : List Str} {XP : (Str → Option Value) → Heap → Prop} {YP : World → Heap → Prop} {d : DefRec}
    (hn : l.most = some n) (hdf : d.params.defaults = [])
    (call : ∀ (w : World) (s₀ s₁ : Shared) (mg mb : Str → Option Value) (fa : Addr) (o : Obj) (pm cd doc : Value) (a : Addr) (vs : List Value) (ns : List Int),
      Ground q loose [] XP w s₀ mg mb s₁.heap → YP w s₁.heap →
      s₁.heap.get? fa = some o → o.data = .func (docDef d.name d.params d.body d.scope pm cd doc) → s₁.heap.CodeRec cd d.name → mg d.name = some (.ref fa) →
      s₁.heap.get? a = some { cls := .type "list", data := .seq vs.toArray } → IntsAre vs ns → ns.length ≤ n → s₁.gens = #[] →
      codeAny (model l.prog w) callerA (.call (.ref fa) ⟨[.ref a], []⟩) (fun r s' => r = .ok (.ret (.bool true)) ∧ OldK s₁.heap s'.heap ∧ s'.os = s₁.os ∧ AllBare s'.gens) s₁) :
    WalkO q loose XP YP l.row.toRowW d [] (fun f vs => PySem.call f vs) := by
  intro w s₀ s₁ mg mb G Y fa o pm cd doc dV kV ho hd hcd hD hmg hg args vals as hpre hlay hrd hwl hlo
  obtain rfl : dV = .none := Dflts.none hD hdf
  obtain rfl : kV = .none := Dflts.noKw hD
  obtain ⟨a, vs, ns, rfl, rfl, hobj, hints, hlen⟩ := script_of hn hpre hwl
  refine enter_call (codeAny_mono (call w s₀ s₁ mg mb fa o pm cd doc a vs ns G Y ho (fd_plain hd) hcd hmg hobj hints hlen hg) fun r s' hq => ?_)
  obtain ⟨rfl, h2, h3, h4⟩ := hq
  exact ⟨.inl ⟨.bool true, .bool true, [], rfl, fun _ => rfl, .bool true, post_true l _, fun _ => ⟨List.Pairwise.nil, fun _ hm => (nomatch hm)⟩⟩, h2, h3, h4⟩

/-! ### rules over ANY heap (no ledger) from facts about the written part K: the library's own take a ledger (News) for what they write -/
section
variable {prog : Program} {w : World} {A : Around} {E : Value → Shared → Prop} {s : Shared} {K : Frag}

/-! the whole heap as the ledger: makes every rule that writes through a ledger a rule over any heap -/
def ledger (h : Heap) (L d : Addr) : List (Addr × Obj) := (List.range h.objs.size).filterMap fun a => if a = L ∨ a = d then none else (h.get? a).map fun o => (a, o)
end
end Att

namespace L2
open PySem PySem.Spec PyProof.Rows

theorem vals_ints : ∀ {vs : List Value} {ns : List Int}, IntsAre vs ns → Vals (ns.map V.int) vs
  | _, _, .nil => .nil
  | _, _, .cons n t h => .cons ⟨t, rfl⟩ (vals_ints h)

/-- nothing is tracked but the script, known to the object (or it is an object of the module) -/
def Only (H : Hp) : Prop := ∀ b, H b = none ∨ ∃ o xs, H b = some (.frz o (.lst xs))

/-- THE HEAD: the law's promise, at the heap behind the top. F, the promise of the law's def, may use that base is part of the heap (so K.In base, base.Ns mainGlobals mg stand in Mod) -/
theorem law_call {P : Program} {w : World} {K : PySem.W.Frag} {mg mb : Str → Option Value} {CX : CXT} {k : Nat} {fa a : Addr} {fd : FuncData} {x : Str} {sp : Sp} {s₁ : Shared} {vs : List Value} {ns : List Int}
    (KX : K.In s₁.heap) (hns : s₁.heap.Ns mainGlobals mg) (hb : s₁.heap.Ns builtinsNs mb) (hbb : ∀ x : Str, x ≠ "__name__" → mb x = bootBuiltins x) (hlim : s₁.heap.NoLimit) (hg : s₁.gens = #[])
    (ha : s₁.heap.get? a = some { cls := .type "list", data := .seq vs.toArray }) (hi : IntsAre vs ns) (hl : ns.length ≤ sizeLine) (hr : Room k callerA)
    (F : ∀ base : Heap, K.In base → base.Ns mainGlobals mg → FnOk P w K mg base CX k fa fd [x] sp) (hbind : ∀ (s : Shared) (u : Value), BindsTo s fd ⟨[u], []⟩ [(x, u)])
    (hsp : ∀ H : Hp, Only H → SqL K H a (ns.map V.int) → sp [.ref a] H (fun v _ => v = .bl true) fun _ _ _ => False)
    (hCX : ∀ H e s', CX [] H s₁ (fun _ _ _ => False) e s' → False) :
    codeAny (model P w) callerA (.call (.ref fa) ⟨[.ref a], []⟩) (fun r s' => r = .ok (.ret (.bool true)) ∧ OldK s₁.heap s'.heap ∧ s'.os = s₁.os ∧ AllBare s'.gens) s₁ := by
  have rv := vals_ints hi
  have lenV := hi.length
  -- from an abstract heap in which nothing but the script may be tracked
  have core : ∀ H : Hp, Only H → SqL K H a (ns.map V.int) → HOk P w H s₁.heap → (∀ b, H b ≠ none → b = a) → (H a ≠ none → K.lookup a = none) →
      codeAny (model P w) callerA (.call (.ref fa) ⟨[.ref a], []⟩) (fun r s' => r = .ok (.ret (.bool true)) ∧ OldK s₁.heap s'.heap ∧ s'.os = s₁.os ∧ AllBare s'.gens) s₁ := by
    intro H hO hS hok hA hK
    have base_of : ∀ {b : Addr} {o : Obj}, s₁.heap.get? b = some o → H b = none → (hidT s₁.heap H).get? b = some o := fun e n => hidT_get e n
    have noA : ∀ {b : Addr} {o : Obj} {es : Array DictEntry} {ep : Nat}, s₁.heap.get? b = some o → o.data = .dict es ep → H b = none := fun {b o es ep} e d => by
      cases q : H b with
      | none => rfl
      | some u =>
        have e' : b = a := hA b (by rw [q]; simp)
        subst e'
        rw [ha] at e; cases e
        have d' : Data.seq vs.toArray _ = Data.dict es ep := d
        cases d'
    have nsK : ∀ {b : Addr} {m : Str → Option Value}, s₁.heap.Ns b m → (hidT s₁.heap H).Ns b m := fun {b m} ⟨o, es, ep, e, d, r⟩ => ⟨o, es, ep, base_of e (noA e d), d, r⟩
    have hKb : K.In (hidT s₁.heap H) := fun b o e => base_of (KX b o e) (by
      cases q : H b with
      | none => rfl
      | some u =>
        have e' : b = a := hA b (by rw [q]; simp)
        subst e'
        rw [hK (by rw [q]; simp)] at e; cases e)
    have hM : Mod K mg (hidT s₁.heap H) := ⟨hKb, nsK hns, ⟨mb, nsK hb, hbb⟩, let ⟨mc, h1, h2⟩ := hlim; ⟨mc, nsK h1, h2⟩⟩
    have e0 : Env0 P w K mg (hidT s₁.heap H) callerA [] s₁ H := ⟨rfl, hM, fun b o e => of_hidT e, Nat.le_of_eq (hidT_size _ _), trivial, fun b hb => absurd (show b ∈ ([] : List Addr) from hb) (by simp), hok, .of_eq hg⟩
    refine codeAny_mono ((F _ hKb (nsK hns)).run callerA [] s₁ H ⟨[.ref a], []⟩ [.ref a] [.ref a] _ _ hr e0 (hbind s₁ (.ref a)) (.cons rfl .nil) (hsp H hO hS)) fun r s' h => ?_
    cases r with
    | error e => exact (hCX H e s' h).elim
    | ok fl =>
      cases fl with
      | next => exact False.elim h
      | brk => exact False.elim h
      | cont => exact False.elim h
      | ret u =>
        obtain ⟨v, H', os, bare, un, hok', r', q⟩ := h
        have q' : v = .bl true := q
        subst q'
        obtain rfl : u = Value.bool true := r'
        refine ⟨rfl, OldK.of_keep fun b o e => ?_, os, bare⟩
        cases q : H b with
        | none => exact un.keep b o e q (by intro z; exact absurd (show b ∈ ([] : List Addr) from z) (by simp)) (by simp)
        | some u =>
          rcases hO b with z | ⟨ob, xs, z⟩
          · rw [q] at z; cases z
          · have z2 := un.frzs b ob _ z
            obtain ⟨e1, _⟩ := hok b _ z
            obtain ⟨e2, _⟩ := hok' b _ z2
            rw [e] at e1; cases e1
            exact e2
  cases hk : K.lookup a with
  | some o =>
    -- the script is one of the module's own objects
    have e := KX a o hk
    rw [ha] at e
    cases e
    refine core (fun _ => none) (fun _ => .inl rfl) (.inr ⟨_, vs.toArray, _, hk, rfl, rfl, rfl, by rw [List.size_toArray, lenV]; exact hl, by simpa using rv⟩) (fun b u z => by have z' : (none : Option HO) = some u := z; cases z') (fun b z => absurd rfl z) fun z => absurd rfl z
  | none =>
    refine core (fun b => if b = a then some (.frz { cls := .type "list", data := .seq vs.toArray } (.lst (ns.map V.int))) else none) (fun b => ?_) (.inl (.inr ⟨{ cls := .type "list", data := .seq vs.toArray }, if_pos rfl⟩)) (fun b u z => ?_) (fun b z => ?_) fun _ => hk
    · by_cases hb : b = a
      · exact .inr ⟨_, _, if_pos hb⟩
      · exact .inl (if_neg hb)
    · by_cases hb : b = a
      · have z' := (if_pos hb).symm.trans z
        cases z'
        subst hb
        exact ⟨ha, by rw [List.length_map]; exact hl, vs, _, rv, ha⟩
      · have z' := (if_neg hb).symm.trans z
        cases z'
    · by_cases hb : b = a
      · exact hb
      · exact absurd (if_neg hb) z
end L2

namespace L2
open PySem PySem.Spec PyProof.Rows

abbrev KOf {K : PySem.W.Frag} {h : Heap} (_ : K.In h) : PySem.W.Frag := K

/-- the goal that k_head leaves (case hc), from the law's promise. F gives the function object fd (K's own) once, then the promise over every base -/
theorem walk_of {l : PySem.W.OpenLaw} {n k : Nat} {q : Program} {loose : List Str} {XP : (Str → Option Value) → Heap → Prop} {YP : World → Heap → Prop} {d : DefRec} {K : Params → PySem.W.Frag} {CX : World → CXT} {sp : World → Sp} {x : Str}
    (hn : l.most = some n) (hn2 : n ≤ sizeLine) (hdf : d.params.defaults = []) (hr : Room k callerA)
    (hY : ∀ (w : World) (h : Heap), YP w h → (K w.params).In h)
    (F : ∀ (w : World) (mg : Str → Option Value) (fa : Addr) (h : Heap), (K w.params).In h → h.Ns mainGlobals mg → mg d.name = some (.ref fa) →
      ∃ fd : FuncData, (∀ (s : Shared) (u : Value), BindsTo s fd ⟨[u], []⟩ [(x, u)]) ∧
        ∀ base : Heap, (K w.params).In base → base.Ns mainGlobals mg → FnOk l.prog w (K w.params) mg base (CX w) k fa fd [x] (sp w))
    (hsp : ∀ (w : World) (H : Hp) (a : Addr) (ns : List Int), ns.length ≤ n → Only H → SqL (K w.params) H a (ns.map V.int) → sp w [.ref a] H (fun v _ => v = .bl true) fun _ _ _ => False)
    (hCX : ∀ (w : World) (H : Hp) (s : Shared) (e : Value) (s' : Shared), CX w [] H s (fun _ _ _ => False) e s' → False) :
    PySem.W.WalkO q loose XP YP l.row.toRowW d [] (fun f vs => PySem.call f vs) := by
  refine Att.attach_call hn hdf fun w s₀ s₁ mg mb fa o pm cd doc a vs ns G Y ho hd hcd hmg hobj hints hlen hg => ?_
  have KX := hY w _ Y
  obtain ⟨fd, hb, hF⟩ := F w mg fa _ KX G.T.g hmg
  exact law_call KX G.T.g G.T.b G.T.builtins G.T.nolimit hg hobj hints (Nat.le_trans hlen hn2) hr hF hb (fun H hO hS => hsp w H a ns hlen hO hS) fun H e s' => hCX w H s₁ e s'
end L2

/- THE LAST THEOREM (shape; LID, My.* are yours):
   My.Adr: a structure of the addresses that your layer names (classes, functions); My.Txt K t: a structure (Prop) of the equations over K;
   My.txt_mk : {K} {implicit addresses ..} (e1 : nsIn K mainGlobals "law" = some (some (.ref f))) (e2 : K.lookup f = some ⟨oc, od, .func (fnOf "law" "law" params body scope dV kV doc pm an cdv ct), sl⟩) (e3 : codeIn K cdv "law" = true) .. : ∃ t, My.Txt K t

set_option maxRecDepth 100000 in
set_option maxHeartbeats 0 in
theorem PySem.Challenge.cw_LID_holds : PySem.Challenge.rw_LID.Holds := by
  w_on; o_law; k_head; (case hw => w_witness2)
  k_fill
  refine L2.walk_of (l := PySem.Challenge.rw_LID) (n := 63) (k := 40) (x := "script") (CX := fun w => ..) (sp := fun _ => My.sp_law) rfl (by decide) rfl ⟨rfl, by decide, by decide⟩ (fun w h Y => PySem.W.kIn_of Y) ?F ?S ?C
  case F =>
    intro w mg fa h KX G hmg
    have T : ∃ t, My.Txt (L2.KOf KX) t := by
      dsimp only [L2.KOf]                          -- K must stand as «<heap const> w.params» for k_is
      refine' My.txt_mk ?e1 ?e2 ?e3 ..
      (case e1 => PySem.W.k_is)                    -- in the order: a name -> its address -> its object -> its parts
      (case e2 => PySem.W.k_is)
      ..
    obtain ⟨t, T⟩ := T
    have e0 := hmg.symm.trans (PySem.W.mg_of KX G T.law)
    cases e0                                       -- fa is the law's own address
    exact ⟨_, fun s u => .of_eq rfl, fun base kb nb => My.law_fn T kb nb⟩     -- if «.of_eq rfl» comes too early: refine' ⟨_, ?b, fun base kb nb => My.law_fn T kb nb⟩; exact fun s u => .of_eq rfl
  case S => exact fun w H a ns hl hO hS => ..
  case C => exact ..
(the tactic k_is has no namespace: write k_is) -/

/-! SHORT WORDS over the layer: a def of the text, its body, what a loop and a test want. -/
namespace L2
open PySem PySem.Spec PyProof.Rows

/-! ### the text by places -/
/-- the j-th statement of a class's body -/
def inClass (s : Stmt) (j : Nat) : Stmt := match s with
  | .ClassDef _ _ _ body _ _ _ _ _ _ _ => body.getD j (.Pass ⟨0, 0, 0, 0⟩)
  | _ => .Pass ⟨0, 0, 0, 0⟩
def defArgs (s : Stmt) : Arguments := match s with
  | .FunctionDef _ a _ _ _ _ _ _ _ _ => a
  | _ => { posonlyargs := [], args := [], vararg := none, kwonlyargs := [], kw_defaults := [], kwarg := none, defaults := [] }
def defBody (s : Stmt) : List Stmt := match s with
  | .FunctionDef _ _ b _ _ _ _ _ _ _ => b
  | _ => []
def defScope (s : Stmt) : Scope := match s with
  | .FunctionDef _ _ _ _ _ _ sc _ _ _ => sc
  | _ => { kind := .function, names := [], isGenerator := false, isCoroutine := false }

/-! ### no exception leaves a def -/
abbrev CX0 : CXT := fun _ _ _ _ _ _ => False
abbrev E0 : XK := fun _ _ _ => False
theorem pass0 {X : Cx} : Passes CX0 X E0 := fun _ _ _ _ _ _ _ h => h.elim

/-! ### a def (or method) of the text as it stands behind the top -/
structure Fun (K : PySem.W.Frag) (x qual : Str) (st : Stmt) (f : Addr) (fd : FuncData) : Prop where
  ex : ∃ (oc : Value) (od : Option Addr) (kV doc pm : Value) (an : Option Addr) (cdv ct : Value) (osl : Array (Option Value)),
    fd = PySem.W.fnOf x qual (defArgs st) (defBody st) (defScope st) .none kV doc pm an cdv ct ∧ K.lookup f = some ⟨oc, od, .func fd, osl⟩ ∧ PySem.W.codeIn K cdv qual = true
  kp : PySem.W.keepIn K (.ref f) = true
section
variable {P : Program} {w : World} {K : PySem.W.Frag} {mg : Str → Option Value} {base : Heap}
/-- THE RULE for a def: its body as a term of rules, and the reading of that term -/
theorem Fun.ok {x qual : Str} {st : Stmt} {f : Addr} {fd : FuncData} {N ps : List Str} {k : Nat} {sp : Sp} (F : Fun K x qual st f fd) (S : FnScope N ps (defScope st)) (len : ∀ vs H Q E, sp vs H Q E → vs.length = ps.length)
    (hbody : ∀ (cdv : Value) (A : Around) (outer : List Env) (s : Shared) (H : Hp) (vs : List V) (Q : VK) (E : XK), Room k (A.deeper (envOfC qual (defScope st) s.heap.objs.size f cdv)) → sp vs H Q E →
      ∃ t, PSs (cxOf CX0 P w K mg base N qual (defScope st) f cdv A outer s H E).nox (defBody st) t ∧ t { nx := fun _ H' => Q .non H', rt := Q } (start N vs) H) : FnOk P w K mg base CX0 (k + 1) f fd ps sp := by
  obtain ⟨oc, od, kV, doc, pm, an, cdv, ct, osl, rfl, lk, hcd⟩ := F.ex
  refine fn_of lk hcd S len fun A outer s H vs Q E hr hsp => ?_
  obtain ⟨t, h, q⟩ := hbody cdv A outer s H vs Q E hr hsp
  exact ⟨t, h.nox, q⟩
/-- how its arguments bind (no defaults): h is «fun _ _ _ _ _ _ us hl => match us, hl with | [_, _], _ => rfl», one _ a parameter -/
theorem Fun.binds {x qual : Str} {st : Stmt} {f : Addr} {fd : FuncData} {ps : List Str} (F : Fun K x qual st f fd)
    (h : ∀ (kV doc pm : Value) (an : Option Addr) (cdv ct : Value) (us : List Value), us.length = ps.length → bindArgs (PySem.W.fnOf x qual (defArgs st) (defBody st) (defScope st) .none kV doc pm an cdv ct) ⟨us, []⟩ = pure (ps.zip us)) : Binds K fd ps [] := by
  obtain ⟨oc, od, kV, doc, pm, an, cdv, ct, osl, rfl, lk, hcd⟩ := F.ex
  exact .all (h kV doc pm an cdv ct)
theorem fun_mk {x qual : Str} {st : Stmt} {f : Addr} {oc : Value} {od an : Option Addr} {osl : Array (Option Value)} {kV doc pm cdv ct : Value} (l : K.lookup f = some ⟨oc, od, .func (PySem.W.fnOf x qual (defArgs st) (defBody st) (defScope st) .none kV doc pm an cdv ct), osl⟩)
    (c : PySem.W.codeIn K cdv qual = true) (k : PySem.W.keepIn K (.ref f) = true) : Fun K x qual st f (PySem.W.fnOf x qual (defArgs st) (defBody st) (defScope st) .none kV doc pm an cdv ct) := ⟨⟨oc, od, kV, doc, pm, an, cdv, ct, osl, rfl, l, c⟩, k⟩
end
/-! ### expressions in short: the name that stands in the i-th slot -/
section
variable {X : Cx}
theorem pv (i : Nat) {x : Str} {pos : Pos} (hN : X.N[i]? = some x := by rfl) (hv : Vis X.env.scope x := by first | exact Or.inl rfl | exact Or.inr (Or.inl rfl) | exact Or.inr (Or.inr rfl)) (hd : (x == ("__debug__" : Str)) = false := by decide)
    (hcd : (x == ("__classdict__" : Str)) = false := by decide) : PE X (.Name x pos) (tVar i) := pe_var hN hv hd hcd
end

/-! ### tests -/
theorem iteF {A B : Prop} (h : B) : if false = true then A else B := by
  rw [if_neg Bool.false_ne_true]
  exact h
theorem iteT {A B : Prop} (h : A) : if true = true then A else B := by
  rw [if_pos rfl]
  exact h
theorem ite2 {c A B : Prop} [Decidable c] (h1 : c → A) (h2 : ¬ c → B) : if c then A else B := by
  by_cases h : c
  · rw [if_pos h]
    exact h1 h
  · rw [if_neg h]
    exact h2 h
theorem iteNS {c A B : Prop} [Decidable c] (hc : c) (h : B) : if (!decide c) = true then A else B := by
  rw [decide_eq_true hc]
  exact iteF h

/-! ### heaps -/
/-- all that was tracked is as it was -/
def Same (H H' : Hp) : Prop := ∀ b o, H b = some o → H' b = some o
theorem Same.refl (H : Hp) : Same H H := fun _ _ h => h
theorem Same.trans {H H1 H2 : Hp} (a : Same H H1) (b : Same H1 H2) : Same H H2 := fun c o h => b c o (a c o h)
theorem Same.free {H H' : Hp} (e : Same H H') {l : Addr} (h : H' l = Option.none) : H l = Option.none := by
  cases q : H l with
  | none => rfl
  | some o =>
    rw [e l o q] at h
    cases h
theorem Same.seq {K : PySem.W.Frag} {H H' : Hp} {a : Addr} {xs : List V} (e : Same H H') (h : SqL K H a xs) : SqL K H' a xs := by
  rcases h with (h | ⟨o, h⟩) | h
  · exact .inl (.inl (e _ _ h))
  · exact .inl (.inr ⟨o, e _ _ h⟩)
  · exact .inr h

end L2

set_option Elab.async false
set_option linter.all false
set_option maxRecDepth 100000
set_option maxHeartbeats 4000000
namespace L3
open PySem PySem.Spec PyProof.Rows L2
abbrev St := L2.St

/-- the inner names' values: an own name has none yet, a captured one has its slot's -/
def sub (ix : List (Option Nat)) (σ : St) : St := ix.map fun o => o.bind fun j => (σ[j]?).join

theorem thnF {α : Type} {t : Sem α} {Q Q' : α → Shared → Prop} {M : Model} {A : Around} {E : Value → Shared → Prop} {s : Shared} (h : wpAny M A t Q (fun _ _ => False) s) (hQ : ∀ a s, Q a s → Q' a s) : wpAny M A t Q' E s :=
  wpAny_mono h hQ fun _ _ z => z.elim

/-- the tests behind a comprehension's for -/
def PTs (X : Cx) (ifs : List Expr) (t : TT) : Prop :=
  ∀ (pins : List (Addr × Obj)) (s : Shared) (σ : St) (H : Hp) (Q : Bool → Hp → Prop), Inv X pins σ H s → t σ H Q →
    wpAny (model X.prog X.w) X.A (forIn ifs true fun c r => if r = true then do let ok ← isTrue c X.env (eval c X.env); pure (ForInStep.yield ok) else pure (ForInStep.yield r)) (TP X pins σ Q) X.xe s
def tTrue : TT := fun _ H Q => Q true H
theorem pts_nil {X : Cx} : PTs X [] tTrue := fun _ _ _ H _ I h => wpAny_tests_nil ⟨H, I, h⟩
theorem pts_one {X : Cx} {c : Expr} {t : TT} (h : PT X c t) : PTs X [c] t := fun pins s σ H Q I q => wpAny_tests_one (h pins s σ H Q I q)

/-! ### what is captured -/
def closOf (scope : Scope) (env : Env) : List (Str × Addr) := (scope.names.filter fun y => y.2 == .free).reverse.map fun y => (y.1, (env.cells.lookup y.1).getD 0)

theorem clos_loop {env : Env} : ∀ (ns : List (Str × NameKind)) (acc : List (Str × Addr)), (∀ y ∈ ns, y.2 = .free → (env.cells.lookup y.1).isSome = true) →
    (forIn ns acc fun (x : Str × NameKind) (r : List (Str × Addr)) => if x.2 == .free then do let a ← cellOf env x.1; pure (ForInStep.yield ((x.1, a) :: r)) else pure (ForInStep.yield r) : Sem (List (Str × Addr))) =
      pure ((ns.filter fun y => y.2 == .free).reverse.map (fun y => (y.1, (env.cells.lookup y.1).getD 0)) ++ acc) := by
  intro ns
  induction ns with
  | nil => intro acc _; rfl
  | cons y r ih =>
    intro acc h
    have hr : ∀ z ∈ r, z.2 = .free → (env.cells.lookup z.1).isSome = true := fun z hz => h z (List.mem_cons_of_mem _ hz)
    rw [List.forIn_cons]
    by_cases hf : (y.2 == NameKind.free) = true
    · have hs := h y List.mem_cons_self (by simpa using hf)
      obtain ⟨c, hc⟩ := Option.isSome_iff_exists.mp hs
      have e1 : cellOf env y.1 = pure c := by unfold cellOf; rw [hc]
      rw [if_pos hf, e1, pure_bind, pure_bind]
      refine (ih _ hr).trans ?_
      rw [List.filter_cons_of_pos (by simpa using hf), List.reverse_cons, List.map_append]
      simp [hc]
    · rw [if_neg hf, pure_bind]
      refine (ih _ hr).trans ?_
      rw [List.filter_cons_of_neg (by simpa using hf)]
theorem clos_eq {scope : Scope} {env : Env} (h : ∀ y ∈ scope.names, y.2 = .free → (env.cells.lookup y.1).isSome = true) : closureFor scope env = pure (closOf scope env) := by
  have e := clos_loop (env := env) scope.names [] h
  rw [List.append_nil] at e
  unfold closureFor
  rw [show closOf scope env = (scope.names.filter fun y => y.2 == .free).reverse.map (fun y => (y.1, (env.cells.lookup y.1).getD 0)) from rfl]
  rw [← pure_bind (m := Sem) ((scope.names.filter fun y => y.2 == .free).reverse.map (fun y => (y.1, (env.cells.lookup y.1).getD 0))) pure, ← e]
theorem lookup_pairs {β : Type} (f : Str → β) : ∀ (l : List (Str × NameKind)) (x : Str), (l.map fun y => (y.1, f y.1)).lookup x = if x ∈ l.map (·.1) then some (f x) else none
  | [], x => by simp
  | y :: r, x => by
    rw [List.map_cons, List.lookup_cons, lookup_pairs f r x]
    by_cases e : x = y.1
    · subst e; simp
    · have hb : (x == y.1) = false := by simpa using e
      rw [hb]
      by_cases hm : x ∈ r.map (·.1)
      · rw [if_pos hm, if_pos (by rw [List.map_cons]; exact List.mem_cons_of_mem _ hm)]
      · rw [if_neg hm, if_neg (by rw [List.map_cons]; intro z; rcases List.mem_cons.mp z with z | z; exact e z; exact hm z)]
theorem clos_some {scope : Scope} {env : Env} {x : Str} {c : Addr} (h : ∀ y ∈ scope.names, y.2 = .free → (env.cells.lookup y.1).isSome = true) (e : (closOf scope env).lookup x = some c) : env.cells.lookup x = some c := by
  unfold closOf at e
  rw [lookup_pairs (fun z => (env.cells.lookup z).getD 0)] at e
  split at e
  · rename_i hx
    obtain ⟨y, hy, rfl⟩ := List.mem_map.mp hx
    obtain ⟨h1, h2⟩ := List.mem_filter.mp (List.mem_reverse.mp hy)
    obtain ⟨d, hd⟩ := Option.isSome_iff_exists.mp (h y h1 (by simpa using h2))
    have e' := Option.some.inj e
    rw [hd] at e' ⊢
    exact congrArg some e'
  · cases e
theorem clos_has {scope : Scope} {env : Env} {x : Str} (hx : (x, NameKind.free) ∈ scope.names) : ∃ c, (closOf scope env).lookup x = some c := by
  unfold closOf
  rw [lookup_pairs (fun z => (env.cells.lookup z).getD 0), if_pos]
  · exact ⟨_, rfl⟩
  · exact List.mem_map.mpr ⟨(x, .free), List.mem_reverse.mpr (List.mem_filter.mpr ⟨hx, by simp⟩), rfl⟩
theorem relabel_kind {env : Env} : ∀ {names : List (Str × NameKind)} {x : Str} {k : NameKind},
    (names.map fun (n, k) => if (k == NameKind.free && env.scope.kind == .function && env.kindOf n == some .cell) then (n, NameKind.cell) else (n, k)).lookup x = some k →
      names.lookup x = some k ∨ (k = .cell ∧ names.lookup x = some .free)
  | [], _, _, h => by simp at h
  | (n, k0) :: r, x, k, h => by
    rw [List.map_cons] at h
    dsimp only at h
    cases hx : x == n with
    | true =>
      by_cases hc : (k0 == NameKind.free && env.scope.kind == .function && env.kindOf n == some .cell) = true
      · rw [if_pos hc] at h
        simp only [List.lookup_cons, hx] at h ⊢
        have : k0 = .free := by
          have h1 := (Bool.and_eq_true _ _ ▸ ((Bool.and_eq_true _ _ ▸ hc).1)).1
          simpa using h1
        exact .inr ⟨(Option.some.inj h).symm, by rw [this]⟩
      · rw [if_neg hc] at h
        simp only [List.lookup_cons, hx] at h ⊢
        exact .inl h
    | false =>
      have h' : (r.map fun (n, k) => if (k == NameKind.free && env.scope.kind == .function && env.kindOf n == some .cell) then (n, NameKind.cell) else (n, k)).lookup x = some k := by
        by_cases hc : (k0 == NameKind.free && env.scope.kind == .function && env.kindOf n == some .cell) = true
        · rw [if_pos hc] at h; simpa only [List.lookup_cons, hx] using h
        · rw [if_neg hc] at h; simpa only [List.lookup_cons, hx] using h
      simp only [List.lookup_cons, hx]
      exact relabel_kind h'
theorem relabel_free {env : Env} : ∀ {names : List (Str × NameKind)} {x : Str}, names.lookup x = some .free →
    (names.map fun (n, k) => if (k == NameKind.free && env.scope.kind == .function && env.kindOf n == some .cell) then (n, NameKind.cell) else (n, k)).lookup x = some .cell ∨
    (names.map fun (n, k) => if (k == NameKind.free && env.scope.kind == .function && env.kindOf n == some .cell) then (n, NameKind.cell) else (n, k)).lookup x = some .free
  | [], _, h => by simp at h
  | (n, k0) :: r, x, h => by
    rw [List.map_cons]
    dsimp only
    cases hx : x == n with
    | true =>
      simp only [List.lookup_cons, hx] at h
      have e : k0 = .free := Option.some.inj h
      by_cases hc : (k0 == NameKind.free && env.scope.kind == .function && env.kindOf n == some .cell) = true
      · rw [if_pos hc]; exact .inl (by simp only [List.lookup_cons, hx])
      · rw [if_neg hc]; exact .inr (by simp only [List.lookup_cons, hx]; rw [e])
    | false =>
      simp only [List.lookup_cons, hx] at h
      have ih := relabel_free (env := env) h
      by_cases hc : (k0 == NameKind.free && env.scope.kind == .function && env.kindOf n == some .cell) = true
      · rw [if_pos hc]; simpa only [List.lookup_cons, hx] using ih
      · rw [if_neg hc]; simpa only [List.lookup_cons, hx] using ih

/-- what is asked of a comprehension's names; sc, N: the names around it -/
structure CompOk (sc : Scope) (N Nc : List Str) (ix : List (Option Nat)) (scope : Scope) : Prop where
  kind : scope.kind = .function
  nocell : ∀ y ∈ scope.names, y.2 ≠ .cell
  names : ∀ y ∈ scope.names, y.2 = .local → scope.names.lookup y.1 = some .local
  free : ∀ y ∈ scope.names, y.2 = .free → sc.names.lookup y.1 = some .cell ∨ sc.names.lookup y.1 = some .free
  len : ix.length = Nc.length
  chk : ((ix.zip Nc).all fun p => match p.1 with | none => true | some j => N[j]? == some p.2 && scope.names.lookup p.2 == some .free) = true
theorem CompOk.at_ {sc : Scope} {N Nc : List Str} {ix : List (Option Nat)} {scope : Scope} (o : CompOk sc N Nc ix scope) {i j : Nat} {x : Str} (h1 : ix[i]? = some (some j)) (h2 : Nc[i]? = some x) : N[j]? = some x ∧ scope.names.lookup x = some .free := by
  have hm : (some j, x) ∈ ix.zip Nc := by
    refine List.mem_of_getElem? (i := i) ?_
    rw [List.getElem?_zip_eq_some]
    exact ⟨h1, h2⟩
  have q := List.all_eq_true.mp o.chk _ hm
  have q' := Bool.and_eq_true _ _ ▸ q
  exact ⟨by simpa using q'.1, by simpa using q'.2⟩

/-- the context of a comprehension's block -/
def cxComp (X : Cx) (Nc : List Str) (scope : Scope) (cl : List (Str × Addr)) (C : Addr) (s : Shared) (H : Hp) (fp : List Addr) : Cx where
  prog := X.prog
  w := X.w
  K := X.K
  mg := X.mg
  base := X.base
  A := X.A
  N := Nc
  s₀ := s
  H₀ := H
  env := compEnvC scope cl C X.env
  outer := X.stack
  stack := X.stack
  ex := fp
  fn := fun x => (cl.lookup x).isNone
  calm := X.calm
  pn := X.pn
  xe := fun _ _ => False

/-- the turns of a comprehension, by an invariant: the new list stands at D -/
def CompW (J : It) (D : Addr) (g : TG) (tt : TT) (te : TE) (σ0 : St) (H1 : Hp) (Q : VK) : Prop :=
  ∃ W : Nat → Nat → St → Hp → Prop, (∃ m, W 0 m σ0 (upd H1 D (.lst []))) ∧ ∀ i m σ' H', W i m σ' H' → (J.stop i H' ∧ Q (.ref D) H') ∨
    (J.go i H' ∧ ∃ (N : V → St → Hp → Prop) (N0 : St → Hp → Prop), (∀ v σ2 H5, N v σ2 H5 → ∃ xs, H5 D = some (.lst xs) ∧ xs.length < sizeLine ∧ ∃ m', m' < m ∧ W (i + 1) m' σ2 (upd H5 D (.lst (xs ++ [v])))) ∧
      (∀ σ2 H4, N0 σ2 H4 → ∃ m', m' < m ∧ W (i + 1) m' σ2 H4) ∧ ∀ x H2, J.yld i H' x H2 → g x σ' H2 fun σ2 H3 => tt σ2 H3 fun c H4 => if c = true then te σ2 H4 fun v H5 => N v σ2 H5 else N0 σ2 H4)
def tComp (wi : TI) (ix : List (Option Nat)) (g : TG) (tt : TT) (te : TE) : TE := fun σ H Q => wi σ H fun J H1 => ∀ D, H1 D = none → CompW J D g tt te (sub ix σ) H1 Q

theorem loop_of {prog : Program} {w : World} {A : Around} {R : Result → Shared → Prop} {s : Shared} {elt target iter : Expr} {ifs : List Expr} {scope : Scope} {pos : Pos} {it acc : Value} {env : Env} (J : Nat → Shared → Prop)
    (turn : ∀ n s, J n s → wpAny (model prog w) A (pyNext it) (fun r s1 => match r with
      | none => R (.ok .next) s1
      | some v => wpAny (model prog w) A (letOwnedTupleGo target it v) (fun _ s2 => wpAny (model prog w) A (assign target env v) (fun _ s3 =>
          wpAny (model prog w) A (forIn ifs true fun c r => if r = true then do let ok ← isTrue c env (eval c env); pure (ForInStep.yield ok) else pure (ForInStep.yield r)) (fun ok s4 =>
            if ok = true then wpAny (model prog w) A (eval elt env) (fun x s5 => wpAny (model prog w) A (call (.builtin "list.append") [acc, x]) (fun _ s6 => ∃ m, m < n ∧ J m s6) (fun _ _ => False) s5) (fun _ _ => False) s4
            else ∃ m, m < n ∧ J m s4) (fun _ _ => False) s3) (fun _ _ => False) s2) (fun _ _ => False) s1) (fun _ _ => False) s)
    (n : Nat) (h : J n s) : codeAny (model prog w) A (.compLoop (.ListComp elt [⟨target, iter, ifs, 0⟩] scope pos) 0 it acc env) R s := by
  refine codeAny_loop rfl J (fun k t hJ => ?_) n h
  show wpAny _ A ((compTurn (.ListComp elt [⟨target, iter, ifs, 0⟩] scope pos) 0 it acc env).onRaise _) _ _ t
  refine wpAny_noted ?_
  rw [compTurn_list]
  refine wpAny_bind (wpAny_standAt (wpAny_bind (thnF (turn k t hJ) fun r s1 h1 => ?_)))
  cases r with
  | none => exact wpAny_pure h1
  | some v =>
    refine wpAny_bind (thnF h1 fun _ s2 h2 => wpAny_bind (thnF h2 fun _ s3 h3 => wpAny_bind (thnF h3 fun ok s4 h4 => ?_)))
    cases ok with
    | false => exact wpAny_pure ⟨rfl, h4⟩
    | true => exact wpAny_bind (wpAny_bind (thnF h4 fun x s5 h5 => wpAny_bind (thnF h5 fun _ s6 h6 => wpAny_pure (wpAny_pure ⟨rfl, h6⟩))))

section
variable {X : Cx} {pins : List (Addr × Obj)} {σ : St} {H : Hp} {s : Shared} {Nc : List Str} {ix : List (Option Nat)} {scope : Scope}
theorem all_cells (I : Inv X pins σ H s) (ok : CompOk X.env.scope X.N Nc ix scope) : ∀ y ∈ scope.names, y.2 = .free → (X.env.cells.lookup y.1).isSome = true := fun y hy hf => by
  obtain ⟨c, hc⟩ := I.ok.has y.1 (ok.free y hy hf)
  rw [hc]; rfl
/-- the block begins: s is the state with the new list, C the block's own dict -/
theorem comp_start {fp : List Addr} {h1 : Heap} {t' : Nat} (I : Inv X pins σ H s) (ok : CompOk X.env.scope X.N Nc ix scope) (hf : ∀ b ∈ fp, FpOk X pins H b) (hob : ∀ b ∈ fp, ∃ o, s.heap.get? b = some o)
    {m : Str → Option Value} (hn : h1.Ns s.heap.objs.size m) (hk : ∀ b o, s.heap.get? b = some o → h1.get? b = some o) :
    Inv (cxComp X Nc scope (closOf scope X.env) s.heap.objs.size s H fp) pins (sub ix σ) H { s with heap := h1, toks := t' } := by
  have ac := all_cells I ok
  have old : ∀ {b : Addr} {o : Obj}, s.heap.get? b = some o → b ≠ s.heap.objs.size := fun e => Nat.ne_of_lt (Heap.lt_size e)
  refine ⟨⟨I.ok.mod, ?_, I.ok.glob, I.ok.blt, Nat.le_refl _, ?_, ?_, ?_, I.ok.hd, I.ok.frames, .inl rfl, ?_, I.bs, Nat.le_trans I.ok.bsz I.sz, ?_, ?_, I.stack, I.stkFree⟩, rfl, I.bare, Un.kept hk, ⟨m, hn, ?_⟩, ?_, ?_, ?_, ?_, I.hok.kept hk, ?_⟩
  · exact ok.kind
  · intro x y c e1 e2
    exact I.ok.inj x y c (clos_some ac e1) (clos_some ac e2)
  · intro x hx
    have key : ∀ k, (relabel scope X.env).names.lookup x = some k → (k = .cell ∨ k = .free) → ∃ c, (closOf scope X.env).lookup x = some c := fun k e hkk => by
      rcases relabel_kind e with q | ⟨_, q⟩
      · rcases hkk with rfl | rfl
        · exact absurd rfl (ok.nocell _ (PySem.mem_of_lookup q))
        · exact clos_has (PySem.mem_of_lookup q)
      · exact clos_has (PySem.mem_of_lookup q)
    rcases hx with e | e
    · exact key _ e (.inl rfl)
    · exact key _ e (.inr rfl)
  · intro x c hfn e
    have e' : (closOf scope X.env).lookup x = some c := e
    have hfn' : ((closOf scope X.env).lookup x).isNone = true := hfn
    rw [e'] at hfn'; cases hfn'
  · intro b hb
    obtain ⟨o, e⟩ := hob b hb
    obtain ⟨f0, f1, f2, f3, f4, f5⟩ := hf b hb
    exact ⟨old e, fun x c q => f4 x c (clos_some ac q)⟩
  · intro b o e hb
    obtain ⟨f0, f1, f2, f3, f4, f5⟩ := hf b hb
    rcases f3 with z | z
    · exact I.ok.noex b o e z
    · exact absurd (Nat.lt_of_lt_of_le (Nat.lt_of_lt_of_le (Heap.lt_size e) I.ok.bsz) z) (Nat.lt_irrefl _)
  · intro b hb hz
    obtain ⟨f0, f1, f2, f3, f4, f5⟩ := hf b hb
    rcases List.mem_cons.mp (I.stkSub b hz) with z | z
    · exact f1 z
    · exact f2 z
  · intro i x v e1 e2 e3
    have e1 : Nc[i]? = some x := e1
    unfold sub at e2
    rw [List.getElem?_map] at e2
    cases hi : ix[i]? with
    | none => rw [hi] at e2; cases e2
    | some o =>
      cases o with
      | none => rw [hi] at e2; cases e2
      | some j =>
        obtain ⟨hN, hfree⟩ := ok.at_ hi e1
        have e4 : σ[j]? = some (some v) := by
          rw [hi] at e2
          have e2' : some ((σ[j]?).join) = some (some v) := e2
          have e5 := Option.some.inj e2'
          cases hj : σ[j]? with
          | none => rw [hj] at e5; cases e5
          | some z => rw [hj] at e5; exact congrArg some e5
        have hvis : Vis X.env.scope x := by
          rcases ok.free (x, .free) (PySem.mem_of_lookup hfree) rfl with q | q
          · exact .inr (.inl q)
          · exact .inr (.inr q)
        obtain ⟨m0, hn0, hl⟩ := I.loc
        obtain ⟨u, r, lk⟩ := hl j x v hN e4 hvis
        refine ⟨u, r, .inr ⟨relabel_free hfree, ?_⟩⟩
        rcases lk with ⟨q, _⟩ | ⟨_, c, hc, z⟩
        · rcases ok.free (x, .free) (PySem.mem_of_lookup hfree) rfl with q2 | q2
          · exact absurd (q.symm.trans q2) (by decide)
          · exact absurd (q.symm.trans q2) (by decide)
        · obtain ⟨d, hd⟩ := clos_has (env := X.env) (PySem.mem_of_lookup hfree)
          have := clos_some ac hd
          rw [hc] at this; cases this
          obtain ⟨oc, e5, e6⟩ := z
          exact ⟨c, hd, oc, hk c oc e5, e6⟩
  · intro x c e
    obtain ⟨v, oc, e5, e6⟩ := I.cell x c (clos_some ac e)
    exact ⟨v, oc, hk c oc e5, e6⟩
  · exact I.hok.fresh (Nat.le_refl _)
  · intro x c e
    exact I.freeC x c (clos_some ac e)
  · intro p hp
    obtain ⟨e, n, ne, nf, d⟩ := I.pin p hp
    refine ⟨hk _ _ e, n, old e, fun z => ?_, d⟩
    rcases List.mem_cons.mp (I.stkSub p.1 z) with q | q
    · exact ne q
    · exact nf q
  · unfold sub
    rw [List.length_map]
    exact ok.len
/-- the block has ended -/
theorem comp_end {fp : List Addr} {cl : List (Str × Addr)} {C : Addr} {σ' : St} {H' : Hp} {s' : Shared} {h' : Heap} (I : Inv X pins σ H s) (hf : ∀ b ∈ fp, FpOk X pins H b) (hC : s.heap.get? C = none)
    (J : Inv (cxComp X Nc scope cl C s H fp) pins σ' H' s') (sb : Heap.SameBut C s'.heap h') : Inv X pins σ H' { s' with heap := h' } := by
  have u : Un (frs X.stack) fp H H' s.heap s'.heap := J.base
  have hCf : H' C = none := J.free
  have hCn : ∀ {b : Addr} {o : Obj}, s.heap.get? b = some o → b ≠ C := fun e z => by rw [z, hC] at e; cases e
  refine I.call' (s' := { s' with heap := h' }) (ch := fp) J.os ⟨fun b o e n h1 h2 => ?_, fun b o e n h1 h2 => ?_, u.free, fun b o e h2 => ?_, u.tups, u.frzs, u.tbls⟩ ?_ J.bare fun b hb => ?_
  · exact (sb.2 b (hCn e)).trans (u.keep b o e n h1 h2)
  · obtain ⟨sl, q⟩ := u.slot b o e n h1 h2
    exact ⟨sl, (sb.2 b (hCn e)).trans q⟩
  · obtain ⟨o', q⟩ := u.there b o e h2
    exact ⟨o', (sb.2 b (hCn e)).trans q⟩
  · intro b o e
    refine (J.hok b o e).stay (fun c v hc q => (sb.2 c ?_).trans q) (fun _ q => q) fun _ _ q => q
    rintro rfl
    rcases hc with z | z
    · rw [← z, hCf] at e; cases e
    · rw [hCf] at z; cases z
  · obtain ⟨f0, f1, f2, f3, f4, f5⟩ := hf b hb
    exact ⟨f3, f1, f4, f5⟩

theorem comp_run {elt tg iter : Expr} {ifs : List Expr} {pos pos2 : Pos} {wi : TI} {g : TG} {tt : TT} {te : TE} {use : Option (Value → Sem Unit)} {QV : Value → Shared → Prop} {Q : VK} (I : L2.Inv X pins σ H s) (h : tComp wi ix g tt te σ H Q)
    (fin : ∀ (D C : Addr) (H' : Hp) (s' : Shared) (m : Str → Option Value), L2.Inv X pins σ H' s' → FpOk X pins H' C → s'.heap.Ns C m → Q (.ref D) H' → compPost (model X.prog X.w) X.A X.xe use QV (.ref D) C (.ok .next) s')
    (ok : CompOk X.env.scope X.N Nc ix scope) (hc : X.calm = true) (hi : PI X tg iter wi)
    (hg : ∀ cl C s H fp, PG (cxComp X Nc scope cl C s H fp) tg g) (ht : ∀ cl C s H fp, PTs (cxComp X Nc scope cl C s H fp) ifs tt) (he : ∀ cl C s H fp, PE (cxComp X Nc scope cl C s H fp) elt te)
    (hs : ∀ x, foldedSetIterable iter X.env x = pure x := by intro _; rfl) : wpAny (model X.prog X.w) X.A (comprehension (.ListComp elt [⟨tg, iter, ifs, 0⟩] scope pos) scope X.env pos2 (newList []) false (eval iter X.env) use) QV X.xe s := by
  refine wpAny_comprehension_free (use := use) (cl := closOf scope X.env) rfl hs (clos_eq (all_cells I ok)) ok.kind ok.names (thn (hi pins s σ H _ I h) fun v s1 q1 => thn q1 fun itv s2 q2 => ?_)
  obtain ⟨it, fp, tn, J, H1, e, I2, T, st2, f2, q⟩ := q2
  subst e
  have hD : H1 s2.heap.objs.size = none := I2.hok.fresh (Nat.le_refl _)
  obtain ⟨W, ⟨m0, w0⟩, turn⟩ := q _ hD
  refine wpAny_newObj_type ?_
  have I3 : Inv X pins σ (upd H1 s2.heap.objs.size (.lst [])) { s2 with heap := s2.heap.push { cls := .type "list", data := .seq ([] : List Value).toArray } } :=
    I2.laid (t' := s2.toks) (fun b u e => Heap.get?_push_of_some _ e) (Nat.le_refl _) ⟨Nat.zero_le _, [], 0, .nil, Heap.get?_push_size _ rfl⟩
  have hob2 := T.obj 0 _ st2
  have f3 : ∀ b ∈ fp, FpOk X pins (upd H1 s2.heap.objs.size (.lst [])) b := fun b hb => by
    obtain ⟨o, e, _⟩ := hob2 b hb
    obtain ⟨f0, fr⟩ := f2 b hb
    exact ⟨by rw [upd_ne (Nat.ne_of_lt (Heap.lt_size e))]; exact f0, fr⟩
  have st3 : tn 0 (s2.heap.push { cls := .type "list", data := .seq ([] : List Value).toArray }) := T.keep 0 _ _ st2 fun b _ o e => Heap.get?_push_of_some _ e
  generalize hs3 : ({ s2 with heap := s2.heap.push { cls := .type "list", data := .seq ([] : List Value).toArray } } : Shared) = s3 at I3 ⊢
  have st3' : tn 0 s3.heap := by rw [← hs3]; exact st3
  refine wpAny_newFunctionEnv ok.nocell (by intro y hy; simp at hy) (fun h1 hns hsb => ?_) ok.kind
  have k1 : ∀ b o, s3.heap.get? b = some o → h1.get? b = some o := fun b o e => (hsb.2 b (Nat.ne_of_lt (Heap.lt_size e))).trans (Heap.get?_push_of_some _ e)
  have hob3 : ∀ b ∈ fp, ∃ o, s3.heap.get? b = some o := fun b hb => let ⟨o, e, _⟩ := T.obj 0 _ st3' b hb; ⟨o, e⟩
  have I4 : Inv (cxComp X Nc scope (closOf scope X.env) s3.heap.objs.size s3 (upd H1 s2.heap.objs.size (.lst [])) fp) pins (sub ix σ) (upd H1 s2.heap.objs.size (.lst [])) { s3 with heap := h1, toks := s3.toks + ([] : List (Str × Value)).length } :=
    comp_start I3 ok f3 hob3 hns k1
  have st4 : tn 0 h1 := T.keep 0 _ _ st3' fun b _ o e => k1 b o e
  have hC : s3.heap.get? s3.heap.objs.size = none := Heap.get?_none_of_le (Nat.le_refl _)
  generalize hX : cxComp X Nc scope (closOf scope X.env) s3.heap.objs.size s3 (upd H1 s2.heap.objs.size (.lst [])) fp = Y at I4
  have stat : ∀ {H' : Hp}, (∀ b ∈ fp, H' b = none) → ∀ b ∈ fp, FpOk Y pins H' b := fun {H'} hn b hb => by
    obtain ⟨o, e⟩ := hob3 b hb
    obtain ⟨f0, f1, ff, f3', f4, f5⟩ := f3 b hb
    have nst : b ∉ frs X.stack := fun z => by
      rcases List.mem_cons.mp (I3.stkSub b z) with z | z
      · exact f1 z
      · exact ff z
    subst hX
    exact ⟨hn b hb, Nat.ne_of_lt (Heap.lt_size e), nst, .inl hb, fun x c q => f4 x c (clos_some (all_cells I3 ok) q), f5⟩
  have fin' : ∀ {σ' : St} {H' : Hp} {s' : Shared}, L2.Inv Y pins σ' H' s' → Q (.ref s2.heap.objs.size) H' → compPost (model X.prog X.w) X.A X.xe use QV (.ref s2.heap.objs.size) s3.heap.objs.size (.ok .next) s' := fun {σ' H' s'} J' qq => by
    subst hX
    obtain ⟨m', hn', _⟩ := id J'.loc
    have hCn : H' s3.heap.objs.size = none := J'.free
    exact fin _ _ H' s' m' (comp_end (h' := s'.heap) I3 f3 hC J' (.refl ..)) (I3.fpOk (Nat.le_refl _) hCn) hn' qq
  have loop : codeAny (model X.prog X.w) X.A (.compLoop (.ListComp elt [⟨tg, iter, ifs, 0⟩] scope pos) 0 (.ref it) (.ref s2.heap.objs.size) Y.env)
      (compPost (model X.prog X.w) X.A X.xe use QV (.ref s2.heap.objs.size) s3.heap.objs.size) { s3 with heap := h1, toks := s3.toks + ([] : List (Str × Value)).length } := by
    have eP : Y.prog = X.prog := by subst hX; rfl
    have eW : Y.w = X.w := by subst hX; rfl
    have eK : Y.K = X.K := by subst hX; rfl
    have eA : Y.A = X.A := by subst hX; rfl
    have eE : Y.xe = fun _ _ => False := by subst hX; rfl
    have eC : Y.calm = true := by subst hX; exact hc
    have hgY : PG Y tg g := by subst hX; exact hg _ _ _ _ _
    have htY : PTs Y ifs tt := by subst hX; exact ht _ _ _ _ _
    have heY : PE Y elt te := by subst hX; exact he _ _ _ _ _
    unfold PG at hgY
    unfold PTs at htY
    unfold PE at heY
    rw [eP, eW, eA, eE] at hgY htY heY
    refine loop_of (fun n s' => ∃ i σ' H', Inv Y pins σ' H' s' ∧ tn i s'.heap ∧ (∀ b ∈ fp, H' b = none) ∧ W i n σ' H') ?_ m0 ⟨0, sub ix σ, _, I4, st4, fun b hb => (f3 b hb).1, w0⟩
    rintro n s5 ⟨i, σ5, H5, I5, st5, fr5, w5⟩
    have TI := T.item Y eP eW eK eC i pins s5 σ5 H5 (fun _ _ => False) I5 (stat fr5) st5
    have TD := T.done Y eP eW eK eC i pins s5 σ5 H5 (fun _ _ => False) I5 (stat fr5) st5
    rw [eA] at TI TD
    rcases turn i n σ5 H5 w5 with ⟨stop, qn⟩ | ⟨go, N, N0, hN, hN0, step⟩
    · refine thn (TD stop) fun r s6 ⟨hr, I6⟩ => ?_
      subst hr
      exact fin' I6 qn
    · refine thn (TI go) fun r s6 ⟨u, hr, h6⟩ => ?_
      subst hr
      refine thn h6 fun _ s7 ⟨x, H7, I7, r7, y7, st7, fr7⟩ => ?_
      have I7' := I7.pinned (stat fr7) (T.obj _ _ st7)
      refine thn (hgY _ s7 σ5 H7 x u _ I7' r7 (step x H7 y7)) fun _ s8 ⟨σ8, H8, I8, q8⟩ => ?_
      refine thn (htY _ s8 σ8 H8 _ I8 q8) fun c s9 ⟨H9, I9, q9⟩ => ?_
      have back : ∀ {σa : St} {Ha : Hp} {sa : Shared}, Inv Y (pins ++ pinsAt fp s7.heap) σa Ha sa → (∃ m', m' < n ∧ W (i + 1) m' σa Ha) → ∃ m, m < n ∧ ∃ i σ' H', Inv Y pins σ' H' sa ∧ tn i sa.heap ∧ (∀ b ∈ fp, H' b = none) ∧ W i m σ' H' := fun {σa Ha sa} Ia ⟨m', hm, wa⟩ => by
        refine ⟨m', hm, i + 1, σa, Ha, Ia.unpinned, T.keep _ _ _ st7 fun b hb o e => (Ia.pin (b, o) (List.mem_append_right _ (List.mem_append_right _ (mem_pinsAt hb e)))).1, fun b hb => ?_, wa⟩
        obtain ⟨o, e, d⟩ := T.obj _ _ st7 b hb
        exact (Ia.pin (b, o) (List.mem_append_right _ (List.mem_append_right _ (mem_pinsAt hb e)))).2.1
      cases c with
      | false => exact back I9 (hN0 _ _ (by simpa using q9))
      | true =>
        rw [if_pos rfl] at q9 ⊢
        refine thn (heY _ s9 σ8 H9 _ I9 q9) fun z s10 ⟨v10, H10, I10, r10, q10⟩ => ?_
        obtain ⟨xs, hx, hz, q10⟩ := hN _ _ _ q10
        have ap := mt_append (X := Y) (pins ++ pinsAt fp s7.heap) s10 σ8 H10 (.ref s2.heap.objs.size) [v10] (.ref s2.heap.objs.size) [z] (fun _ Hb => ∃ m', m' < n ∧ W (i + 1) m' σ8 Hb) I10 rfl (.cons r10 .nil) ⟨_, xs, v10, rfl, rfl, hx, hz, q10⟩
        rw [eP, eW, eA, eE] at ap
        exact thn ap fun _ s11 ⟨_, H11, I11, _, q11⟩ => back I11 q11
  have eenv : Y.env = compEnvC scope (closOf scope X.env) s3.heap.objs.size X.env := by subst hX; rfl
  rw [eenv] at loop
  exact codeAny_compStart_list loop (T.self X.A 0 _ _ _ st4 loop)
theorem pe_comp {elt tg iter : Expr} {ifs : List Expr} {pos : Pos} {wi : TI} {g : TG} {tt : TT} {te : TE} (ok : CompOk X.env.scope X.N Nc ix scope) (hc : X.calm = true) (hi : PI X tg iter wi)
    (hg : ∀ cl C s H fp, PG (cxComp X Nc scope cl C s H fp) tg g) (ht : ∀ cl C s H fp, PTs (cxComp X Nc scope cl C s H fp) ifs tt) (he : ∀ cl C s H fp, PE (cxComp X Nc scope cl C s H fp) elt te)
    (hs : ∀ x, foldedSetIterable iter X.env x = pure x := by intro _; rfl) : PE X (.ListComp elt [⟨tg, iter, ifs, 0⟩] scope pos) (tComp wi ix g tt te) := by
  intro pins s σ H Q I h
  rw [eval_ListComp]
  refine comp_run (use := none) I h (fun D C H' s' m I' f hn qq => ?_) ok hc hi hg ht he hs
  obtain ⟨f0, f1, f2, f3, f4, f5⟩ := f
  exact ⟨m, hn, fun h' sb => ⟨.ref D, H', I'.turned (t' := s'.toks) (fun b o hb e => (sb.2 b hb).trans e) f0 f1 f3 f4 f5, rfl, qq⟩⟩
/-- name = [..]: the name is stored ahead of the block's end -/
theorem ps_setComp {i : Nat} {x : Str} {elt tg iter : Expr} {ifs : List Expr} {pos spos pos' : Pos} {wi : TI} {g : TG} {tt : TT} {te : TE} (hN : X.N.Nodup) (hi : X.N[i]? = some x) (hx : X.env.kindOf x = some .local)
    (ok : CompOk X.env.scope X.N Nc ix scope) (hc : X.calm = true) (hit : PI X tg iter wi)
    (hg : ∀ cl C s H fp, PG (cxComp X Nc scope cl C s H fp) tg g) (ht : ∀ cl C s H fp, PTs (cxComp X Nc scope cl C s H fp) ifs tt) (he : ∀ cl C s H fp, PE (cxComp X Nc scope cl C s H fp) elt te)
    (hsw : swapsWith (.ListComp elt [⟨tg, iter, ifs, 0⟩] scope pos) (some (.Name x pos')) spos.line X.env = pure true := by rfl)
    (hs : ∀ x, foldedSetIterable iter X.env x = pure x := by intro _; rfl) : PS X (.Assign [.Name x pos'] (.ListComp elt [⟨tg, iter, ifs, 0⟩] scope pos) spos) (tAsg (tComp wi ix g tt te) (gName i)) := by
  intro pins s σ H D I h
  rw [exec_Assign_Name_used _ _ _ _ hsw]
  refine wpAny_bind (wpAny_standAt (wpAny_bind ?_))
  show wpAny _ X.A (do let _ ← comprehension (.ListComp elt [⟨tg, iter, ifs, 0⟩] scope pos) scope X.env _ (newList []) false (eval iter X.env) (some (assign (.Name x pos') X.env))) _ _ s
  refine wpAny_bind (thn (comp_run (use := some (assign (.Name x pos') X.env)) (QV := fun _ s' => SP X pins D .next s') I h (fun L C H' s' m I' f hn qq => ?_) ok hc hit hg ht he hs) fun _ s' q => wpAny_pure (wpAny_pure q))
  obtain ⟨f0, f1, f2, f3, f4, f5⟩ := f
  refine wpAny_assign_Name (store_ok2 (v := .ref L) I' hN hi (.inl hx) rfl (fun s2 I2 ⟨a, sb, ha⟩ => ?_) (.inr hx))
  have hCa : C ≠ a := by
    rintro rfl
    rcases ha with z | z
    · exact f1 z
    · exact f4 _ _ z rfl
  exact ⟨m, hn.sameBut sb hCa, fun h' sb' => ⟨_, H', I2.turned (t' := s2.toks) (fun b o hb e => (sb'.2 b hb).trans e) f0 f1 f3 f4 f5, qq⟩⟩
end
end L3

set_option Elab.async false
set_option linter.all false
set_option maxRecDepth 100000
set_option maxHeartbeats 4000000
namespace L3
open PySem PySem.Spec PyProof.Rows L2

def memK (k : Key) (l : List Key) : Bool := l.any fun x => decide (x = k)
theorem memK_iff {k : Key} {l : List Key} : memK k l = true ↔ k ∈ l := by
  unfold memK
  rw [List.any_eq_true]
  constructor
  · rintro ⟨x, hx, e⟩
    have := of_decide_eq_true e
    subst this; exact hx
  · intro h; exact ⟨k, h, by simp⟩
theorem memK_snoc (k' k : Key) (l : List Key) : (memK k' l || decide (k' = k)) = memK k' (l ++ [k]) := by
  unfold memK
  rw [List.any_append]
  by_cases e : k' = k
  · subst e; simp
  · have e' : ¬ k = k' := fun z => e z.symm
    simp [e, e']
theorem memK_not {k : Key} {l : List Key} (h : ¬ k ∈ l) : memK k l = false := by
  cases e : memK k l with
  | false => rfl
  | true => exact absurd (memK_iff.mp e) h
theorem keyIs_scan {k : Key} {v : Value} (h : keyIs k v = true) : v.scannable = true := by
  rcases keyIs_shape h with ⟨i, t, rfl, rfl⟩ | ⟨x, t, rfl, rfl⟩ <;> rfl
theorem setOf_eq {prog : Program} {w : World} {h : Heap} {a : Addr} {S S' : Key → Bool} {n n' : Nat} (x : h.SetOf (mixKind prog w) a S n) (e : ∀ k, S k = S' k) (en : n = n') : h.SetOf (mixKind prog w) a S' n' := by
  have : S = S' := funext e
  subst this; subst en; exact x
theorem setOf_keep {prog : Program} {w : World} {h h' : Heap} {a : Addr} {S : Key → Bool} {n : Nat} (x : h.SetOf (mixKind prog w) a S n) (k : ∀ o, h.get? a = some o → h'.get? a = some o) : h'.SetOf (mixKind prog w) a S n := by
  obtain ⟨o, es, ep, t, ho, r⟩ := x
  exact ⟨o, es, ep, t, k o ho, r⟩

section
variable {prog : Program} {w : World} {A : Around} {E : Value → Shared → Prop} {R : Result → Shared → Prop}

theorem set_loop {I ax S : Addr} {items : Array Value} {ks : List Key} (hh : A.handled = none) (hne : ax ≠ I) (hSI : S ≠ I) (hSa : S ≠ ax)
    (hv : ∀ (i : Nat) v, items[i]? = some v → ∃ k, ks[i]? = some k ∧ keyIs k v = true) (hl : ks.length = items.size) (hb : items.size + 1 < scanBound) :
    ∀ (c i : Nat) (s : Shared) (n : Nat), items.size - i = c → i ≤ items.size → s.heap.IsListIter I ax i ∧ s.heap.IsList ax items →
      s.heap.SetOf (mixKind prog w) S (fun k => memK k (ks.take i)) n → n ≤ i → (n = i ↔ (ks.take i).Nodup) →
      (∀ (h' : Heap) (tk n' : Nat), h'.SetOf (mixKind prog w) S (fun k => memK k ks) n' → n' ≤ ks.length → (n' = ks.length ↔ ks.Nodup) → (∀ b o, b ≠ S → b ≠ I → s.heap.get? b = some o → h'.get? b = some o) →
        R (.ok (.ret .none)) { s with heap := h', toks := tk }) →
      codeAny (model prog w) A (.builtin "set.update.loop" ⟨[.ref S, .ref I], []⟩) R s := by
  have W := Walks.list (prog := prog) (w := w) (A := A.in1) (by simpa using hh) I ax hne items
  intro c
  induction c with
  | zero =>
    intro i s n hc hi st hS hn hnd hR
    have e : i = items.size := by omega
    subst e
    refine codeAny_builtin PyProof.Rows.F.entry_set_update_loop ?_
    rw [Around.under_plainId PyProof.Rows.F.plain_set_update_loop _]
    show wpAny _ A.in1 (pyNext (.ref I) >>= _) _ _ s
    refine wpAny_bind (W.done s _ _ st fun h' tk hk => ?_)
    show wpAny _ A.in1 (ret Value.none) _ _ _
    have et : ks.take items.size = ks := by rw [← hl]; exact List.take_length
    rw [et] at hnd
    refine wpAny_pure (hR h' tk n (setOf_eq (setOf_keep hS fun o z => hk S o (by simpa using hSI) z) (fun k => by rw [et]) rfl) (by omega) (by rw [hl]; exact hnd) fun b o _ hbI z => hk b o (by simpa using hbI) z)
  | succ c ih =>
    intro i s n hc hi st hS hn hnd hR
    have hlt : i < items.size := by omega
    refine codeAny_builtin PyProof.Rows.F.entry_set_update_loop ?_
    rw [Around.under_plainId PyProof.Rows.F.plain_set_update_loop _]
    show wpAny _ A.in1 (pyNext (.ref I) >>= _) _ _ s
    refine wpAny_bind (W.item i s _ _ hlt st fun v h1 tk hP st1 hk => ?_)
    obtain ⟨k, hki, kis⟩ := hv i v hP
    have hS1 : h1.SetOf (mixKind prog w) S (fun k => memK k (ks.take i)) n := setOf_keep hS fun o z => hk S o (by simpa using hSI) z
    show wpAny _ A.in1 (holding [v] (setAdd S v) >>= _) _ _ { s with heap := h1, toks := tk }
    refine wpAny_bind (wpAny_holding ?_)
    unfold setAdd
    refine wpAny_holding (wpAny_bind ((mixKind prog w).pyHash (k := k) kis ?_))
    refine wpAny_setAddHashed_of (knd := mixKind prog w) (s := { s with heap := h1, toks := tk + 1 }) kis (keyIs_scan kis) hS1 (by omega) fun h2 hsb hS2 => ?_
    have hik : i < ks.length := by omega
    have ek : ks[i] = k := by
      have := List.getElem?_eq_getElem hik
      rw [hki] at this
      exact (Option.some.inj this).symm
    have et : ks.take (i + 1) = ks.take i ++ [k] := by rw [List.take_add_one, hki]; rfl
    have e1 : ∀ k', (memK k' (ks.take i) || decide (k' = k)) = memK k' (ks.take (i + 1)) := fun k' => by rw [et]; exact memK_snoc _ _ _
    by_cases hin : k ∈ ks.take i
    · have hS3 := setOf_eq (n' := n) hS2 e1 (by rw [if_pos (memK_iff.mpr hin)])
      refine wpAny_pure ⟨plainId_quiet PyProof.Rows.F.plain_set_update_loop _, ih (i + 1) _ n (by omega) hlt (W.frame _ _ _ st1 fun b hb o z => ?_) hS3 (by omega) ?_ fun h' tk' n' a1 a2 a3 a4 => ?_⟩
      · rw [hsb.2 b (fun q => by subst q; simp at hb; exact hb.elim hSI hSa)]; exact z
      · constructor
        · intro q; omega
        · intro q
          rw [et] at q
          exact absurd hin (fun z => (List.nodup_append.mp q).2.2 _ z _ (by simp) rfl)
      · exact hR h' tk' n' a1 a2 a3 fun b o hbS hbI z => a4 b o hbS hbI (by rw [hsb.2 b hbS]; exact hk b o (by simpa using hbI) z)
    · have hS3 := setOf_eq (n' := n + 1) hS2 e1 (by rw [memK_not hin]; rfl)
      refine wpAny_pure ⟨plainId_quiet PyProof.Rows.F.plain_set_update_loop _, ih (i + 1) _ (n + 1) (by omega) hlt (W.frame _ _ _ st1 fun b hb o z => ?_) hS3 (by omega) ?_ fun h' tk' n' a1 a2 a3 a4 => ?_⟩
      · rw [hsb.2 b (fun q => by subst q; simp at hb; exact hb.elim hSI hSa)]; exact z
      · rw [et]
        constructor
        · intro q
          exact List.nodup_append.mpr ⟨hnd.mp (by omega), by simp, fun a ha b hb q2 => by rw [List.mem_singleton.mp hb] at q2; subst q2; exact hin ha⟩
        · intro q
          have := hnd.mpr (List.nodup_append.mp q).1
          omega
      · exact hR h' tk' n' a1 a2 a3 fun b o hbS hbI z => a4 b o hbS hbI (by rw [hsb.2 b hbS]; exact hk b o (by simpa using hbI) z)

set_option maxHeartbeats 8000000 in
theorem call_set_keys {s : Shared} {l : Addr} {items : Array Value} {ks : List Key} {Q : Value → Shared → Prop} (hh : A.handled = none) (hl : s.heap.IsList l items)
    (hv : ∀ (i : Nat) v, items[i]? = some v → ∃ k, ks[i]? = some k ∧ keyIs k v = true) (hz : ks.length = items.size) (hb : items.size + 1 < scanBound)
    (h : ∀ (h' : Heap) (tk n : Nat), h'.SetOf (mixKind prog w) s.heap.objs.size (fun k => memK k ks) n → n ≤ ks.length → (n = ks.length ↔ ks.Nodup) → (∀ b o, s.heap.get? b = some o → h'.get? b = some o) → Q (.ref s.heap.objs.size) { s with heap := h', toks := tk }) :
    wpAny (model prog w) A (call (.type "set") [.ref l]) Q E s := by
  have hmade := PySem.F.called_set.made
  have hsub := PySem.F.called_set.sub
  obtain ⟨c, tl, hmro⟩ := PySem.F.called_set.mro
  refine wpAny_call (codeAny_of_tree (wpAny_pure ⟨Code.quiet_builtin _ (by decide +kernel), codeAny_builtin PySem.F.entry_type_call ?_⟩))
  rw [Around.under_plain (weight_type_call_type "set" [.ref l] []) rfl]
  have g1 := PySem.F.called_set.notType
  have g2 := PySem.F.called_set.canCreate
  have g3 := PySem.F.typeCall_set_1 (.ref l)
  repeat (any_goals (first | assumption | wp_step))
  refine codeAny_mono (code_set_new_1 (.ref l) (E := E) (Q₁ := fun obj t => ∃ led : Bool, obj = .ref s.heap.objs.size ∧ t = { s with heap := s.heap.push { cls := .type "set", dict := none, data := .set #[] 0 (.fresh 0 0 led) } }) fun led => ⟨led, rfl, rfl⟩) fun r t hr => ?_
  cases r with
  | error e => exact hr
  | ok fl =>
    cases fl with
    | ret obj =>
      obtain ⟨led, rfl, rfl⟩ := hr
      have hS : (s.heap.push { cls := .type "set", dict := none, data := .set #[] 0 (.fresh 0 0 led) }).get? s.heap.objs.size = some { cls := .type "set", dict := none, data := .set #[] 0 (.fresh 0 0 led) } := Heap.get?_push_size _ rfl
      have hT : Shared.TypeIs { s with heap := s.heap.push { cls := .type "set", dict := none, data := .set #[] 0 (.fresh 0 0 led) } } (.ref s.heap.objs.size) "set" := ⟨_, hS, rfl⟩
      have hli := PySem.F.called_set.init.lookup
      have hbi := PySem.F.called_set.init.bind (.ref s.heap.objs.size)
      repeat (any_goals (first | assumption | wp_step))
      refine codeAny_mono (codeAny_call_builtin (R := wants (fun r u => r = .none ∧ ∃ h' tk n, u = { s with heap := h', toks := tk } ∧ h'.SetOf (mixKind prog w) s.heap.objs.size (fun k => memK k ks) n ∧ n ≤ ks.length ∧ (n = ks.length ↔ ks.Nodup) ∧
          (∀ b o, s.heap.get? b = some o → h'.get? b = some o)) E) PySem.F.called_set.init.plain PySem.F.entry_set_init (check_set_init_1 hT ?_)) fun r2 u hr2 => ?_
      · obtain ⟨ol, hol, hcl, nl, hdl⟩ := hl
        obtain ⟨ocls, odict, odata, oslots⟩ := ol
        simp only at hcl hdl
        subst hcl; subst hdl
        have hol' : (s.heap.push { cls := .type "set", dict := none, data := .set #[] 0 (.fresh 0 0 led) }).get? l = some { cls := .type "list", dict := odict, data := .seq items nl, slots := oslots } := Heap.get?_push_of_some _ hol
        have hsls := PySem.F.sub_list_set
        have hslf := PySem.F.sub_list_frozenset
        have hne : (Value.type "list" == Value.type "dict") = false := by decide
        have hl1 : (s.heap.push { cls := .type "set", dict := none, data := .set #[] 0 (.fresh 0 0 led) }).IsList l items := ⟨_, hol', rfl, nl, rfl⟩
        unfold Builtin.«set.__init__» noKeywords Builtin.Frozenset.updateFrom
        generalize hPI : pyIter = PI
        wp_walk
        subst hPI
        refine wpAny_pyIter_list hl1 ?_
        refine wpAny_bind (wpAny_runValue ?_)
        have hlS : l < s.heap.objs.size := Heap.lt_size hol
        have z1 : (s.heap.push { cls := .type "set", dict := none, data := .set #[] 0 (.fresh 0 0 led) }).objs.size = s.heap.objs.size + 1 := Heap.size_push _ _
        refine set_loop (ks := ks) (items := items) (ax := l) (by simpa using hh) (by rw [z1]; exact Nat.ne_of_lt (Nat.lt_succ_of_lt hlS)) (by rw [z1]; exact Nat.ne_of_lt (Nat.lt_succ_self _)) (Nat.ne_of_gt hlS) hv hz hb (items.size - 0) 0 _ 0 (by omega) (Nat.zero_le _)
          ⟨⟨_, Heap.get?_push_size _ rfl, rfl, rfl⟩, (hl1.push _)⟩ ?hS0 (Nat.le_refl _) (by simp) ?hR
        case hS0 =>
          refine setOf_eq (setOf_keep (h := s.heap.push { cls := .type "set", dict := none, data := .set #[] 0 (.fresh 0 0 led) }) ?_ fun o z => Heap.get?_push_of_some _ z) (S := fun _ => false) (fun k => rfl) rfl
          exact ⟨_, #[], 0, _, hS, ⟨rfl, rfl, rfl⟩, rfl, (fun e he => by simp at he), (fun k => by simp [memK]), (by unfold scanBound; decide), rfl, rfl⟩
        case hR =>
          intro h' tk n a1 a2 a3 a4
          show wpAny _ _ _ _ _ _
          refine wpAny_pure ?_
          show wpAny _ _ (ret Value.none) _ _ _
          refine wpAny_pure ⟨rfl, h', tk, n, rfl, a1, a2, a3, fun b o z => ?_⟩
          have hlt := Heap.lt_size z
          exact a4 b o (Nat.ne_of_lt hlt) (by rw [z1]; exact Nat.ne_of_lt (Nat.lt_succ_of_lt hlt)) (Heap.get?_push_of_some _ (Heap.get?_push_of_some _ z))
      · cases r2 with
        | error e => exact hr2
        | ok fl2 =>
          cases fl2 with
          | ret r =>
            obtain ⟨rfl, h', tk, n, rfl, a1, a2, a3, a4⟩ := hr2
            repeat (any_goals (first | assumption | wp_step))
            exact h _ _ n a1 a2 a3 a4
          | _ => exact hr2.elim
    | _ => exact hr.elim
end

/-- a set of so many things stands at a -/
def SetN (a : Addr) (n : Nat) : HO := .ext fun h => ∃ o es ep t, h.get? a = some o ∧ o.ExactSet ∧ o.data = .set es ep t ∧ t.fits es.size = true ∧ es.size = n

section
variable {X : Cx}
theorem vals_keys : ∀ {ks : List Key} {us : List Value}, Vals (ks.map kV) us → ∀ (i : Nat) v, us[i]? = some v → ∃ k, ks[i]? = some k ∧ keyIs k v = true
  | [], _, .nil, i, v, h => by simp at h
  | k :: r, _, .cons a b, 0, v, h => by
    simp at h; subst h
    refine ⟨k, rfl, ?_⟩
    cases k with
    | inl n => obtain ⟨t, rfl⟩ := a; exact keyIs_int n t
    | inr x => obtain ⟨t, rfl⟩ := a; exact keyIs_str x t
  | k :: r, _, .cons a b, i + 1, v, h => by
    obtain ⟨k', e, q⟩ := vals_keys b i v (by simpa using h)
    exact ⟨k', by simpa using e, q⟩
/-- set(xs), the items ints and texts -/
theorem call_set (hc : X.calm = true) : CallR X (.type "set") (fun xs H Q => ∃ (p : Addr) (ks : List Key), xs = [.ref p] ∧ SqL X.K H p (ks.map kV) ∧ ks.length < 4000 ∧ ∀ n a, n ≤ ks.length → (n = ks.length ↔ ks.Nodup) → H a = none → Q (.ref a) (upd H a (SetN a n))) := by
  intro pins s σ H xs us Q I r h
  obtain ⟨p, ks, rfl, hq, hl, q⟩ := h
  obtain ⟨u, rfl, ru⟩ := vals1 r
  obtain rfl : u = Value.ref p := ru
  obtain ⟨its, rv, pl, hz⟩ := I.list hq
  have el := rv.length
  rw [List.length_map] at el
  refine call_set_keys (I.ok.hd hc) pl.isList (fun i v e => vals_keys rv i v (by simpa using e)) (by simpa using el) (by unfold scanBound; simp; omega) fun h' tk n a1 a2 a3 a4 => ?_
  refine ⟨.ref s.heap.objs.size, _, I.laid a4 (Nat.le_refl _) ?_, rfl, q n _ a2 a3 (I.hok.fresh (Nat.le_refl _))⟩
  obtain ⟨o, es, ep, t, ho, e1, e2, e3, e4, e5, e6, e7⟩ := a1
  refine ⟨⟨o, es, ep, t, ho, e1, e2, e6, e7⟩, ⟨o, ho⟩, ?_⟩
  rintro h1 h2 ⟨o1, es1, ep1, t1, b1, b2⟩ k
  exact ⟨o1, es1, ep1, t1, k _ b1, b2⟩
/-- len of such a set -/
theorem call_lenS : CallR X (.builtin "len") (fun xs H Q => ∃ a n, xs = [.ref a] ∧ H a = some (SetN a n) ∧ n < 4000 ∧ Q (.int n) H) := by
  intro pins s σ H xs us Q I r h
  obtain ⟨a, n, rfl, ha, hn, q⟩ := h
  obtain ⟨u, rfl, ru⟩ := vals1 r
  obtain rfl : u = Value.ref a := ru
  obtain ⟨⟨o, es, ep, t, e1, e2, e3, e4, e5⟩, _⟩ := I.hok a _ ha
  refine call_len_set e1 e2 e3 e4 (by omega) ?_
  exact ⟨.int n, H, I.tok _, ⟨_, by rw [e5]⟩, q⟩
end
end L3

set_option Elab.async false
set_option linter.all false
set_option maxRecDepth 100000
set_option maxHeartbeats 4000000
namespace L3
open PySem PySem.Spec PyProof.Rows L2

/-! ### sorting -/
def sortI (ns : List Int) : List Int := ns.mergeSort fun a b => decide (a ≤ b)
theorem sortI_perm (ns : List Int) : (sortI ns).Perm ns := List.mergeSort_perm _ _
theorem sortI_pw (ns : List Int) : (sortI ns).Pairwise (· ≤ ·) := by
  have h := List.pairwise_mergeSort (le := fun a b : Int => decide (a ≤ b)) (fun a b c h1 h2 => by simp at *; omega) (fun a b => by simp; omega) ns
  exact h.imp fun h => by simpa using h
theorem sortI_eq {ns ms : List Int} (hp : ms.Perm ns) (hs : ms.Pairwise (· ≤ ·)) : ms = sortI ns :=
  PySem.W.ksm_same (hp.trans (sortI_perm ns).symm) hs (sortI_pw ns)
def leS (a b : Str) : Bool := !decide (b.cps.toList < a.cps.toList)
theorem leS_trans (a b c : Str) (h1 : leS a b = true) (h2 : leS b c = true) : leS a c = true := by
  unfold leS at *
  simp only [Bool.not_eq_true', decide_eq_false_iff_not, List.not_lt] at *
  exact List.le_trans h1 h2
theorem leS_total (a b : Str) : (leS a b || leS b a) = true := by
  unfold leS
  simp only [Bool.or_eq_true, Bool.not_eq_true', decide_eq_false_iff_not, List.not_lt]
  exact List.le_total _ _
theorem leS_anti {a b : Str} (h1 : leS a b = true) (h2 : leS b a = true) : a = b := by
  unfold leS at *
  simp only [Bool.not_eq_true', decide_eq_false_iff_not, List.not_lt] at *
  have e := List.le_antisymm h1 h2
  cases a; cases b
  simp only [Str.mk.injEq]
  exact Array.toList_inj.mp e
def sortS (ss : List Str) : List Str := ss.mergeSort leS
theorem sortS_perm (ss : List Str) : (sortS ss).Perm ss := List.mergeSort_perm _ _
theorem sortS_pw (ss : List Str) : (sortS ss).Pairwise (fun a b => leS a b = true) := List.pairwise_mergeSort (le := leS) leS_trans leS_total ss
theorem sortS_eq {ss ts : List Str} (hp : ts.Perm ss) (hs : ts.Pairwise fun a b => leS a b = true) : ts = sortS ss :=
  (hp.trans (sortS_perm ss).symm).eq_of_pairwise (fun x y _ _ h1 h2 => leS_anti h1 h2) hs (sortS_pw ss)
theorem rising_pw : ∀ (l : List Str) (p : Str), risingS p l = true → (∀ y ∈ l, leS p y = true) ∧ l.Pairwise fun a b => leS a b = true
  | [], _, _ => ⟨fun _ h => (nomatch h), .nil⟩
  | x :: r, p, h => by
    have h' : (!ltCps x.cps.toList p.cps.toList && risingS x r) = true := h
    rw [Bool.and_eq_true] at h'
    have hx : leS p x = true := by
      have := h'.1
      rw [ltCps_eq] at this
      exact this
    obtain ⟨a, b⟩ := rising_pw r x h'.2
    refine ⟨fun y hy => ?_, .cons (fun y hy => a y hy) b⟩
    rcases List.mem_cons.mp hy with rfl | hy
    · exact hx
    · exact leS_trans _ _ _ hx (a y hy)
theorem sortedS_pw {l : List Str} (h : sortedS l = true) : l.Pairwise fun a b => leS a b = true := by
  cases l with
  | nil => exact .nil
  | cons x r =>
    obtain ⟨a, b⟩ := rising_pw r x h
    exact .cons a b

theorem strsAre_of : ∀ {ss : List Str} {us : List Value}, Vals (ss.map V.str) us → StrsAre us ss
  | [], _, .nil => .nil
  | x :: r, _, .cons a b => by
    obtain ⟨t, rfl⟩ := a
    exact .cons x t (strsAre_of b)
theorem vals_strs : ∀ {ss : List Str} {us : List Value}, StrsAre us ss → Vals (ss.map V.str) us
  | _, _, .nil => .nil
  | _, _, .cons y t r => .cons ⟨t, rfl⟩ (vals_strs r)
theorem vals_intsA : ∀ {ns : List Int} {us : List Value}, IntsAre us ns → Vals (ns.map V.int) us
  | _, _, .nil => .nil
  | _, _, .cons n t r => .cons ⟨t, rfl⟩ (vals_intsA r)
theorem vals_bools : ∀ {bs : List Bool} {us : List Value}, Vals (bs.map V.bl) us → ∀ (i : Nat) v, us[i]? = some v → ∃ b, bs[i]? = some b ∧ v = .bool b
  | [], _, .nil, i, v, h => by simp at h
  | b :: r, _, .cons a c, 0, v, h => by simp at h; subst h; exact ⟨b, rfl, a⟩
  | b :: r, _, .cons a c, i + 1, v, h => by
    obtain ⟨b', e, q⟩ := vals_bools c i v (by simpa using h)
    exact ⟨b', by simpa using e, q⟩

section
variable {X : Cx}
theorem call_sortedI : CallR X (.builtin "sorted") (fun xs H Q => ∃ (p : Addr) (ns : List Int), xs = [.ref p] ∧ SqL X.K H p (ns.map V.int) ∧ ns.length < 64 ∧ ∀ l, H l = none → Q (.ref l) (upd H l (.lst ((sortI ns).map V.int)))) := by
  intro pins s σ H xs us Q I r h
  obtain ⟨p, ns, rfl, hq, hl, q⟩ := h
  obtain ⟨u, rfl, ru⟩ := vals1 r
  obtain rfl : u = Value.ref p := ru
  obtain ⟨its, rv, pl, hz⟩ := I.list hq
  have el := rv.length
  rw [List.length_map] at el
  refine sorted_ints pl.isList (intsAre_of rv) (by omega) fun out ms a1 a2 a3 => ?_
  obtain rfl := sortI_eq a2 a3
  obtain ⟨e, he⟩ := sortedAll_at s.heap its out
  have hlen : ((sortI ns).map V.int).length ≤ sizeLine := by rw [List.length_map, (sortI_perm ns).length_eq, ← List.length_map (f := V.int)]; exact hz
  have ne : H (s.heap.objs.size + 1) = none := I.hok.fresh (Nat.le_succ _)
  exact ⟨.ref (s.heap.objs.size + 1), _, I.laid (o := .lst ((sortI ns).map V.int)) (t' := s.toks) (fun b o z => sortedAll_old z) (Nat.le_succ _) ⟨hlen, out.toList, e, vals_intsA a1, by simpa using he⟩, rfl, q _ ne⟩
theorem call_sortedS : CallR X (.builtin "sorted") (fun xs H Q => ∃ (p : Addr) (ss : List Str), xs = [.ref p] ∧ SqL X.K H p (ss.map V.str) ∧ ss.length < 64 ∧ ∀ l, H l = none → Q (.ref l) (upd H l (.lst ((sortS ss).map V.str)))) := by
  intro pins s σ H xs us Q I r h
  obtain ⟨p, ns, rfl, hq, hl, q⟩ := h
  obtain ⟨u, rfl, ru⟩ := vals1 r
  obtain rfl : u = Value.ref p := ru
  obtain ⟨its, rv, pl, hz⟩ := I.list hq
  have el := rv.length
  rw [List.length_map] at el
  refine sorted_strs pl.isList (strsAre_of rv) (by omega) fun out ms a1 a2 a3 => ?_
  obtain rfl := sortS_eq a2 (sortedS_pw a3)
  obtain ⟨e, he⟩ := sortedAll_at s.heap its out
  have hlen : ((sortS ns).map V.str).length ≤ sizeLine := by rw [List.length_map, (sortS_perm ns).length_eq, ← List.length_map (f := V.str)]; exact hz
  have ne : H (s.heap.objs.size + 1) = none := I.hok.fresh (Nat.le_succ _)
  exact ⟨.ref (s.heap.objs.size + 1), _, I.laid (o := .lst ((sortS ns).map V.str)) (t' := s.toks) (fun b o z => sortedAll_old z) (Nat.le_succ _) ⟨hlen, out.toList, e, vals_strs a1, by simpa using he⟩, rfl, q _ ne⟩
/-- sorted, of texts or of ints -/
def rSorted (K : PySem.W.Frag) : List V → Hp → VK → Prop := fun xs H Q => (∃ (p : Addr) (ss : List Str), xs = [.ref p] ∧ SqL K H p (ss.map V.str) ∧ ss.length < 64 ∧ ∀ l, H l = none → Q (.ref l) (upd H l (.lst ((sortS ss).map V.str)))) ∨ (∃ (p : Addr) (ns : List Int), xs = [.ref p] ∧ SqL K H p (ns.map V.int) ∧ ns.length < 64 ∧ ∀ l, H l = none → Q (.ref l) (upd H l (.lst ((sortI ns).map V.int))))
theorem call_sorted : CallR X (.builtin "sorted") (rSorted X.K) := call_sortedS.or call_sortedI

/-! ### all, any of a list of truths -/
theorem range_all {bs : List Bool} : ((List.range bs.length).all fun i => (bs[i]?).getD true) = bs.all id := by
  induction bs with
  | nil => rfl
  | cons b r ih =>
    rw [List.length_cons, List.range_succ_eq_map, List.all_cons, List.all_map, List.all_cons, ← ih]
    rfl
theorem call_all (hc : X.calm = true) : CallR X (.builtin "all") (fun xs H Q => ∃ (p : Addr) (bs : List Bool), xs = [.ref p] ∧ SqL X.K H p (bs.map V.bl) ∧ Q (.bl (bs.all id)) H) := by
  intro pins s σ H xs us Q I r h
  obtain ⟨p, bs, rfl, hq, q⟩ := h
  obtain ⟨u, rfl, ru⟩ := vals1 r
  obtain rfl : u = Value.ref p := ru
  obtain ⟨its, rv, pl, hz⟩ := I.list hq
  have el := rv.length
  rw [List.length_map] at el
  have hlt : p < s.heap.objs.size := by obtain ⟨_, e, _⟩ := pl.isList; exact Heap.lt_size e
  refine call_all_walk (wpAny_pyIter_list pl.isList ?_)
  refine ⟨s.heap.objs.size, [s.heap.objs.size, p], [s.heap.objs.size], its.toArray.size, _, _, fun i => (bs[i]?).getD true, rfl, Walks.list (A := X.A.in1) (by simpa using I.ok.hd hc) _ p (Nat.ne_of_lt hlt) its.toArray,
    ⟨⟨_, Heap.get?_push_size _ rfl, rfl, rfl⟩, pl.isList.push _⟩, fun i v s' Q' E' hP hQ => ?_, fun h' tk hk => ?_⟩
  · obtain ⟨b, e, rfl⟩ := vals_bools rv i v (by simpa using hP)
    simp only [e, Option.getD_some] at hQ
    exact wpAny_truthy_bool hQ
  · rw [List.size_toArray, ← el, range_all]
    exact ⟨.bl _, H, I.kept fun b o e => hk b o (by simpa using Nat.ne_of_lt (Heap.lt_size e)) (Heap.get?_push_of_some _ e), rfl, q⟩
/-! ### range(n) as a value, list(range(n)) -/
theorem call_rng : CallR X (.type "range") (fun xs H Q => ∃ j : Int, xs = [.int j] ∧ ∀ p, H p = none → Q (.ref p) (upd H p (.rng 0 j))) := by
  intro pins s σ H xs us Q I r h
  obtain ⟨j, rfl, q⟩ := h
  obtain ⟨u, rfl, ru⟩ := vals1 r
  obtain ⟨t, rfl⟩ := (show ∃ t, u = Value.int j t from ru)
  refine call_range_1 ?_
  exact ⟨.ref s.heap.objs.size, _, I.laid (o := .rng 0 j) (fun b o e => Heap.get?_push_of_some _ e) (Nat.le_refl _) ⟨_, _, _, Heap.get?_push_size _ rfl⟩, rfl, q _ (I.hok.fresh (Nat.le_refl _))⟩
def upTo (n : Int) : List Int := (List.range n.toNat).map fun (k : Nat) => (k : Int)
theorem vals_range {its : List Value} {n : Nat} {lo : Int} (h : ItemsOf (fun i v => ∃ t, v = .int (lo + i * 1) t) its.toArray n) : Vals ((List.range n).map fun (k : Nat) => V.int (lo + (k : Int))) its := by
  obtain ⟨h1, h2⟩ := h
  rw [List.size_toArray] at h1
  induction its generalizing n lo with
  | nil => simp at h1; subst h1; exact .nil
  | cons u r ih =>
    cases n with
    | zero => simp at h1
    | succ n =>
      rw [List.range_succ_eq_map, List.map_cons, List.map_map]
      obtain ⟨t, e⟩ := h2 0 u (by simp)
      refine .cons ⟨t, by rw [e]; simp⟩ ?_
      have := ih (n := n) (lo := lo + 1) (by simpa using h1) (fun j v hj => by
        obtain ⟨t, e⟩ := h2 (j + 1) v (by simpa using hj)
        exact ⟨t, by rw [e]; congr 1; push_cast; omega⟩)
      refine (show Vals _ r from ?_)
      have e2 : (List.range n).map (fun (k : Nat) => V.int (lo + 1 + (k : Int))) = (List.range n).map ((fun (k : Nat) => V.int (lo + (k : Int))) ∘ Nat.succ) := by
        apply List.map_congr_left
        intro k _
        simp only [Function.comp]
        congr 1
        push_cast
        omega
      rw [← e2]; exact this
theorem call_list_rng (hc : X.calm = true) : CallR X (.type "list") (fun xs H Q => ∃ (p : Addr) (j : Int), xs = [.ref p] ∧ H p = some (.rng 0 j) ∧ 0 ≤ j ∧ j ≤ 1000000 ∧ ∀ l, H l = none → Q (.ref l) (upd H l (.lst ((upTo j).map V.int)))) := by
  intro pins s σ H xs us Q I r h
  obtain ⟨p, j, rfl, hp, h0, h1, q⟩ := h
  obtain ⟨u, rfl, ru⟩ := vals1 r
  obtain rfl : u = Value.ref p := ru
  obtain ⟨t, u, v, e⟩ := I.hok p _ hp
  refine call_list_range (a := 0) (b := j) (c := 1) (n := j.toNat) (I.ok.hd hc) e (small_one (by omega) (by omega) (by omega) (by omega)) (by rw [rangeSize_one]; split <;> omega) (by omega) fun h' tk acc c' hk he hi => ?_
  have hv : Vals ((upTo j).map V.int) acc.toList := by
    have := vals_range (its := acc.toList) (n := j.toNat) (lo := 0) (by simpa using hi)
    unfold upTo
    rw [List.map_map]
    have e2 : (List.range j.toNat).map (fun (k : Nat) => V.int (0 + (k : Int))) = (List.range j.toNat).map (V.int ∘ fun (k : Nat) => (k : Int)) := by
      apply List.map_congr_left
      intro k _
      simp
    rw [← e2]; exact this
  have hz : ((upTo j).map V.int).length ≤ sizeLine := by unfold upTo; rw [List.length_map, List.length_map, List.length_range, sizeLine_eq]; omega
  exact ⟨.ref s.heap.objs.size, _, I.laid (o := .lst ((upTo j).map V.int)) hk (Nat.le_refl _) ⟨hz, acc.toList, c', hv, by simpa using he⟩, rfl, q _ (I.hok.fresh (Nat.le_refl _))⟩

/-! ### xs[::-1] -/
def tRev (K : PySem.W.Frag) (te : TE) (ts : TO) : TE := fun σ H Q => te σ H fun x H1 => ts σ H1 fun k H2 => ∃ a xs, x = .ref a ∧ k = some (-1) ∧ SqL K H2 a xs ∧ ∀ p, H2 p = none → Q (.ref p) (upd H2 p (.lst xs.reverse))
theorem pe_rev {e st : Expr} {te : TE} {ts : TO} {pos p2 : Pos} (he : PE X e te) (hs : PO X (some st) ts) : PE X (.Subscript e (.Slice none none (some st) p2) pos) (tRev X.K te ts) := by
  intro pins s σ H Q I h
  refine Subscript_ (thn (he pins s σ H _ I h) fun v s1 ⟨x, H1, I1, r1, q1⟩ => ?_)
  refine wpAny_Slice ?_
  rw [evalPart_none]
  refine wpAny_pure (wpAny_pure (thn (hs pins s1 σ H1 _ I1 q1) fun vk s3 ⟨k, H3, I3, pk, q3⟩ => ?_))
  obtain ⟨a, xs, rfl, rfl, hq, q⟩ := q3
  obtain rfl : v = Value.ref a := r1
  obtain ⟨its, r, ht, hz⟩ := I3.list hq
  have hlen := r.length
  have I4 : Inv X pins σ H3 { s3 with heap := s3.heap.push { cls := .type "slice", data := .fields #[.none, .none, vk] } } := I3.kept (t' := s3.toks) fun b ob q => Heap.get?_push_of_some _ q
  obtain ⟨its4, r4, ht4, hz4⟩ := I4.list hq
  have hlen4 := r4.length
  show wpAny (model X.prog X.w) X.A (subscriptTail e (.Slice none none (some st) p2) (.ref a) (.ref s3.heap.objs.size)) (EP X pins σ Q) X.xe { s3 with heap := s3.heap.push { cls := .type "slice", data := .fields #[.none, .none, vk] } }
  refine tail_any (ops := [.ref a, .ref s3.heap.objs.size]) ht4.isList.typeIs slot_list_getitem.lookup ?_ (by with_unfolding_all rfl)
  refine wpAny_getItem_list_slice ht4.isList (Heap.IsSliceOf.new ..) .none .none pk (by simp) ?_ (by rw [List.size_toArray] <;> omega)
  rw [PySem.W.krv_pick]
  refine ⟨.ref _, _, I4.laid (t' := s3.toks) (o := .lst xs.reverse) (fun b ob q => Heap.get?_push_of_some _ q) (Nat.le_refl _) ?_, rfl, q _ (I4.hok.fresh (Nat.le_refl _))⟩
  exact ⟨by rw [List.length_reverse]; exact hz, its4.reverse, 0, r4.reverse, Heap.get?_push_size _ rfl⟩
end

/-! ### == of things within things -/
mutual
inductive Dp (K : PySem.W.Frag) (H : Hp) : V → PyData → Prop
  | non : Dp K H .non .none
  | bl (b) : Dp K H (.bl b) (.bool b)
  | int (i) : Dp K H (.int i) (.int i)
  | str (x) : Dp K H (.str x) (.str x)
  | lst {a xs ds} : SqL K H a xs → DpAll K H xs ds → Dp K H (.ref a) (.list ds)
  | tup {a xs ds} : SqT K H a xs → DpAll K H xs ds → Dp K H (.ref a) (.tuple ds)
inductive DpAll (K : PySem.W.Frag) (H : Hp) : List V → List PyData → Prop
  | nil : DpAll K H [] []
  | cons {v d vs ds} : Dp K H v d → DpAll K H vs ds → DpAll K H (v :: vs) (d :: ds)
end
section
variable {X : Cx} {pins : List (Addr × Obj)} {σ : St} {H : Hp} {s : Shared}
mutual
theorem Dp.reads (I : Inv X pins σ H s) : ∀ {v : V} {d : PyData} {u : Value}, Dp X.K H v d → RelV v u → ∃ as, Reads s.heap u d as
  | _, _, u, .non, r => by cases (show u = Value.none from r); exact ⟨_, .none⟩
  | _, _, u, .bl b, r => by cases (show u = Value.bool b from r); exact ⟨_, .bool b⟩
  | _, _, u, .int i, r => by obtain ⟨t, e⟩ := (show ∃ t, u = Value.int i t from r); cases e; exact ⟨_, .int i t⟩
  | _, _, u, .str x, r => by obtain ⟨t, e⟩ := (show ∃ t, u = Value.str x t from r); cases e; exact ⟨_, .str x t⟩
  | _, _, u, .lst (a := a) h hs, r => by
    cases (show u = Value.ref a from r)
    obtain ⟨its, rv, pl, _⟩ := I.list h
    obtain ⟨o, ho, hc, n, hd⟩ := pl.isList
    obtain ⟨as, q⟩ := DpAll.reads I hs rv
    exact ⟨_, .list ho hc hd (by simpa using q)⟩
  | _, _, u, .tup (a := a) h hs, r => by
    cases (show u = Value.ref a from r)
    obtain ⟨its, rv, ⟨o, ho, hc, n, hd⟩, _⟩ := I.tuple h
    obtain ⟨as, q⟩ := DpAll.reads I hs rv
    exact ⟨_, .tuple ho hc hd (by simpa using q)⟩
theorem DpAll.reads (I : Inv X pins σ H s) : ∀ {vs : List V} {ds : List PyData} {us : List Value}, DpAll X.K H vs ds → Vals vs us → ∃ as, ReadsAll s.heap us ds as
  | _, _, _, .nil, .nil => ⟨_, .nil⟩
  | _, _, _, .cons h hs, .cons r rs => by
    obtain ⟨as, a⟩ := h.reads I r
    obtain ⟨bs, b⟩ := hs.reads I rs
    exact ⟨_, .cons a b⟩
end
def rEqD (K : PySem.W.Frag) (neg : Bool) : R2 := fun x y H Q => ∃ d e, Dp K H x d ∧ Dp K H y e ∧ d.canLay0 = true ∧ e.canLay0 = true ∧ d.depth ≤ 60 ∧ Q (.bl (if neg then !PyData.eqv d e else PyData.eqv d e)) H
theorem op_eqD (hu : X.A.units + 64 < cLine) : OpR X (compareOp .Eq) (rEqD X.K false) := by
  intro pins s σ H x y u v Q I rx ry h
  obtain ⟨d, e, hx, hy, c1, c2, dp, q⟩ := h
  obtain ⟨as, a⟩ := hx.reads I rx
  obtain ⟨bs, b⟩ := hy.reads I ry
  exact SeqAt.compareEq_reads a b c1 c2 (by omega) ⟨.bl _, H, I, rfl, q⟩
/-! ### isinstance(x, T), T built in -/
def rIsi (K : PySem.W.Frag) (T : String) : List V → Hp → VK → Prop := fun xs H Q => ∃ x t b, xs = [x, .ty T] ∧ TyOf K H x t ∧ PySem.W.kitOne K t (.type T) = some b ∧ Q (.bl b) H
theorem call_isi (T : String) : CallR X (.builtin "isinstance") (rIsi X.K T) := by
  intro pins s σ H xs us Q I r h
  obtain ⟨x, t, b, rfl, ht, hk, q⟩ := h
  obtain ⟨u, v, rfl, ru, rv⟩ := vals2 r
  obtain rfl : v = Value.type T := rv
  exact isinst_ok I ru ht hk fun tk => ⟨.bl b, H, I.tok _, rfl, q⟩
end
example (K : PySem.W.Frag) : PySem.W.kitOne K (.type "int") (.type "list") = some false := by rfl
example (K : PySem.W.Frag) : PySem.W.kitOne K (.type "bool") (.type "int") = some true := by rfl
end L3

set_option Elab.async false
set_option linter.all false
set_option maxRecDepth 100000
set_option maxHeartbeats 4000000
namespace L3
open PySem PySem.Spec PyProof.Rows L2

section
variable {X : Cx} {pins : List (Addr × Obj)} {σ : St} {H : Hp} {s : Shared} {h' : Heap}
/-- records of ours turned, and one new thing is tracked -/
theorem Inv.turnedLaid {ch : List Addr} {p : Addr} {o : HO} {t' : Nat} (I : L2.Inv X pins σ H s) (k : ∀ b u, b ∉ ch → s.heap.get? b = some u → h'.get? b = some u) (hob : ∀ b ∈ ch, ∃ u, h'.get? b = some u) (hf : ∀ b ∈ ch, FpOk X pins H b) (hp : s.heap.objs.size ≤ p)
    (new : ObjOk X.prog X.w (upd H p o) h' p o) : L2.Inv X pins σ (upd H p o) { s with heap := h', toks := t' } := by
  have hn : H p = none := I.hok.fresh hp
  have old : ∀ {b : Addr} {u : Obj}, s.heap.get? b = some u → b ≠ p := fun e => Nat.ne_of_lt (Nat.lt_of_lt_of_le (Heap.lt_size e) hp)
  refine I.step (g' := s.gens) (d' := s.drawn) (ch := ch) (fun b hb => ?_) (fun b u _ _ hc e _ => k b u hc e) (fun b u _ _ hc e _ => ⟨u.slots, k b u hc e⟩) (fun b u _ e n => by rw [upd_ne (old e)]; exact n)
    (fun b u hc e => ⟨u, k b u hc e⟩) (fun b xs e => by rw [upd_ne (ne_of_none e hn)]; exact e) (fun b u xs e => by rw [upd_ne (ne_of_none e hn)]; exact e) (fun b ps e => ⟨#[], by rw [upd_ne (ne_of_none e hn), e]; simp⟩)
    (fun m hm => ?_) (fun b u e => ?_) I.bare
  · obtain ⟨f0, f1, f2, f3, f4, f5⟩ := hf b hb
    exact ⟨f3, f1, f4, f5⟩
  · obtain ⟨ob, es, ep, ho, r⟩ := hm
    exact ⟨ob, es, ep, k _ ob (fun z => (hf _ z).2.1 rfl) ho, r⟩
  · by_cases hb : b = p
    · subst hb; rw [upd_same] at e; cases e; exact new
    · rw [upd_ne hb] at e
      have nch : ∀ c v, H c = some v → c ∉ ch := fun c v q z => by rw [(hf c z).1] at q; cases q
      refine (I.hok b u e).stay (fun c v hc q => k c v ?_ q) (fun c q => by rw [upd_ne (ne_of_none q hn)]; exact q) fun c xs q => by rw [upd_ne (ne_of_none q hn)]; exact q
      rcases hc with rfl | hc
      · exact nch _ _ e
      · exact nch _ _ hc
end

/-- enumerate of the list at a: a new pair each turn -/
def Ite (K : PySem.W.Frag) (a : Addr) : It :=
  ⟨fun i H => ∃ xs x, SqL K H a xs ∧ xs[i]? = some x, fun i H x H' => ∃ p v, x = .ref p ∧ H p = none ∧ H' = upd H p (.tup [.int i, v]) ∧ ∀ xs, SqL K H a xs → xs[i]? = some v, fun i H => ∃ xs, SqL K H a xs ∧ xs.length ≤ i⟩
theorem turn_enum {P : Program} {w : World} {K : PySem.W.Frag} {elts : List Expr} {k1 : Nat} {pt : Pos} (a it e : Addr) (hne : e ≠ it) :
    Turn P w K (.Tuple elts k1 pt) (Ite K a) [e, it] e (fun i h => ∃ old, IsEnum h e it (i : Nat) old ∧ h.IsListIter it a i) where
  mem := by simp
  obj := fun i h st b hb => by
    obtain ⟨old, h1, o, h2, c, d⟩ := st
    rcases (by simpa using hb : b = e ∨ b = it) with rfl | rfl
    · exact ⟨_, h1, fun v z => by
        have z' : Data.fields _ = Data.cell v := z
        cases z'⟩
    · exact ⟨o, h2, fun v z => by rw [d] at z; cases z⟩
  keep := fun i h h' st k => by
    obtain ⟨old, h1, h2⟩ := st
    exact ⟨old, k e (by simp) _ h1, h2.at fun o z => k it (by simp) o z⟩
  item := by
    intro X hP hw hK hc i pins s σ H E I hf st hg
    subst hP hw hK
    obtain ⟨xs, x, hq, hx⟩ := hg
    obtain ⟨its, rv, p, hz⟩ := I.list hq
    obtain ⟨u, hu, ru⟩ := rv.get hx
    obtain ⟨old, he, hi⟩ := st
    refine wpAny_pyNext_enum_item he hi p.isList (x := u) (by simpa using hu) hne fun h1 b1 b2 b3 b4 b5 => ?_
    refine ⟨_, rfl, wpAny_letOwnedTupleGo_enum b1 fun h2 c1 c2 => ?_⟩
    have c2' : Heap.SameBut e h1 h2 := c2
    have lte : e < s.heap.objs.size := Heap.lt_size he
    have hit2 : h2.IsListIter it a (i + 1) := b2.at fun o z => (c2'.2 it (Ne.symm hne)).trans z
    have ht : h2.get? s.heap.objs.size = some { cls := .type "tuple", data := .seq #[.int (i : Nat) s.toks, u] } := (c2'.2 _ (Nat.ne_of_gt lte)).trans b3
    have I2 : L2.Inv X pins σ (upd H s.heap.objs.size (.tup [.int (i : Nat), x])) { s with heap := h2, toks := s.toks + 1 } := by
      refine Inv.turnedLaid (ch := [e, it]) I (fun b o hb z => ?_) (fun b hb => ?_) hf (Nat.le_refl _) ?_
      · have hb' : b ≠ e ∧ b ≠ it := by simpa using hb
        exact (c2'.2 b hb'.1).trans (b5 b o hb'.1 hb'.2 z)
      · rcases (by simpa using hb : b = e ∨ b = it) with rfl | rfl
        · exact ⟨_, c1⟩
        · obtain ⟨o, z, _⟩ := hit2; exact ⟨o, z⟩
      · exact ⟨by show 2 ≤ sizeLine; decide, [.int (i : Nat) s.toks, u], .cons ⟨_, rfl⟩ (.cons ru .nil), ⟨_, ht, rfl, _, rfl⟩⟩
    have hn := I.hok.fresh (Nat.le_refl s.heap.objs.size)
    refine ⟨.ref s.heap.objs.size, _, I2, rfl, ⟨_, x, rfl, hn, rfl, fun ys hy => by rw [I.list_inj hy hq]; exact hx⟩, ⟨u, by simpa using c1, hit2⟩, fun b hb => ?_⟩
    have lb : b < s.heap.objs.size := by
      rcases (by simpa using hb : b = e ∨ b = it) with rfl | rfl
      · exact lte
      · obtain ⟨o, z, _⟩ := hi; exact Heap.lt_size z
    rw [upd_ne (Nat.ne_of_lt lb)]
    exact (hf b hb).1
  done := by
    intro X hP hw hK hc i pins s σ H E I hf st hg
    subst hP hw hK
    obtain ⟨xs, hq, hx⟩ := hg
    obtain ⟨its, rv, p, hz⟩ := I.list hq
    obtain ⟨old, he, hi⟩ := st
    have hl := rv.length
    obtain ⟨f0, f1, f2, f3, f4, f5⟩ := hf it (by simp)
    exact wpAny_pyNext_enum_end (I.ok.hd hc) he hi p.isList (by simp; omega) fun h' eb => ⟨rfl, I.turned (t' := s.toks) (fun b o hb z => eb b o hb z) f0 f1 f3 f4 f5⟩
  self := fun _ _ _ _ _ st h => by
    obtain ⟨old, he, _⟩ := st
    exact wpAny_pyIter_enum he h

section
variable {X : Cx}
def iEnum (K : PySem.W.Frag) (ta : TA) : TI := fun σ H R => ta σ H fun vs H1 => ∃ a xs, vs = [.ref a] ∧ Rd H1 a (.lst xs) ∧ R (Ite K a) H1
theorem pi_enum {elts : List Expr} {k1 : Nat} {pt : Pos} {a : Expr} {ta : TA} {p pos : Pos} (hg : Gl X "enumerate") (hm : X.mg "enumerate" = none) (ha : PA X [a] ta) (hs : starEach [a] X.env = [(false, eval a X.env)] := by rfl) :
    PI X (.Tuple elts k1 pt) (.Call (.Name "enumerate" p) [a] [] pos) (iEnum X.K ta) := by
  intro pins s σ H R I h
  refine Call_ (ld_blt I hg hm PyProof.Rows.boot_enumerate (PyProof.Rows.callWith_type1 (thn (ha pos pins s σ H _ I h) fun us s1 ⟨vs, H1, I1, r1, q1⟩ => ?_) hs rfl))
  obtain ⟨l, xs, rfl, hq, q⟩ := q1
  obtain ⟨u, rfl, ru⟩ := vals1 r1
  obtain rfl : u = Value.ref l := ru
  obtain ⟨z, its, n, rv, e⟩ := hq.ok I1.hok
  refine call_enumerate_1 e fun h' a1 a2 a3 a4 => wpAny_pyIter_enum a1 ?_
  have I2 : L2.Inv X pins σ H1 { s1 with heap := h' } := I1.kept (t' := s1.toks) a4
  refine ⟨s1.heap.objs.size + 1, [s1.heap.objs.size + 1, s1.heap.objs.size], _, _, H1, rfl, I2, turn_enum l s1.heap.objs.size (s1.heap.objs.size + 1) (Nat.ne_of_gt (Nat.lt_succ_self _)), ⟨_, a1, a2⟩, fun b hb => ?_, q⟩
  have lb : s1.heap.objs.size ≤ b := by
    rcases (by simpa using hb : b = s1.heap.objs.size + 1 ∨ b = s1.heap.objs.size) with rfl | rfl
    · exact Nat.le_succ _
    · exact Nat.le_refl _
  exact I1.fpOk lb (I1.hok.fresh lb)
end
end L3

set_option Elab.async false
set_option linter.all false
set_option maxRecDepth 100000
set_option maxHeartbeats 4000000
namespace L3
open PySem PySem.Spec PyProof.Rows L2

/-! ### heaps: what is new -/
def New (H H' : Hp) : Hp := fun b => if (H b).isSome = true then none else H' b
def hide (D : Addr) (H : Hp) : Hp := fun b => if b = D then none else H b
theorem New.of {H H' : Hp} {b : Addr} {o : HO} (h : New H H' b = some o) : H b = none ∧ H' b = some o := by
  unfold New at h
  split at h
  · cases h
  · rename_i q
    refine ⟨?_, h⟩
    cases e : H b with
    | none => rfl
    | some u => rw [e] at q; exact absurd rfl q
theorem New.mk {H H' : Hp} {b : Addr} {o : HO} (h : H b = none) (h' : H' b = some o) : New H H' b = some o := by
  unfold New
  rw [h]
  exact h'
theorem New.sub {H H' : Hp} : Same (New H H') H' := fun _ _ h => (New.of h).2
theorem New.mono {H H1 H2 H3 : Hp} (a : Same H H1) (b : Same H2 H3) : Same (New H1 H2) (New H H3) := fun c o h =>
  let ⟨h1, h2⟩ := New.of h
  New.mk (a.free h1) (b c o h2)
theorem same_upd {H : Hp} {p : Addr} {o : HO} (h : H p = none) : Same H (upd H p o) := fun b u e => by rw [upd_ne (ne_of_none e h)]; exact e
theorem hide_sub {D : Addr} {H : Hp} : Same (hide D H) H := fun b o h => by
  unfold hide at h
  split at h
  · cases h
  · exact h
theorem hide_some {D b : Addr} {H : Hp} {o : HO} (h : hide D H b = some o) : b ≠ D ∧ H b = some o := by
  unfold hide at h
  split at h
  · cases h
  · rename_i q; exact ⟨q, h⟩
theorem hide_mk {D b : Addr} {H : Hp} {o : HO} (n : b ≠ D) (h : H b = some o) : hide D H b = some o := by
  unfold hide
  rw [if_neg n]; exact h
/-- all but one address -/
def SameX (D : Addr) (H H' : Hp) : Prop := ∀ b o, b ≠ D → H b = some o → H' b = some o
theorem Same.x {D : Addr} {H H' : Hp} (h : Same H H') : SameX D H H' := fun b o _ e => h b o e
theorem SameX.refl {D : Addr} (H : Hp) : SameX D H H := fun _ _ _ e => e
theorem SameX.trans {D : Addr} {H H1 H2 : Hp} (a : SameX D H H1) (b : SameX D H1 H2) : SameX D H H2 := fun c o n e => b c o n (a c o n e)
theorem SameX.upd {D : Addr} {H H' : Hp} {o : HO} (a : SameX D H H') : SameX D H (upd H' D o) := fun c u n e => by rw [upd_ne n]; exact a c u n e
theorem SameX.same {D : Addr} {H H' : Hp} (a : SameX D H H') (h : H D = none) : Same H H' := fun c u e => a c u (ne_of_none e h) e
theorem Same.seqT {K : PySem.W.Frag} {H H' : Hp} {a : Addr} {xs : List V} (e : Same H H') (h : SqT K H a xs) : SqT K H' a xs := by
  rcases h with (h | ⟨o, h⟩) | h
  · exact .inl (.inl (e _ _ h))
  · exact .inl (.inr ⟨o, e _ _ h⟩)
  · exact .inr h

/-! ### a comprehension's reading -/
theorem comp_gen {J : It} {n : Nat} {D : Addr} {g : TG} {tt : TT} {te : TE} {σ0 : St} {H0 : Hp} {Q : VK} (Pv : Nat → St → Hp → Prop) (h0 : Pv 0 σ0 (upd H0 D (.lst [])))
    (hgo : ∀ i σ H, i < n → Pv i σ H → J.go i H) (hst : ∀ σ H, Pv n σ H → J.stop n H)
    (hs : ∀ i x σ H H2, i < n → Pv i σ H → J.yld i H x H2 → ∀ (N : V → St → Hp → Prop) (N0 : St → Hp → Prop), (∀ v σ2 H5 ys, H5 D = some (.lst ys) → ys.length < sizeLine → Pv (i + 1) σ2 (upd H5 D (.lst (ys ++ [v]))) → N v σ2 H5) → (∀ σ2 H4, Pv (i + 1) σ2 H4 → N0 σ2 H4) →
      g x σ H2 fun σ2 H3 => tt σ2 H3 fun c H4 => if c = true then te σ2 H4 fun v H5 => N v σ2 H5 else N0 σ2 H4)
    (hd : ∀ σ H, Pv n σ H → Q (.ref D) H) :
    CompW J D g tt te σ0 H0 Q := by
  refine ⟨fun i m σ H => m = n - i ∧ i ≤ n ∧ Pv i σ H, ⟨n, by simp, Nat.zero_le _, h0⟩, ?_⟩
  rintro i m σ H ⟨rfl, hi, p⟩
  by_cases hlt : i < n
  · refine .inr ⟨hgo i σ H hlt p, fun v σ2 H5 => ∃ ys, H5 D = some (.lst ys) ∧ ys.length < sizeLine ∧ Pv (i + 1) σ2 (upd H5 D (.lst (ys ++ [v]))), fun σ2 H4 => Pv (i + 1) σ2 H4, ?_, ?_, ?_⟩
    · rintro v σ2 H5 ⟨ys, a, b, c⟩
      exact ⟨ys, a, b, n - (i + 1), by omega, rfl, hlt, c⟩
    · intro σ2 H4 q
      exact ⟨n - (i + 1), by omega, rfl, hlt, q⟩
    · intro x H2 y
      exact hs i x σ H H2 hlt p y _ _ (fun v σ2 H5 ys a b c => ⟨ys, a, b, c⟩) fun _ _ q => q
  · have e : i = n := by omega
    subst e
    exact .inl ⟨hst σ H p, hd σ H p⟩

/-- [f(x) for x in xs]: what each element is, by the heap that is new at its turn -/
theorem comp_map {K : PySem.W.Frag} {a D : Addr} {xs : List V} {te : TE} {τ : St} {H0 : Hp} {Q : VK} (hD : H0 D = none) (hq : SqL K H0 a xs) (hz : xs.length ≤ sizeLine) (R : Nat → V → Hp → Prop) (mono : ∀ i v H H', Same H H' → R i v H → R i v H')
    (step : ∀ i x H (N : V → Hp → Prop), xs[i]? = some x → Same H0 H → (∀ v H4, Same H H4 → R i v (New H H4) → N v H4) → te (some x :: τ) H N)
    (fin : ∀ H' ys, H' D = some (.lst ys) → Same H0 H' → ys.length = xs.length → (∀ i v, ys[i]? = some v → R i v (New H0 H')) → Q (.ref D) H') :
    CompW (Itl K a) D (gName 0) tTrue te (none :: τ) H0 Q := by
  refine comp_gen (n := xs.length) (fun i σ H => ∃ z ys, σ = z :: τ ∧ H D = some (.lst ys) ∧ ys.length = i ∧ Same H0 H ∧ ∀ j v, ys[j]? = some v → R j v (hide D (New H0 H))) ?_ ?_ ?_ ?_ ?_
  · exact ⟨none, [], rfl, upd_same, rfl, same_upd hD, fun j v e => by simp at e⟩
  · rintro i σ H hi ⟨z, ys, rfl, _, _, s, _⟩
    exact ⟨xs, xs[i], s.seq hq, by simp [hi]⟩
  · rintro σ H ⟨z, ys, rfl, _, _, s, _⟩
    exact ⟨xs, s.seq hq, Nat.le_refl _⟩
  · rintro i x σ H H2 hi ⟨z, ys, rfl, hy, hl, s, r⟩ ⟨rfl, hx⟩ N N0 hN hN0
    show te (some x :: τ) H2 _
    refine step i x H2 _ (hx xs (s.seq hq)) s fun v H4 s4 r4 => ?_
    refine hN v _ H4 ys (s4 _ _ hy) (by omega) ⟨some x, ys ++ [v], rfl, upd_same, by rw [List.length_append, List.length_singleton, hl], ?_, ?_⟩
    · exact (SameX.upd (Same.x (s.trans s4))).same hD
    · intro j w e
      by_cases hj : j < ys.length
      · rw [List.getElem?_append_left hj] at e
        refine mono j w _ _ ?_ (r j w e)
        intro b o hb
        obtain ⟨nb, hb⟩ := hide_some hb
        obtain ⟨h1, h2⟩ := New.of hb
        exact hide_mk nb (New.mk h1 (by rw [upd_ne nb]; exact s4 _ _ h2))
      · have ej : j = ys.length := by
          have := (List.getElem?_eq_some_iff.mp e).1
          rw [List.length_append, List.length_singleton] at this
          omega
        subst ej
        simp at e
        subst e
        rw [hl]
        refine mono i v _ _ ?_ r4
        intro b o hb
        obtain ⟨h1, h2⟩ := New.of hb
        have nb : b ≠ D := fun z => by subst z; rw [hy] at h1; cases h1
        exact hide_mk nb (New.mk (s.free h1) (by rw [upd_ne nb]; exact h2))
  · rintro σ H ⟨z, ys, rfl, hy, hl, s, r⟩
    exact fin H ys hy s hl fun i v e => mono i v _ _ hide_sub (r i v e)

/-! ### rules for a kind that is not known ahead -/
section
variable {X : Cx}
def rLen (K : PySem.W.Frag) : List V → Hp → VK → Prop := fun xs H Q => (∃ p ys, xs = [.ref p] ∧ (SqL K H p ys ∨ SqT K H p ys) ∧ Q (.int ys.length) H) ∨ ((∃ z, xs = [.str z] ∧ z.length ≤ sizeLine ∧ Q (.int z.length) H) ∨ ∃ a n, xs = [.ref a] ∧ H a = some (SetN a n) ∧ n < 4000 ∧ Q (.int n) H)
theorem call_lenA : CallR X (.builtin "len") (rLen X.K) := call_len_seq.or (call_len_str.or call_lenS)
def rListA (K : PySem.W.Frag) : List V → Hp → VK → Prop := fun xs H Q => (∃ p ys, xs = [.ref p] ∧ (SqL K H p ys ∨ SqT K H p ys) ∧ ∀ l, H l = none → Q (.ref l) (upd H l (.lst ys))) ∨ (∃ (p : Addr) (j : Int), xs = [.ref p] ∧ H p = some (.rng 0 j) ∧ 0 ≤ j ∧ j ≤ 1000000 ∧ ∀ l, H l = none → Q (.ref l) (upd H l (.lst ((upTo j).map V.int))))
theorem call_listA (hc : X.calm = true) : CallR X (.type "list") (rListA X.K) := call_list_of.or (call_list_rng hc)
/-- a global constant, a global that is a class or the like -/
theorem pe_gc {x : Str} {v : V} {pos : Pos} (hg : Gl X x) (h : ∃ u, X.mg x = some u ∧ RelV v u) (hd : (x == ("__debug__" : Str)) = false := by decide) : PE X (.Name x pos) (tC v) := by
  obtain ⟨u, hm, r⟩ := h
  exact pe_glob hg hm r hd
end
def compChk (sc : Scope) (N Nc : List Str) (ix : List (Option Nat)) (scope : Scope) : Bool :=
  decide (scope.kind = .function) && scope.names.all (fun y => decide (y.2 ≠ .cell)) && scope.names.all (fun y => decide (y.2 = .local → scope.names.lookup y.1 = some .local)) &&
  scope.names.all (fun y => decide (y.2 = .free → sc.names.lookup y.1 = some .cell ∨ sc.names.lookup y.1 = some .free)) && decide (ix.length = Nc.length) &&
  (ix.zip Nc).all fun p => match p.1 with | none => true | some j => N[j]? == some p.2 && scope.names.lookup p.2 == some .free
theorem CompOk.of {sc : Scope} {N Nc : List Str} {ix : List (Option Nat)} {scope : Scope} (h : compChk sc N Nc ix scope = true) : CompOk sc N Nc ix scope := by
  unfold compChk at h
  simp only [Bool.and_eq_true] at h
  obtain ⟨⟨⟨⟨⟨h1, h2⟩, h3⟩, h4⟩, h5⟩, h6⟩ := h
  exact ⟨of_decide_eq_true h1, fun y hy => of_decide_eq_true (List.all_eq_true.mp h2 y hy), fun y hy => of_decide_eq_true (List.all_eq_true.mp h3 y hy), fun y hy => of_decide_eq_true (List.all_eq_true.mp h4 y hy), of_decide_eq_true h5, h6⟩

/-! ### over the signs of a text -/
def Its (x : Str) : It := ⟨fun i _ => i < x.cps.size, fun i H v H' => H' = H ∧ ∃ c, x.cps[i]? = some c ∧ v = .str ⟨#[c]⟩, fun i _ => x.cps.size ≤ i⟩
theorem turn_str {P : Program} {w : World} {K : PySem.W.Frag} {tg : Expr} {it : Addr} {x : Str} {t : Tok} {ty : String}
    (hty : ["enumerate", "zip", "dict_itemiterator", "dict_reverseitemiterator", "odict_iterator", "itertools.zip_longest", "itertools.pairwise"].contains ty = false)
    (W : ∀ A' : Around, A'.handled = none → Walks P w A' it [it] [it] x.cps.size (SignAt x) (fun i h => h.IsStrIter it ty x t i))
    (self : ∀ (A : Around) (i : Nat) (s : Shared) (Q : Value → Shared → Prop) (E : Value → Shared → Prop), s.heap.IsStrIter it ty x t i → Q (.ref it) s → wpAny (model P w) A (pyIter (.ref it)) Q E s) :
    Turn P w K tg (Its x) [it] it (fun i h => i ≤ x.cps.size ∧ h.IsStrIter it ty x t i) where
  mem := by simp
  obj := fun i h st b hb => by
    have e : b = it := by simpa using hb
    subst e
    obtain ⟨_, o, e, c, d⟩ := st
    exact ⟨o, e, fun v z => by rw [d] at z; cases z⟩
  keep := fun i h h' st k => by
    obtain ⟨l, o, e, c, d⟩ := st
    exact ⟨l, o, k it (by simp) o e, c, d⟩
  item := by
    intro X hP hw hK hc i pins s σ H E I hf st hg
    subst hP hw hK
    obtain ⟨f0, f1, f2, f3, f4, f5⟩ := hf it (by simp)
    refine (W X.A (I.ok.hd hc)).item i s _ _ hg st.2 fun v h' tk hv st' kk => ?_
    obtain ⟨c, u, hcx, rfl⟩ := hv
    have I1 : L2.Inv X pins σ H { s with heap := h', toks := tk } := I.turned (fun b o hb e => kk b o (by simpa using hb) e) f0 f1 f3 f4 f5
    obtain ⟨o, e, oc, od⟩ := id st'
    exact ⟨_, rfl, go_of (s := { s with heap := h', toks := tk }) e oc od hty ⟨.str ⟨#[c]⟩, H, I1, ⟨u, rfl⟩, ⟨rfl, c, hcx, rfl⟩, ⟨hg, st'⟩, fun b hb => (hf b hb).1⟩⟩
  done := by
    intro X hP hw hK hc i pins s σ H E I hf st hg
    subst hP hw hK
    obtain ⟨f0, f1, f2, f3, f4, f5⟩ := hf it (by simp)
    have e : i = x.cps.size := Nat.le_antisymm st.1 hg
    subst e
    exact (W X.A (I.ok.hd hc)).done s _ _ st.2 fun h' tk kk => ⟨rfl, I.turned (fun b o hb e => kk b o (by simpa using hb) e) f0 f1 f3 f4 f5⟩
  self := fun A i s Q E st h => self A i s Q E st.2 h
section
variable {X : Cx} {tg : Expr}
def iStr (tl : TE) : TI := fun σ H R => tl σ H fun v H1 => ∃ x, v = .str x ∧ R (Its x) H1
theorem pi_str {l : Expr} {tl : TE} (hl : PE X l tl) : PI X tg l (iStr tl) := by
  intro pins s σ H R I h
  refine thn (hl pins s σ H _ I h) fun v s1 ⟨y, H1, I1, r1, x, e, q⟩ => ?_
  subst e
  obtain ⟨t, rfl⟩ := (show ∃ t, v = Value.str x t from r1)
  have fin : ∀ (ty : String), ["enumerate", "zip", "dict_itemiterator", "dict_reverseitemiterator", "odict_iterator", "itertools.zip_longest", "itertools.pairwise"].contains ty = false →
      (∀ A' : Around, A'.handled = none → Walks X.prog X.w A' s1.heap.objs.size [s1.heap.objs.size] [s1.heap.objs.size] x.cps.size (SignAt x) (fun i h => h.IsStrIter s1.heap.objs.size ty x t i)) →
      (∀ (A : Around) (i : Nat) (s : Shared) (Q : Value → Shared → Prop) (E : Value → Shared → Prop), s.heap.IsStrIter s1.heap.objs.size ty x t i → Q (.ref s1.heap.objs.size) s → wpAny (model X.prog X.w) A (pyIter (.ref s1.heap.objs.size)) Q E s) →
      PIE X pins σ tg R (.ref s1.heap.objs.size) { s1 with heap := s1.heap.push { cls := .type ty, data := .fields #[.str x t, .int 0 0] } } := fun ty h1 h2 h3 => by
    refine ⟨s1.heap.objs.size, [s1.heap.objs.size], _, _, H1, rfl, I1.kept (t' := s1.toks) fun b o e => Heap.get?_push_of_some _ e, turn_str h1 h2 h3, ⟨Nat.zero_le _, _, Heap.get?_push_size _ rfl, rfl, rfl⟩, fun b hb => ?_, q⟩
    have e : b = s1.heap.objs.size := by simpa using hb
    subst e
    exact I1.fpOk (Nat.le_refl _) (I1.hok.fresh (Nat.le_refl _))
  cases ha : x.cps.all (· < 128)
  · exact wpAny_pyIter_wide ha (fin "str_iterator" (by decide) (fun A' hA => Walks.strWide hA _ x t) fun _ _ _ _ _ st h => wpAny_pyIter_striter_wide st h)
  · exact wpAny_pyIter_ascii ha (fin "str_ascii_iterator" (by decide) (fun A' hA => Walks.strAscii hA _ x t) fun _ _ _ _ _ st h => wpAny_pyIter_striter_ascii st h)
end

/-! ### the same rules, the module's part named apart -/
section
variable {X : Cx} {K : PySem.W.Frag}
theorem call_lenK (hK : X.K = K) : CallR X (.builtin "len") (rLen K) := by subst hK; exact call_lenA
theorem call_sortedK (hK : X.K = K) : CallR X (.builtin "sorted") (rSorted K) := by subst hK; exact call_sorted
def rAll (K : PySem.W.Frag) : List V → Hp → VK → Prop := fun xs H Q => ∃ (p : Addr) (bs : List Bool), xs = [.ref p] ∧ SqL K H p (bs.map V.bl) ∧ Q (.bl (bs.all id)) H
def rAny (K : PySem.W.Frag) : List V → Hp → VK → Prop := fun xs H Q => ∃ (p : Addr) (bs : List Bool), xs = [.ref p] ∧ SqL K H p (bs.map V.bl) ∧ Q (.bl (bs.any id)) H
theorem call_allK (hK : X.K = K) (hc : X.calm = true) : CallR X (.builtin "all") (rAll K) := by subst hK; exact call_all hc
theorem call_listK (hK : X.K = K) (hc : X.calm = true) : CallR X (.type "list") (rListA K) := by subst hK; exact call_listA hc
def rTupleA (K : PySem.W.Frag) : List V → Hp → VK → Prop := fun xs H Q => ∃ p ys, xs = [.ref p] ∧ ((SqL K H p ys ∧ ∀ l, H l = none → Q (.ref l) (upd H l (.tup ys))) ∨ (SqT K H p ys ∧ Q (.ref p) H))
theorem call_tupleK (hK : X.K = K) : CallR X (.type "tuple") (rTupleA K) := by subst hK; exact call_tuple_of
def rSetA (K : PySem.W.Frag) : List V → Hp → VK → Prop := fun xs H Q => ∃ (p : Addr) (ks : List Key), xs = [.ref p] ∧ SqL K H p (ks.map kV) ∧ ks.length < 4000 ∧ ∀ n a, n ≤ ks.length → (n = ks.length ↔ ks.Nodup) → H a = none → Q (.ref a) (upd H a (SetN a n))
theorem call_setK (hK : X.K = K) (hc : X.calm = true) : CallR X (.type "set") (rSetA K) := by subst hK; exact call_set hc
theorem call_isiK (hK : X.K = K) (T : String) : CallR X (.builtin "isinstance") (rIsi K T) := by subst hK; exact call_isi T
theorem ix_listK (hK : X.K = K) : IxR X (rIxL K) := by subst hK; exact ix_list
theorem ix_tupK (hK : X.K = K) : IxR X (rIxT K) := by subst hK; exact ix_tup
theorem sl_listK (hK : X.K = K) : SlR X (rSlL K) := by subst hK; exact sl_list
theorem op_notInK (hK : X.K = K) : OpR X (compareOp .NotIn) (rIn K true) := by subst hK; exact op_notIn_seq
theorem op_eqDK (hK : X.K = K) (hu : X.A.units + 64 < cLine) : OpR X (compareOp .Eq) (rEqD K false) := by subst hK; exact op_eqD hu
theorem pi_listK {tg l : Expr} {tl : TE} (hK : X.K = K) (hl : PE X l tl) : PI X tg l (iList K tl) := by subst hK; exact pi_list hl
theorem pi_enumK {elts : List Expr} {k1 : Nat} {pt : Pos} {a : Expr} {ta : TA} {p pos : Pos} (hK : X.K = K) (hg : Gl X "enumerate") (hm : X.mg "enumerate" = none) (ha : PA X [a] ta) (hs : starEach [a] X.env = [(false, eval a X.env)] := by rfl) :
    PI X (.Tuple elts k1 pt) (.Call (.Name "enumerate" p) [a] [] pos) (iEnum K ta) := by subst hK; exact pi_enum hg hm ha hs
theorem pg_tupK {es : List Expr} {k : Nat} {t : TGs} {n : Nat} {pos : Pos} (hK : X.K = K) (hc : X.calm = true) (h : PGs X es t)
    (hn : (assignEach es X.env).length = n := by rfl) (hst : (assignEach es X.env).findIdx? (·.1) = none := by rfl) : PG X (.Tuple es k pos) (gTup K n t) := by subst hK; exact pg_tup hc h hn hst
theorem pe_fldK {e : Expr} {f : Str} {pos : Pos} {ta : TE} (hK : X.K = K) (he : PE X e ta) (hb : attributeBase e f X.env (eval e X.env) = eval e X.env) : PE X (.Attribute e f pos) (tFld K ta f) := by subst hK; exact pe_fld he hb
theorem pe_revK {e st : Expr} {te : TE} {ts : TO} {pos p2 : Pos} (hK : X.K = K) (he : PE X e te) (hs : PO X (some st) ts) : PE X (.Subscript e (.Slice none none (some st) p2) pos) (tRev K te ts) := by subst hK; exact pe_rev he hs
end
end L3

set_option Elab.async false
set_option linter.all false
set_option maxRecDepth 100000
set_option maxHeartbeats 4000000
namespace L3
open PySem PySem.Spec L2

/-- a thing of which isinstance is known -/
inductive Kd (H : Hp) : V → Prop
  | non : Kd H .non
  | bl (b : Bool) : Kd H (.bl b)
  | int (i : Int) : Kd H (.int i)
  | str (z : Str) (hz : z.length ≤ 1000) : Kd H (.str z)
  | lst {a : Addr} {xs : List V} (e : H a = some (.lst xs)) : Kd H (.ref a)
  | tup {a : Addr} {xs : List V} (e : H a = some (.tup xs)) : Kd H (.ref a)
  | dK {a : Addr} {kvs : List (Key × V)} (e : H a = some (.dK kvs)) : Kd H (.ref a)
theorem Kd.mono {H H' : Hp} {x : V} (s : Same H H') (h : Kd H x) : Kd H' x := by
  cases h with
  | non => exact .non
  | bl b => exact .bl b
  | int i => exact .int i
  | str z hz => exact .str z hz
  | lst e => exact .lst (s _ _ e)
  | tup e => exact .tup (s _ _ e)
  | dK e => exact .dK (s _ _ e)
def isTy (H : Hp) (T : String) : V → Bool
  | .bl _ => T == "bool" || T == "int"
  | .int _ => T == "int"
  | .str _ => T == "str"
  | .ref a => match H a with
    | some (.lst _) => T == "list"
    | some (.tup _) => T == "tuple"
    | some (.dK _) => T == "dict"
    | _ => false
  | _ => false
theorem isi_rd {K : PySem.W.Frag} {T : String} {x : V} {H : Hp} {Q : VK} (hT : T = "int" ∨ T = "bool" ∨ T = "str" ∨ T = "list" ∨ T = "tuple") (h : Kd H x) (q : Q (.bl (isTy H T x)) H) : rIsi K T [x, .ty T] H Q := by
  rcases hT with rfl | rfl | rfl | rfl | rfl
  all_goals
    cases h with
    | non => exact ⟨_, _, _, rfl, .non, rfl, q⟩
    | bl b => exact ⟨_, _, _, rfl, .bl b, rfl, q⟩
    | int i => exact ⟨_, _, _, rfl, .int i, rfl, q⟩
    | str z hz => exact ⟨_, _, _, rfl, .str z, rfl, q⟩
    | lst e => first | exact ⟨_, _, false, rfl, .lst e, rfl, by simpa [isTy, e] using q⟩ | exact ⟨_, _, true, rfl, .lst e, rfl, by simpa [isTy, e] using q⟩
    | tup e => first | exact ⟨_, _, false, rfl, .tup e, rfl, by simpa [isTy, e] using q⟩ | exact ⟨_, _, true, rfl, .tup e, rfl, by simpa [isTy, e] using q⟩
    | dK e => first | exact ⟨_, _, false, rfl, .dK e, rfl, by simpa [isTy, e] using q⟩ | exact ⟨_, _, true, rfl, .dK e, rfl, by simpa [isTy, e] using q⟩

def isLow (c : Nat) : Bool := decide (97 ≤ c ∧ c ≤ 122)
def isNameS (z : Str) : Bool := decide (1 ≤ z.length) && decide (z.length ≤ 8) && z.cps.toList.all isLow
def isNameV : V → Bool
  | .str z => isNameS z
  | _ => false
def isIntV : V → Bool
  | .int _ => true
  | _ => false
def isRoomV (n : Int) : V → Bool
  | .int i => decide (0 ≤ i) && decide (i < n)
  | _ => false
def lstOf (H : Hp) : V → Option (List V)
  | .ref a => match H a with
    | some (.lst xs) => some xs
    | _ => none
  | _ => none
theorem lstOf_ref {H : Hp} {a : Addr} {xs : List V} (h : H a = some (.lst xs)) : lstOf H (.ref a) = some xs := by simp [lstOf, h]
theorem lstOf_same {H H' : Hp} {x : V} (s : Same H H') (k : Kd H x) : lstOf H' x = lstOf H x := by
  cases k with
  | non => rfl
  | bl b => rfl
  | int i => rfl
  | str z hz => rfl
  | lst e => rw [lstOf_ref e, lstOf_ref (s _ _ e)]
  | tup e => simp [lstOf, e, s _ _ e]
  | dK e => simp [lstOf, e, s _ _ e]
def areNames (H : Hp) (x : V) : Bool := match lstOf H x with
  | some xs => xs.all isNameV && decide xs.Nodup
  | none => false
def areRooms (H : Hp) (n : Int) (x : V) : Bool := match lstOf H x with
  | some xs => xs.all (isRoomV n)
  | none => false
def someRooms (H : Hp) (n : Int) (x : V) : Bool := match lstOf H x with
  | some xs => xs.all (isRoomV n) && !xs.isEmpty && decide xs.Nodup
  | none => false
def KdL (H : Hp) (x : V) : Prop := Kd H x ∧ ∀ xs, lstOf H x = some xs → xs.length ≤ 1000 ∧ ∀ y ∈ xs, Kd H y
def KdLL (H : Hp) (x : V) : Prop := Kd H x ∧ ∀ xs, lstOf H x = some xs → xs.length ≤ 1000 ∧ ∀ y ∈ xs, KdL H y
theorem KdL.mono {H H' : Hp} {x : V} (s : Same H H') (h : KdL H x) : KdL H' x :=
  ⟨h.1.mono s, fun xs e => by
    rw [lstOf_same s h.1] at e
    exact ⟨(h.2 xs e).1, fun y hy => ((h.2 xs e).2 y hy).mono s⟩⟩
theorem KdLL.mono {H H' : Hp} {x : V} (s : Same H H') (h : KdLL H x) : KdLL H' x :=
  ⟨h.1.mono s, fun xs e => by
    rw [lstOf_same s h.1] at e
    exact ⟨(h.2 xs e).1, fun y hy => ((h.2 xs e).2 y hy).mono s⟩⟩
theorem areNames_same {H H' : Hp} {x : V} (s : Same H H') (k : Kd H x) : areNames H' x = areNames H x := by unfold areNames; rw [lstOf_same s k]
theorem someRooms_same {H H' : Hp} {x : V} {n : Int} (s : Same H H') (k : Kd H x) : someRooms H' n x = someRooms H n x := by unfold someRooms; rw [lstOf_same s k]
def few3 : Option (List V) → Bool
  | some fs => decide (fs.length ≤ 3)
  | none => false
def makesW (H : Hp) (s w st f : V) : Bool := match lstOf H s, lstOf H w with
  | some ss, some ws => decide (1 ≤ ss.length) && decide (ss.length ≤ 20) && decide (ws.length = ss.length) && ss.all (areNames H) && ws.all (someRooms H ss.length) && (someRooms H ss.length st && (areNames H f && few3 (lstOf H f)))
  | _, _ => false

/-! ### keys -/
theorem kV_ne {a b : Key} : kV a ≠ kV b ↔ a ≠ b := by
  constructor
  · intro h e; exact h (by rw [e])
  · intro h e
    apply h
    cases a <;> cases b <;> simp [kV] at e <;> simp [e]
theorem nodup_kV (ks : List Key) : (ks.map kV).Nodup ↔ ks.Nodup := by
  unfold List.Nodup
  rw [List.pairwise_map]
  exact ⟨fun h => h.imp fun q => kV_ne.mp q, fun h => h.imp fun q => kV_ne.mpr q⟩
theorem keys_names : ∀ {xs : List V}, xs.all isNameV = true → ∃ ks : List Key, xs = ks.map kV
  | [], _ => ⟨[], rfl⟩
  | x :: r, h => by
    rw [List.all_cons, Bool.and_eq_true] at h
    obtain ⟨ks, rfl⟩ := keys_names h.2
    cases x with
    | str z => exact ⟨.inr z :: ks, rfl⟩
    | _ => exact absurd h.1 (by simp [isNameV])
theorem keys_rooms {n : Int} : ∀ {xs : List V}, xs.all (isRoomV n) = true → ∃ ks : List Key, xs = ks.map kV
  | [], _ => ⟨[], rfl⟩
  | x :: r, h => by
    rw [List.all_cons, Bool.and_eq_true] at h
    obtain ⟨ks, rfl⟩ := keys_rooms h.2
    cases x with
    | int z => exact ⟨.inl z :: ks, rfl⟩
    | _ => exact absurd h.1 (by simp [isRoomV])
theorem dec_len {n m : Nat} {ks : List Key} (hm : m = (ks.map kV).length) (h : n = ks.length ↔ ks.Nodup) : decide (V.int (n : Nat) = V.int (m : Nat)) = decide (ks.map kV).Nodup := by
  have e : (V.int (n : Nat) = V.int (m : Nat)) ↔ (ks.map kV).Nodup := by
    rw [nodup_kV, ← h]
    constructor
    · intro q
      have q' : ((n : Nat) : Int) = ((m : Nat) : Int) := V.int.inj q
      rw [List.length_map] at hm
      omega
    · intro q
      rw [List.length_map] at hm
      rw [q, hm]
  exact decide_eq_decide.mpr e
theorem all_map_of {α : Type} {f : α → Bool} : ∀ {xs : List α} {ys : List V}, ys.length = xs.length → (∀ (i : Nat) v x, ys[i]? = some v → xs[i]? = some x → v = .bl (f x)) → ys = (xs.map f).map V.bl
  | [], ys, hl, _ => by simp at hl; subst hl; rfl
  | x :: r, [], hl, _ => by simp at hl
  | x :: r, y :: ys, hl, h => by
    have e := h 0 y x rfl rfl
    subst e
    rw [List.map_cons, List.map_cons, all_map_of (xs := r) (ys := ys) (f := f) (by simpa using hl) fun i v z h1 h2 => h (i + 1) v z (by simpa using h1) (by simpa using h2)]
theorem all_id {α : Type} (f : α → Bool) (xs : List α) : (xs.map f).all id = xs.all f := by
  rw [List.all_map]; rfl
theorem mem_letters (c : Nat) : decide (c ∈ ("abcdefghijklmnopqrstuvwxyz" : Str).cps.toList) = isLow c := by
  have e : ("abcdefghijklmnopqrstuvwxyz" : Str).cps.toList = (List.range 26).map (· + 97) := by decide +kernel
  rw [e]
  unfold isLow
  refine decide_eq_decide.mpr ?_
  rw [List.mem_map]
  constructor
  · rintro ⟨k, hk, rfl⟩
    have := List.mem_range.mp hk
    omega
  · rintro ⟨h1, h2⟩
    exact ⟨c - 97, List.mem_range.mpr (by omega), by omega⟩
theorem isi_f (K : PySem.W.Frag) {T : String} {x : V} {H : Hp} {b : Bool} (hT : T = "int" ∨ T = "bool" ∨ T = "str" ∨ T = "list" ∨ T = "tuple") (h : Kd H x) (hb : isTy H T x = b) : ∃ t, TyOf K H x t ∧ PySem.W.kitOne K t (.type T) = some b := by
  obtain ⟨y, t, c, e, h1, h2, q⟩ := isi_rd (K := K) (Q := fun v _ => v = .bl b) hT h (by rw [hb])
  have e1 : x = y := (List.cons.inj e).1
  have e2 : c = b := V.bl.inj q
  subst e1; subst e2
  exact ⟨t, h1, h2⟩
theorem kd_str {H : Hp} {x : V} (h : Kd H x) : (isTy H "str" x = true ∧ ∃ z, x = .str z ∧ z.length ≤ 1000) ∨ (isTy H "str" x = false ∧ isNameV x = false) := by
  cases h with
  | str z hz => exact .inl ⟨rfl, z, rfl, hz⟩
  | non => exact .inr ⟨rfl, rfl⟩
  | bl b => exact .inr ⟨rfl, rfl⟩
  | int i => exact .inr ⟨rfl, rfl⟩
  | lst e => exact .inr ⟨by simp [isTy, e], rfl⟩
  | tup e => exact .inr ⟨by simp [isTy, e], rfl⟩
  | dK e => exact .inr ⟨by simp [isTy, e], rfl⟩
theorem kd_list {H : Hp} {x : V} (h : Kd H x) : (isTy H "list" x = true ∧ ∃ a xs, x = .ref a ∧ H a = some (.lst xs) ∧ lstOf H x = some xs) ∨ (isTy H "list" x = false ∧ lstOf H x = none) := by
  cases h with
  | str z hz => exact .inr ⟨rfl, rfl⟩
  | non => exact .inr ⟨rfl, rfl⟩
  | bl b => exact .inr ⟨rfl, rfl⟩
  | int i => exact .inr ⟨rfl, rfl⟩
  | lst e => exact .inl ⟨by simp [isTy, e], _, _, rfl, e, lstOf_ref e⟩
  | tup e => exact .inr ⟨by simp [isTy, e], by simp [lstOf, e]⟩
  | dK e => exact .inr ⟨by simp [isTy, e], by simp [lstOf, e]⟩
end L3

set_option Elab.async false
set_option linter.all false
set_option maxRecDepth 100000
set_option maxHeartbeats 4000000
namespace L3
open PySem PySem.Spec L2

/-! ### lists and tuples of texts, of ints, of such -/
def LS (H : Hp) (v : V) (ss : List Str) : Prop := ∃ a, v = .ref a ∧ H a = some (.lst (ss.map V.str))
def LI (H : Hp) (v : V) (ns : List Int) : Prop := ∃ a, v = .ref a ∧ H a = some (.lst (ns.map V.int))
def TS (H : Hp) (v : V) (ss : List Str) : Prop := ∃ a, v = .ref a ∧ H a = some (.tup (ss.map V.str))
def TIn (H : Hp) (v : V) (ns : List Int) : Prop := ∃ a, v = .ref a ∧ H a = some (.tup (ns.map V.int))
def LL {α : Type} (r : Hp → V → α → Prop) (H : Hp) (v : V) (xs : List α) : Prop := ∃ a vs, v = .ref a ∧ H a = some (.lst vs) ∧ vs.length = xs.length ∧ ∀ (i : Nat) v x, vs[i]? = some v → xs[i]? = some x → r H v x
def LT {α : Type} (r : Hp → V → α → Prop) (H : Hp) (v : V) (xs : List α) : Prop := ∃ a vs, v = .ref a ∧ H a = some (.tup vs) ∧ vs.length = xs.length ∧ ∀ (i : Nat) v x, vs[i]? = some v → xs[i]? = some x → r H v x
def Mon {α : Type} (r : Hp → V → α → Prop) : Prop := ∀ H H' v x, Same H H' → r H v x → r H' v x
theorem LS.mono : Mon LS := fun _ _ _ _ s ⟨a, e, h⟩ => ⟨a, e, s _ _ h⟩
theorem LI.mono : Mon LI := fun _ _ _ _ s ⟨a, e, h⟩ => ⟨a, e, s _ _ h⟩
theorem TS.mono : Mon TS := fun _ _ _ _ s ⟨a, e, h⟩ => ⟨a, e, s _ _ h⟩
theorem TIn.mono : Mon TIn := fun _ _ _ _ s ⟨a, e, h⟩ => ⟨a, e, s _ _ h⟩
theorem LL.mono {α : Type} {r : Hp → V → α → Prop} (m : Mon r) : Mon (LL r) := fun _ _ _ _ s ⟨a, vs, e, h, l, q⟩ => ⟨a, vs, e, s _ _ h, l, fun i v x h1 h2 => m _ _ _ _ s (q i v x h1 h2)⟩
theorem LT.mono {α : Type} {r : Hp → V → α → Prop} (m : Mon r) : Mon (LT r) := fun _ _ _ _ s ⟨a, vs, e, h, l, q⟩ => ⟨a, vs, e, s _ _ h, l, fun i v x h1 h2 => m _ _ _ _ s (q i v x h1 h2)⟩
theorem SameX.hide {p : Addr} {H H' : Hp} (s : SameX p H H') : Same (hide p H) (hide p H') := fun b o h =>
  let ⟨n, e⟩ := hide_some h
  hide_mk n (s b o n e)

/-- what a world is made of -/
structure WD where
  signs : List (List Str)
  ways : List (List Int)
  starts : List Int
  fair : List Str
structure PartsV (H : Hp) (s w st f : V) (d : WD) : Prop where
  s : LL LS H s d.signs
  w : LL LI H w d.ways
  st : LI H st d.starts
  f : LS H f d.fair
theorem PartsV.mono {H H' : Hp} {s w st f : V} {d : WD} (e : Same H H') (h : PartsV H s w st f d) : PartsV H' s w st f d :=
  ⟨LL.mono LS.mono _ _ _ _ e h.s, LL.mono LI.mono _ _ _ _ e h.w, LI.mono _ _ _ _ e h.st, LS.mono _ _ _ _ e h.f⟩
structure Good (d : WD) : Prop where
  n1 : 1 ≤ d.signs.length
  n20 : d.signs.length ≤ 20
  wl : d.ways.length = d.signs.length
  sn : ∀ ss ∈ d.signs, ss.Nodup ∧ (∀ x ∈ ss, isNameS x = true) ∧ ss.length ≤ 5
  wn : ∀ ns ∈ d.ways, ns.Nodup ∧ ns ≠ [] ∧ (∀ x ∈ ns, 0 ≤ x ∧ x < d.signs.length) ∧ ns.length ≤ 20
  stn : d.starts.Nodup ∧ d.starts ≠ [] ∧ (∀ x ∈ d.starts, 0 ≤ x ∧ x < d.signs.length) ∧ d.starts.length ≤ 20
  fn : d.fair.Nodup ∧ (∀ x ∈ d.fair, isNameS x = true) ∧ d.fair.length ≤ 3
theorem nodup_map {α β : Type} {f : α → β} (hf : ∀ a b, f a = f b → a = b) {l : List α} (h : l.Nodup) : (l.map f).Nodup := by
  unfold List.Nodup at *
  rw [List.pairwise_map]
  exact h.imp fun q e => q (hf _ _ e)
theorem str_inj (a b : Str) (h : V.str a = V.str b) : a = b := V.str.inj h
theorem int_inj (a b : Int) (h : V.int a = V.int b) : a = b := V.int.inj h
theorem name_short {z : Str} (h : isNameS z = true) : z.length ≤ 8 := by
  unfold isNameS at h
  simp only [Bool.and_eq_true, decide_eq_true_eq] at h
  exact h.1.2
theorem LS.kd {H : Hp} {v : V} {ss : List Str} (h : LS H v ss) (hl : ss.length ≤ 1000) (hn : ∀ x ∈ ss, isNameS x = true) : KdL H v := by
  obtain ⟨a, rfl, e⟩ := h
  refine ⟨.lst e, fun xs q => ?_⟩
  rw [lstOf_ref e] at q
  cases q
  refine ⟨by rw [List.length_map]; exact hl, fun y hy => ?_⟩
  obtain ⟨z, hz, rfl⟩ := List.mem_map.mp hy
  exact .str z (Nat.le_trans (name_short (hn z hz)) (by decide))
theorem LI.kd {H : Hp} {v : V} {ns : List Int} (h : LI H v ns) (hl : ns.length ≤ 1000) : KdL H v := by
  obtain ⟨a, rfl, e⟩ := h
  refine ⟨.lst e, fun xs q => ?_⟩
  rw [lstOf_ref e] at q
  cases q
  refine ⟨by rw [List.length_map]; exact hl, fun y hy => ?_⟩
  obtain ⟨z, hz, rfl⟩ := List.mem_map.mp hy
  exact .int z
theorem LS.names {H : Hp} {v : V} {ss : List Str} (h : LS H v ss) (nd : ss.Nodup) (hn : ∀ x ∈ ss, isNameS x = true) : areNames H v = true := by
  obtain ⟨a, rfl, e⟩ := h
  unfold areNames
  rw [lstOf_ref e]
  simp only [Bool.and_eq_true, decide_eq_true_eq]
  refine ⟨List.all_eq_true.mpr fun y hy => ?_, nodup_map str_inj nd⟩
  obtain ⟨z, hz, rfl⟩ := List.mem_map.mp hy
  exact hn z hz
theorem LI.rooms {H : Hp} {v : V} {ns : List Int} {n : Nat} (h : LI H v ns) (nd : ns.Nodup) (ne : ns ≠ []) (hn : ∀ x ∈ ns, 0 ≤ x ∧ x < (n : Int)) : someRooms H n v = true := by
  obtain ⟨a, rfl, e⟩ := h
  unfold someRooms
  rw [lstOf_ref e]
  simp only [Bool.and_eq_true, decide_eq_true_eq]
  refine ⟨⟨List.all_eq_true.mpr fun y hy => ?_, ?_⟩, nodup_map int_inj nd⟩
  · obtain ⟨z, hz, rfl⟩ := List.mem_map.mp hy
    have := hn z hz
    simp [isRoomV, this.1, this.2]
  · cases ns with
    | nil => exact absurd rfl ne
    | cons y r => rfl
theorem LL.kd {α : Type} {r : Hp → V → α → Prop} {H : Hp} {v : V} {xs : List α} (h : LL r H v xs) (hl : xs.length ≤ 1000) (q : ∀ v x, r H v x → x ∈ xs → KdL H v) : KdLL H v := by
  obtain ⟨a, vs, rfl, e, l, k⟩ := h
  refine ⟨.lst e, fun ys z => ?_⟩
  rw [lstOf_ref e] at z
  cases z
  refine ⟨by omega, fun y hy => ?_⟩
  obtain ⟨i, hi, rfl⟩ := List.getElem_of_mem hy
  have hx : i < xs.length := by omega
  exact q _ xs[i] (k i _ _ (List.getElem?_eq_getElem hi) (List.getElem?_eq_getElem hx)) (List.getElem_mem hx)
theorem LL.all {α : Type} {r : Hp → V → α → Prop} {H : Hp} {vs : List V} {xs : List α} {p : V → Bool} (l : vs.length = xs.length) (k : ∀ (i : Nat) v x, vs[i]? = some v → xs[i]? = some x → r H v x) (q : ∀ v x, r H v x → x ∈ xs → p v = true) : vs.all p = true := by
  refine List.all_eq_true.mpr fun y hy => ?_
  obtain ⟨i, hi, rfl⟩ := List.getElem_of_mem hy
  have hx : i < xs.length := by omega
  exact q _ xs[i] (k i _ _ (List.getElem?_eq_getElem hi) (List.getElem?_eq_getElem hx)) (List.getElem_mem hx)
theorem PartsV.kd {H : Hp} {s w st f : V} {d : WD} (h : PartsV H s w st f d) (g : Good d) : KdLL H s ∧ KdLL H w ∧ KdL H st ∧ KdL H f := by
  refine ⟨h.s.kd (by have := g.n20; omega) fun v x r m => ?_, h.w.kd (by have := g.n20; have := g.wl; omega) fun v x r m => ?_, h.st.kd (by have := g.stn.2.2.2; omega), h.f.kd (by have := g.fn.2.2; omega) g.fn.2.1⟩
  · have := g.sn x m
    exact r.kd (by omega) this.2.1
  · have := g.wn x m
    exact r.kd (by omega)
theorem PartsV.makes {H : Hp} {s w st f : V} {d : WD} (h : PartsV H s w st f d) (g : Good d) : makesW H s w st f = true := by
  have hst := h.st.rooms (n := d.signs.length) g.stn.1 g.stn.2.1 g.stn.2.2.1
  have hf := h.f.names g.fn.1 g.fn.2.1
  obtain ⟨a, vs, rfl, e, l, k⟩ := h.s
  obtain ⟨b, ws, rfl, e2, l2, k2⟩ := h.w
  obtain ⟨c, rfl, e3⟩ := h.f
  unfold makesW
  rw [lstOf_ref e, lstOf_ref e2, lstOf_ref e3]
  dsimp only
  rw [l]
  have h1 : vs.all (areNames H) = true := LL.all l k fun v x r m => r.names (g.sn x m).1 (g.sn x m).2.1
  have h2 : ws.all (someRooms H d.signs.length) = true := LL.all l2 k2 fun v x r m => r.rooms (g.wn x m).1 (g.wn x m).2.1 (g.wn x m).2.2.1
  have := g.n1
  have := g.n20
  have := g.wl
  have := g.fn.2.2
  simp only [few3, Bool.and_eq_true, decide_eq_true_eq, List.length_map]
  refine ⟨⟨⟨⟨⟨by omega, by omega⟩, by omega⟩, h1⟩, h2⟩, hst, hf, by omega⟩

/-! ### a world as an object -/
def wfs (t1 t2 t3 t4 : V) : List (Str × V) := [("room_signs", t1), ("room_ways", t2), ("start_rooms", t3), ("fair_names", t4)]
theorem n12 : ¬ (("room_signs" : Str) = "room_ways") := by decide +kernel
theorem n13 : ¬ (("room_signs" : Str) = "start_rooms") := by decide +kernel
theorem n14 : ¬ (("room_signs" : Str) = "fair_names") := by decide +kernel
theorem n23 : ¬ (("room_ways" : Str) = "start_rooms") := by decide +kernel
theorem n24 : ¬ (("room_ways" : Str) = "fair_names") := by decide +kernel
theorem n34 : ¬ (("start_rooms" : Str) = "fair_names") := by decide +kernel
theorem put1 (t1 : V) : putF "room_signs" t1 [] = ([("room_signs", t1)] : List (Str × V)) := rfl
theorem put2 (t1 t2 : V) : putF "room_ways" t2 ([("room_signs", t1)] : List (Str × V)) = ([("room_signs", t1), ("room_ways", t2)] : List (Str × V)) := by simp only [putF, if_neg n12]
theorem put3 (t1 t2 t3 : V) : putF "start_rooms" t3 ([("room_signs", t1), ("room_ways", t2)] : List (Str × V)) = ([("room_signs", t1), ("room_ways", t2), ("start_rooms", t3)] : List (Str × V)) := by simp only [putF, if_neg n13, if_neg n23]
theorem put4 (t1 t2 t3 t4 : V) : putF "fair_names" t4 ([("room_signs", t1), ("room_ways", t2), ("start_rooms", t3)] : List (Str × V)) = wfs t1 t2 t3 t4 := by simp only [putF, if_neg n14, if_neg n24, if_neg n34, wfs]
structure WorldAt (C : Addr) (H : Hp) (p : Addr) (d : WD) : Prop where
  ex : ∃ dx t1 t2 t3 t4, H p = some (.ins C dx (wfs t1 t2 t3 t4)) ∧ LT TS H t1 (d.signs.map sortS) ∧ LT TIn H t2 (d.ways.map sortI) ∧ TIn H t3 (sortI d.starts) ∧ TS H t4 d.fair
theorem WorldAt.mono {C : Addr} {H H' : Hp} {p : Addr} {d : WD} (s : Same H H') (h : WorldAt C H p d) : WorldAt C H' p d := by
  obtain ⟨dx, t1, t2, t3, t4, e, h1, h2, h3, h4⟩ := h.ex
  exact ⟨dx, t1, t2, t3, t4, s _ _ e, LT.mono TS.mono _ _ _ _ s h1, LT.mono TIn.mono _ _ _ _ s h2, TIn.mono _ _ _ _ s h3, TS.mono _ _ _ _ s h4⟩
theorem beqF {a b : Str} (h : ¬ a = b) : (a == b) = false := by simpa using h
theorem lk_signs (t1 t2 t3 t4 : V) : (wfs t1 t2 t3 t4).lookup ("room_signs" : Str) = some t1 := by simp [wfs, List.lookup_cons]
theorem lk_no (t1 t2 t3 t4 : V) {m : Str} (h1 : ¬ m = "room_signs") (h2 : ¬ m = "room_ways") (h3 : ¬ m = "start_rooms") (h4 : ¬ m = "fair_names") : (wfs t1 t2 t3 t4).lookup m = none := by simp [wfs, List.lookup_cons, beqF h1, beqF h2, beqF h3, beqF h4]
theorem New.hidden {H H' : Hp} {p : Addr} {o : HO} (h : H p = some o) : Same (New H H') (hide p H') := fun b u e =>
  let ⟨h1, h2⟩ := New.of e
  hide_mk (fun z => by subst z; rw [h] at h1; cases h1) h2
theorem LS.hid {H : Hp} {p C dx : Addr} {fs : List (Str × V)} {v : V} {ss : List Str} (hp : H p = some (.ins C dx fs)) (h : LS H v ss) : LS (hide p H) v ss := by
  obtain ⟨a, rfl, e⟩ := h
  exact ⟨a, rfl, hide_mk (ne_of e hp (by intro z; cases z)) e⟩
theorem LI.hid {H : Hp} {p C dx : Addr} {fs : List (Str × V)} {v : V} {ss : List Int} (hp : H p = some (.ins C dx fs)) (h : LI H v ss) : LI (hide p H) v ss := by
  obtain ⟨a, rfl, e⟩ := h
  exact ⟨a, rfl, hide_mk (ne_of e hp (by intro z; cases z)) e⟩
theorem LL.hid {α : Type} {r : Hp → V → α → Prop} {H : Hp} {p C dx : Addr} {fs : List (Str × V)} {v : V} {xs : List α} (hp : H p = some (.ins C dx fs)) (m : ∀ v x, r H v x → r (hide p H) v x) (h : LL r H v xs) : LL r (hide p H) v xs := by
  obtain ⟨a, vs, rfl, e, l, q⟩ := h
  exact ⟨a, vs, rfl, hide_mk (ne_of e hp (by intro z; cases z)) e, l, fun i v x h1 h2 => m _ _ (q i v x h1 h2)⟩
theorem PartsV.hid {H : Hp} {p C dx : Addr} {fs : List (Str × V)} {s w st f : V} {d : WD} (hp : H p = some (.ins C dx fs)) (h : PartsV H s w st f d) : PartsV (hide p H) s w st f d :=
  ⟨h.s.hid hp fun _ _ r => r.hid hp, h.w.hid hp fun _ _ r => r.hid hp, h.st.hid hp, h.f.hid hp⟩
theorem lt_of_map {α β : Type} {r : Hp → V → β → Prop} {H : Hp} {f : α → β} {a : Addr} {ys : List V} {xs : List α} (h : H a = some (.tup ys)) (l : ys.length = xs.length) (q : ∀ (i : Nat) v, ys[i]? = some v → ∀ x, xs[i]? = some x → r H v (f x)) : LT r H (.ref a) (xs.map f) := by
  refine ⟨a, ys, rfl, h, by rw [List.length_map, l], fun i v x h1 h2 => ?_⟩
  rw [List.getElem?_map] at h2
  cases e : xs[i]? with
  | none => rw [e] at h2; cases h2
  | some y =>
    rw [e] at h2
    cases h2
    exact q i v h1 y e
end L3

set_option Elab.async false
set_option linter.all false
set_option maxRecDepth 100000
set_option maxHeartbeats 4000000
namespace L3
open PySem PySem.Spec L2

/-! ### things within things as data, for == -/
def dI (ns : List Int) : PyData := .list (ns.map PyData.int)
def dS (ss : List Str) : PyData := .list (ss.map PyData.str)
def dL {α : Type} (f : α → PyData) (xs : List α) : PyData := .list (xs.map f)
def dW (d : WD) : PyData := .tuple [dL dS d.signs, dL dI d.ways, dI d.starts, dS d.fair]
def Fine (n : Nat) (d : PyData) : Prop := d.canLay0 = true ∧ d.depth ≤ n
theorem fineAll {α : Type} {f : α → PyData} {n : Nat} {xs : List α} (h : ∀ x ∈ xs, Fine n (f x)) : PyData.canLayAll0 (xs.map f) = true ∧ PyData.depthAll (xs.map f) ≤ n := by
  induction xs with
  | nil => exact ⟨by simp [PyData.canLayAll0], by simp [PyData.depthAll]⟩
  | cons x r ih =>
    obtain ⟨a, b⟩ := ih fun y hy => h y (List.mem_cons_of_mem _ hy)
    obtain ⟨c, d⟩ := h x List.mem_cons_self
    rw [List.map_cons]
    exact ⟨by rw [PyData.canLayAll0, c, a]; rfl, by rw [PyData.depthAll]; exact Nat.max_le.mpr ⟨d, b⟩⟩
theorem fineL {α : Type} {f : α → PyData} {n : Nat} {xs : List α} (h : ∀ x ∈ xs, Fine n (f x)) : Fine (n + 1) (.list (xs.map f)) := by
  obtain ⟨a, b⟩ := fineAll h
  exact ⟨by rw [PyData.canLay0]; exact a, by rw [PyData.depth]; omega⟩
theorem fineI (ns : List Int) : Fine 1 (dI ns) := fineL fun x _ => ⟨by simp [PyData.canLay0], by simp [PyData.depth]⟩
theorem strOk_name {z : Str} (h : isNameS z = true) : PyData.strOk z = true := by
  unfold isNameS at h
  rw [Bool.and_eq_true] at h
  have h2 := List.all_eq_true.mp h.2
  unfold PyData.strOk
  rw [Array.all_eq_true_iff_forall_mem]
  intro x hx
  have := h2 x (Array.mem_toList_iff.mpr hx)
  unfold isLow at this
  have := of_decide_eq_true this
  exact decide_eq_true (by omega)
theorem fineS {ss : List Str} (h : ∀ x ∈ ss, isNameS x = true) : Fine 1 (dS ss) := fineL fun x hx => ⟨by simp [PyData.canLay0, strOk_name (h x hx)], by simp [PyData.depth]⟩
theorem fineT4 {a b c d : PyData} {n : Nat} (ha : Fine n a) (hb : Fine n b) (hc : Fine n c) (hd : Fine n d) : Fine (n + 1) (.tuple [a, b, c, d]) := by
  refine ⟨by simp [PyData.canLay0, PyData.canLayAll0, ha.1, hb.1, hc.1, hd.1], ?_⟩
  have := ha.2; have := hb.2; have := hc.2; have := hd.2
  simp only [PyData.depth, PyData.depthAll]
  omega
theorem Fine.up {n m : Nat} {d : PyData} (h : Fine n d) (l : n ≤ m) : Fine m d := ⟨h.1, Nat.le_trans h.2 l⟩
theorem fineW {d : WD} (h1 : ∀ ss ∈ d.signs, ∀ x ∈ ss, isNameS x = true) (h2 : ∀ x ∈ d.fair, isNameS x = true) : Fine 3 (dW d) :=
  fineT4 (fineL fun ss hs => fineS (h1 ss hs)) (fineL fun ns _ => fineI ns) ((fineI _).up (by decide)) ((fineS h2).up (by decide))
section
variable {K : PySem.W.Frag} {H : Hp}
theorem dpAll_map {α : Type} {g : α → V} {f : α → PyData} (h : ∀ x, Dp K H (g x) (f x)) : ∀ xs : List α, DpAll K H (xs.map g) (xs.map f)
  | [] => .nil
  | x :: r => .cons (h x) (dpAll_map h r)
theorem dpAll_of {α : Type} {r : Hp → V → α → Prop} {f : α → PyData} (h : ∀ v x, r H v x → Dp K H v (f x)) : ∀ (vs : List V) (xs : List α), vs.length = xs.length → (∀ (i : Nat) v x, vs[i]? = some v → xs[i]? = some x → r H v x) → DpAll K H vs (xs.map f)
  | [], [], _, _ => .nil
  | [], x :: xs, l, _ => by simp at l
  | v :: vs, [], l, _ => by simp at l
  | v :: vs, x :: xs, l, q => .cons (h v x (q 0 v x rfl rfl)) (dpAll_of h vs xs (by simpa using l) fun i v x h1 h2 => q (i + 1) v x (by simpa using h1) (by simpa using h2))
theorem LI.dp {v : V} {ns : List Int} (h : LI H v ns) : Dp K H v (dI ns) := by
  obtain ⟨a, rfl, e⟩ := h
  exact .lst (SqL.of e) (dpAll_map (fun x => .int x) ns)
theorem LS.dp {v : V} {ss : List Str} (h : LS H v ss) : Dp K H v (dS ss) := by
  obtain ⟨a, rfl, e⟩ := h
  exact .lst (SqL.of e) (dpAll_map (fun x => .str x) ss)
theorem LL.dp {α : Type} {r : Hp → V → α → Prop} {f : α → PyData} {v : V} {xs : List α} (q : ∀ v x, r H v x → Dp K H v (f x)) (h : LL r H v xs) : Dp K H v (dL f xs) := by
  obtain ⟨a, vs, rfl, e, l, k⟩ := h
  exact .lst (SqL.of e) (dpAll_of q vs xs l k)
theorem PartsV.dp {a : Addr} {s w st f : V} {d : WD} (e : H a = some (.tup [s, w, st, f])) (h : PartsV H s w st f d) : Dp K H (.ref a) (dW d) :=
  .tup (SqT.of e) (.cons (h.s.dp fun _ _ r => r.dp) (.cons (h.w.dp fun _ _ r => r.dp) (.cons h.st.dp (.cons h.f.dp .nil))))
end
/-- a list of ints == []: where it is not so, there is one -/
theorem eqD_nil {K : PySem.W.Frag} {H : Hp} {a b : Addr} {ns : List Int} {Q : VK} (h1 : H a = some (.lst (ns.map V.int))) (h2 : H b = some (.lst [])) (q : ∀ c : Bool, (c = true ↔ ns = []) → Q (.bl c) H) : rEqD K false (.ref a) (.ref b) H Q := by
  refine ⟨dI ns, .list [], LI.dp ⟨a, rfl, h1⟩, .lst (SqL.of h2) .nil, (fineI ns).1, by simp [PyData.canLay0, PyData.canLayAll0], Nat.le_trans (fineI ns).2 (by decide), ?_⟩
  refine q _ ?_
  cases ns with
  | nil => simp [dI, PyData.eqv, PyData.eqvAll]
  | cons x r => simp [dI, PyData.eqv, PyData.eqvAll]
end L3

set_option Elab.async false
set_option linter.all false
set_option maxRecDepth 100000
set_option maxHeartbeats 4000000
namespace L3
open PySem PySem.Spec L2
theorem SameX.updN {p D : Addr} {H H' : Hp} {o : HO} (s : SameX p H H') (h : H D = none) : SameX p H (L2.upd H' D o) := fun b u n e => by
  rw [upd_ne (ne_of_none e h)]
  exact s b u n e
theorem SameX.free {p D : Addr} {H H' : Hp} (s : SameX p H H') (np : D ≠ p) (h : H' D = none) : H D = none := by
  cases e : H D with
  | none => rfl
  | some o => rw [s D o np e] at h; cases h
theorem letter_at (n : Int) : ∃ c, atI ("abcdefghijklmnopqrstuvwxyz" : Str).cps.toList (n % 26) = some c ∧ isLow c = true := by
  have h0 := Int.emod_nonneg n (show (26 : Int) ≠ 0 by decide)
  have h1 := Int.emod_lt_of_pos n (show (0 : Int) < 26 by decide)
  obtain ⟨j, e⟩ := Int.eq_ofNat_of_zero_le h0
  rw [e] at h1 ⊢
  have hl : ("abcdefghijklmnopqrstuvwxyz" : Str).cps.toList.length = 26 := by decide +kernel
  have hj : j < ("abcdefghijklmnopqrstuvwxyz" : Str).cps.toList.length := by rw [hl]; omega
  refine ⟨_, atI_nat (List.getElem?_eq_getElem hj), ?_⟩
  rw [← mem_letters]
  exact decide_eq_true (List.getElem_mem hj)
theorem str_push_low {z : Str} {c : Nat} (h : z.cps.toList.all isLow = true) (hc : isLow c = true) : (z ++ (⟨#[c]⟩ : Str)).cps.toList.all isLow = true := by
  have e : (z ++ (⟨#[c]⟩ : Str)).cps.toList = z.cps.toList ++ [c] := by
    show (z.cps ++ #[c]).toList = _
    simp
  rw [e, List.all_append, h]
  simp [hc]
theorem str_push_len (z : Str) (c : Nat) : (z ++ (⟨#[c]⟩ : Str)).length = z.length + 1 := by
  show (z.cps ++ #[c]).size = z.cps.size + 1
  simp
theorem name_of {z : Str} (h1 : 1 ≤ z.length) (h2 : z.length ≤ 8) (h : z.cps.toList.all isLow = true) : isNameS z = true := by
  unfold isNameS
  simp [h1, h2, h]
theorem inV_str {z : Str} {ss : List Str} : inV (.str z) (ss.map V.str) = true ↔ z ∈ ss := by
  unfold inV
  rw [List.any_map, List.any_eq_true]
  constructor
  · rintro ⟨y, hy, e⟩
    have e' : (y == z) = true := e
    rw [beq_iff_eq] at e'
    exact e' ▸ hy
  · intro hz
    exact ⟨z, hz, by show (z == z) = true; simp⟩
theorem flat_strs (ss : List Str) : (ss.map V.str).all flatV = true := by
  rw [List.all_map]
  exact List.all_eq_true.mpr fun _ _ => rfl
theorem nodup_push {α : Type} {l : List α} {x : α} (h : l.Nodup) (n : x ∉ l) : (l ++ [x]).Nodup := by
  rw [List.nodup_append]
  refine ⟨h, by simp, ?_⟩
  intro a ha b hb e
  have : b = x := by simpa using hb
  subst this; subst e
  exact n ha
end L3
namespace L3
open PySem PySem.Spec L2
theorem at_mod {ts : List V} (n : Int) (h : ts ≠ []) : (0 : Int) < ts.length ∧ ∃ v, atI ts (n % (ts.length : Int)) = some v ∧ v ∈ ts := by
  have hl := List.length_pos_iff.mpr h
  have hp : (0 : Int) < ts.length := by omega
  refine ⟨hp, ?_⟩
  have h0 := Int.emod_nonneg n (Int.ne_of_gt hp)
  have h1 := Int.emod_lt_of_pos n hp
  obtain ⟨j, e⟩ := Int.eq_ofNat_of_zero_le h0
  rw [e] at h1 ⊢
  have hj : j < ts.length := by omega
  exact ⟨_, atI_nat (List.getElem?_eq_getElem hj), List.getElem_mem hj⟩
theorem updK {H : Hp} {p F : Addr} {o o' : HO} (h : H p = some o) (n : p ≠ F) : upd H F o' p = some o := by rw [upd_ne n]; exact h
theorem ne_new {H : Hp} {p D : Addr} {o : HO} (h : H p = some o) (n : H D = none) : p ≠ D := fun e => by rw [e, n] at h; cases h
theorem take_push {α : Type} {ys ts : List α} {i : Nat} {v : α} (h : ys.Sublist (ts.take i)) (e : ts[i]? = some v) : (ys ++ [v]).Sublist (ts.take (i + 1)) := by
  rw [List.take_add_one, e]
  exact h.append (List.Sublist.refl _)
theorem take_keep {α : Type} {ys ts : List α} {i : Nat} (h : ys.Sublist (ts.take i)) : ys.Sublist (ts.take (i + 1)) := by
  rw [List.take_add_one]
  exact h.trans (List.sublist_append_left _ _)
end L3
namespace L3
theorem nodup_rev {α : Type} {l : List α} (h : l.Nodup) : l.reverse.Nodup := by
  unfold List.Nodup at *
  rw [List.pairwise_reverse]
  exact h.imp fun q => Ne.symm q
end L3
namespace L3
open PySem PySem.Spec L2
theorem New.monoX {p : Addr} {H H1 H2 H3 : Hp} {o' : HO} (a : SameX p H H1) (hp : H1 p = some o') (b : SameX p H2 H3) : Same (New H1 H2) (New H H3) := fun c o h =>
  let ⟨h1, h2⟩ := New.of h
  have nc : c ≠ p := fun e => by rw [e, hp] at h1; cases h1
  New.mk (a.free nc h1) (b c o nc h2)
/-- [f(x) for x in xs], where f also draws from the list at p -/
theorem comp_mapX {K : PySem.W.Frag} {a D p : Addr} {ns : List Int} {xs : List V} {te : TE} {τ : St} {H0 : Hp} {Q : VK} (hD : H0 D = none) (hp : H0 p = some (.lst (ns.map V.int))) (ha : H0 a = some (.lst xs)) (nap : a ≠ p) (hz : xs.length ≤ sizeLine) (R : Nat → V → Hp → Prop) (mono : ∀ i v H H', Same H H' → R i v H → R i v H')
    (step : ∀ i x H (ns' : List Int) (N : V → Hp → Prop), xs[i]? = some x → SameX p H0 H → H p = some (.lst (ns'.map V.int)) → (∀ v H4 (ns4 : List Int), SameX p H H4 → H4 p = some (.lst (ns4.map V.int)) → R i v (New H H4) → N v H4) → te (some x :: τ) H N)
    (fin : ∀ H' ys (ns' : List Int), H' D = some (.lst ys) → SameX p H0 H' → H' p = some (.lst (ns'.map V.int)) → ys.length = xs.length → (∀ i v, ys[i]? = some v → R i v (New H0 H')) → Q (.ref D) H') :
    CompW (Itl K a) D (gName 0) tTrue te (none :: τ) H0 Q := by
  have npD : p ≠ D := ne_new hp hD
  refine comp_gen (n := xs.length) (fun i σ H => ∃ (z : Option V) (ys : List V) (ns' : List Int), σ = z :: τ ∧ H D = some (.lst ys) ∧ ys.length = i ∧ SameX p H0 H ∧ H p = some (.lst (ns'.map V.int)) ∧ ∀ j v, ys[j]? = some v → R j v (hide D (New H0 H))) ?_ ?_ ?_ ?_ ?_
  · exact ⟨none, [], ns, rfl, upd_same, rfl, Same.x (same_upd hD), updK hp npD, fun j v e => by simp at e⟩
  · rintro i σ H hi ⟨z, ys, ns', rfl, _, _, s, _, _⟩
    exact ⟨xs, xs[i], SqL.of (s _ _ nap ha), by simp [hi]⟩
  · rintro σ H ⟨z, ys, ns', rfl, _, _, s, _, _⟩
    exact ⟨xs, SqL.of (s _ _ nap ha), Nat.le_refl _⟩
  · rintro i x σ H H2 hi ⟨z, ys, ns', rfl, hy, hl, s, hp2, r⟩ ⟨rfl, hx⟩ N N0 hN hN0
    show te (some x :: τ) H2 _
    refine step i x H2 ns' _ (hx xs (SqL.of (s _ _ nap ha))) s hp2 fun v H4 ns4 s4 hp4 r4 => ?_
    refine hN v _ H4 ys (s4 _ _ (Ne.symm npD) hy) (by omega) ⟨some x, ys ++ [v], ns4, rfl, upd_same, by rw [List.length_append, List.length_singleton, hl], ?_, updK hp4 npD, ?_⟩
    · exact (s.trans s4).updN hD
    · intro j w e
      by_cases hj : j < ys.length
      · rw [List.getElem?_append_left hj] at e
        refine mono j w _ _ ?_ (r j w e)
        intro b o hb
        obtain ⟨nb, hb⟩ := hide_some hb
        obtain ⟨h1, h2⟩ := New.of hb
        have nbp : b ≠ p := fun e => by rw [e, hp] at h1; cases h1
        exact hide_mk nb (New.mk h1 (by rw [upd_ne nb]; exact s4 _ _ nbp h2))
      · have ej : j = ys.length := by
          have := (List.getElem?_eq_some_iff.mp e).1
          rw [List.length_append, List.length_singleton] at this
          omega
        subst ej
        simp at e
        subst e
        rw [hl]
        refine mono i v _ _ ?_ r4
        intro b o hb
        obtain ⟨h1, h2⟩ := New.of hb
        have nb : b ≠ D := fun z => by subst z; rw [hy] at h1; cases h1
        have nbp : b ≠ p := fun e => by rw [e, hp2] at h1; cases h1
        exact hide_mk nb (New.mk (s.free nbp h1) (by rw [upd_ne nb]; exact h2))
  · rintro σ H ⟨z, ys, ns', rfl, hy, hl, s, hp2, r⟩
    exact fin H ys ns' hy s hp2 hl fun i v e => mono i v _ _ hide_sub (r i v e)
theorem choose_list {α : Type} {P : V → α → Prop} : ∀ {ys : List V}, (∀ (i : Nat) v, ys[i]? = some v → ∃ x, P v x) → ∃ xs : List α, ys.length = xs.length ∧ ∀ (i : Nat) v x, ys[i]? = some v → xs[i]? = some x → P v x
  | [], _ => ⟨[], rfl, fun i v x h => by simp at h⟩
  | y :: r, h => by
    obtain ⟨x, hx⟩ := h 0 y rfl
    obtain ⟨xs, l, q⟩ := choose_list (ys := r) fun i v e => h (i + 1) v (by simpa using e)
    refine ⟨x :: xs, by simp [l], fun i v z h1 h2 => ?_⟩
    cases i with
    | zero =>
      simp at h1 h2
      subst h1; subst h2
      exact hx
    | succ i => exact q i v z (by simpa using h1) (by simpa using h2)
theorem unmap {α : Type} {f : α → V} {ss : List α} : ∀ {ys : List V}, (∀ y ∈ ys, y ∈ ss.map f) → ∃ zs : List α, ys = zs.map f ∧ ∀ z ∈ zs, z ∈ ss
  | [], _ => ⟨[], rfl, fun z h => by cases h⟩
  | y :: r, h => by
    obtain ⟨x, hx, e⟩ := List.mem_map.mp (h y List.mem_cons_self)
    obtain ⟨zs, e2, q⟩ := unmap (ys := r) fun z hz => h z (List.mem_cons_of_mem _ hz)
    refine ⟨x :: zs, by rw [List.map_cons, e, ← e2], fun z hz => ?_⟩
    rcases List.mem_cons.mp hz with rfl | hz
    · exact hx
    · exact q z hz
theorem nodup_unmap {α β : Type} {f : α → β} {l : List α} (h : (l.map f).Nodup) : l.Nodup := by
  unfold List.Nodup at *
  rw [List.pairwise_map] at h
  exact h.imp fun q e => q (congrArg f e)
theorem upTo_facts {j : Int} (h1 : 1 ≤ j) (h2 : j ≤ 20) : (upTo j).Nodup ∧ 1 ≤ (upTo j).length ∧ (upTo j).length ≤ 20 ∧ ∀ x ∈ upTo j, 0 ≤ x ∧ x < (upTo j).length := by
  have hl : (upTo j).length = j.toNat := by unfold upTo; rw [List.length_map, List.length_range]
  refine ⟨nodup_map (fun a b e => by omega) List.nodup_range, by omega, by omega, fun x hx => ?_⟩
  unfold upTo at hx
  obtain ⟨k, hk, rfl⟩ := List.mem_map.mp hx
  have := List.mem_range.mp hk
  omega
theorem cut3 (xs : List V) : cutV xs none (some 3) = xs.take 3 := by
  unfold cutV
  have e1 : HT.sIx xs.length 0 none = 0 := rfl
  rw [e1]
  simp only [List.drop_zero, Nat.sub_zero]
  by_cases h : 3 ≤ xs.length
  · have e2 : HT.sIx xs.length xs.length (some 3) = 3 := by unfold HT.sIx; simp; omega
    rw [e2]
  · have e2 : HT.sIx xs.length xs.length (some 3) = xs.length := by unfold HT.sIx; simp; omega
    rw [e2, List.take_of_length_le (by omega), List.take_of_length_le (by omega)]
end L3

set_option Elab.async false
set_option linter.all false
set_option maxRecDepth 100000
set_option maxHeartbeats 4000000
namespace L3
open PySem PySem.Spec L2
def sortW (d : WD) : WD := ⟨d.signs.map sortS, d.ways.map sortI, sortI d.starts, d.fair⟩
theorem WorldAt.at {C : Addr} {H : Hp} {p : Addr} {d : WD} (h : WorldAt C H p d) {m : Str} (h1 : ¬ m = "room_signs") (h2 : ¬ m = "room_ways") (h3 : ¬ m = "start_rooms") (h4 : ¬ m = "fair_names") : ∃ dx fs, H p = some (.ins C dx fs) ∧ fs.lookup m = none := by
  obtain ⟨dx, t1, t2, t3, t4, e, _⟩ := h.ex
  exact ⟨dx, _, e, lk_no _ _ _ _ h1 h2 h3 h4⟩
theorem at_many {C : Addr} {H : Hp} {p : Addr} {d : WD} (h : WorldAt C H p d) : ∃ dx fs, H p = some (.ins C dx fs) ∧ fs.lookup ("many" : Str) = none := h.at (by decide +kernel) (by decide +kernel) (by decide +kernel) (by decide +kernel)
/-! ### some lists may change -/
def Lk (n : Nat) (G H H' : Hp) : Prop := (∀ b xs, G b = some (.lst xs) → ∃ ys : List V, H' b = some (.lst ys) ∧ ys.length ≤ xs.length + n) ∧ ∀ b o, (∀ xs, G b ≠ some (.lst xs)) → H b = some o → H' b = some o
theorem Lk.first {G H : Hp} (s : Same G H) : Lk 0 G H H := ⟨fun b xs e => ⟨xs, s _ _ e, Nat.le_refl _⟩, fun _ _ _ e => e⟩
theorem Lk.new {n : Nat} {G H H' : Hp} {L : Addr} {o' : HO} (h : Lk n G H H') (hL : H' L = none) : Lk n G H (upd H' L o') := by
  refine ⟨fun b zs e => ?_, fun b o g e => ?_⟩
  · obtain ⟨y, e1, e2⟩ := h.1 b zs e
    exact ⟨y, by rw [upd_ne (ne_of_none e1 hL)]; exact e1, e2⟩
  · have := h.2 b o g e
    rw [upd_ne (ne_of_none this hL)]
    exact this
theorem LS.at {G : Hp} {v : V} {ss : List Str} (h : LS G v ss) : ∃ c ys, v = .ref c ∧ G c = some (.lst ys) := by
  obtain ⟨c, e, h⟩ := h
  exact ⟨c, _, e, h⟩
theorem LI.at {G : Hp} {v : V} {ss : List Int} (h : LI G v ss) : ∃ c ys, v = .ref c ∧ G c = some (.lst ys) := by
  obtain ⟨c, e, h⟩ := h
  exact ⟨c, _, e, h⟩
theorem WorldAt.keep {C : Addr} {H H' : Hp} {p : Addr} {d : WD} (k : ∀ b o, (∀ xs, o ≠ .lst xs) → H b = some o → H' b = some o) (h : WorldAt C H p d) : WorldAt C H' p d := by
  have kt : ∀ b xs, H b = some (.tup xs) → H' b = some (.tup xs) := fun b xs e => k b _ (fun _ z => by cases z) e
  have ks : ∀ v x, TS H v x → TS H' v x := fun v x ⟨a, e, h⟩ => ⟨a, e, kt _ _ h⟩
  have ki : ∀ v x, TIn H v x → TIn H' v x := fun v x ⟨a, e, h⟩ => ⟨a, e, kt _ _ h⟩
  obtain ⟨dx, t1, t2, t3, t4, e, ⟨a1, w1, f1, g1, l1, q1⟩, ⟨a2, w2, f2, g2, l2, q2⟩, h3, h4⟩ := h.ex
  exact ⟨dx, t1, t2, t3, t4, k _ _ (fun _ z => by cases z) e, ⟨a1, w1, f1, kt _ _ g1, l1, fun i v x r1 r2 => ks _ _ (q1 i v x r1 r2)⟩, ⟨a2, w2, f2, kt _ _ g2, l2, fun i v x r1 r2 => ki _ _ (q2 i v x r1 r2)⟩, ki _ _ h3, ks _ _ h4⟩
theorem LL.two {α : Type} {r : Hp → V → α → Prop} {H : Hp} {a : Addr} {v w : V} {x y : α} (h : H a = some (.lst [v, w])) (h1 : r H v x) (h2 : r H w y) : LL r H (.ref a) [x, y] := by
  refine ⟨a, [v, w], rfl, h, rfl, fun i u z e1 e2 => ?_⟩
  match i with
  | 0 => cases e1; cases e2; exact h1
  | 1 => cases e1; cases e2; exact h2
  | n + 2 => simp at e1
theorem Good.names {d : WD} (g : Good d) : Fine 3 (dW d) := fineW (fun ss h => (g.sn ss h).2.1) g.fn.2.1
theorem Good.sorted {d : WD} (g : Good d) : Fine 3 (dW (sortW d)) := fineW (fun ss h => by
  obtain ⟨zs, hz, rfl⟩ := List.mem_map.mp h
  exact fun x hx => (g.sn zs hz).2.1 x ((sortS_perm zs).mem_iff.mp hx)) g.fn.2.1
end L3

set_option Elab.async false
set_option linter.all false
set_option maxRecDepth 100000
set_option maxHeartbeats 4000000
namespace L3
open PySem PySem.Spec PyProof.Rows L2
section
variable {X : Cx} {pins : List (Addr × Obj)} {σ : St} {H : Hp} {s : Shared} {h' : Heap}
end
section
variable {X : Cx}
end
end L3

set_option Elab.async false
set_option linter.all false
set_option maxRecDepth 100000
set_option maxHeartbeats 4000000
namespace L3
open PySem PySem.Spec PyProof.Rows L2
section
variable {X : Cx}
/-! ### xs.index(y), xs.insert(i, y), xs[i] = y, is not False, {} -/
theorem Vals.take {xs : List V} {us : List Value} (h : Vals xs us) (k : Nat) : Vals (xs.take k) (us.take k) := by
  induction k generalizing xs us with
  | zero => exact .nil
  | succ k ih =>
    cases h with
    | nil => exact .nil
    | cons r t => exact .cons r (ih t)
theorem Vals.drop {xs : List V} {us : List Value} (h : Vals xs us) (k : Nat) : Vals (xs.drop k) (us.drop k) := by
  induction k generalizing xs us with
  | zero => exact h
  | succ k ih =>
    cases h with
    | nil => exact .nil
    | cons r t => exact ih t
theorem Vals.set {xs : List V} {us : List Value} {y : V} {u : Value} (h : Vals xs us) (ry : RelV y u) (k : Nat) : Vals (xs.set k y) (us.set k u) := by
  induction k generalizing xs us with
  | zero =>
    cases h with
    | nil => exact .nil
    | cons r t => exact .cons ry t
  | succ k ih =>
    cases h with
    | nil => exact .nil
    | cons r t => exact .cons r (ih t)
theorem Inv.big {pins : List (Addr × Obj)} {σ : St} {H : Hp} {s : Shared} (I : L2.Inv X pins σ H s) : sysModules < s.heap.objs.size := by
  have h : mainGlobals < s.heap.objs.size := (I.mod.glob.keeps I.bk).lt
  exact Nat.lt_trans (by decide) h
end
section
variable {prog : Program} {w : World} {A : Around} {E : Value → Shared → Prop} {s : Shared}
end
section
variable {X : Cx}
end
end L3

set_option Elab.async false
set_option linter.all false
set_option maxRecDepth 100000
set_option maxHeartbeats 4000000
namespace L3
open PySem PySem.Spec PyProof.Rows L2
/-! ### sum of lists -/
section
variable {prog : Program} {w : World} {A : Around} {R : Result → Shared → Prop} {I : Addr} {fp wr : List Addr} {n : Nat} {P : Nat → Value → Prop} {St : Nat → Heap → Prop}
end
section
variable {X : Cx}
end
end L3

set_option Elab.async false
set_option linter.all false
set_option maxRecDepth 100000
set_option maxHeartbeats 4000000
namespace L3
open PySem PySem.Spec L2
section
variable {X : Cx} {K : PySem.W.Frag}
end
/-! ### runs as plain functions -/
theorem at_of {xs : List Int} {i : Nat} (h : i < xs.length) : (xs.map V.int)[i]? = some (.int (xs.getD i 0)) := by
  simp [List.getD, h]
theorem cutV_from (xs : List V) (k : Nat) (h : k ≤ xs.length) : cutV xs (some (k : Int)) none = xs.drop k := by
  unfold cutV
  rw [HT.sIx_nat, HT.sIx_none, Nat.min_eq_left h]
  exact List.take_of_length_le (by rw [List.length_drop]; omega)
theorem cutV_to (xs : List V) (k : Nat) (h : k ≤ xs.length) : cutV xs none (some (k : Int)) = xs.take k := by
  unfold cutV
  rw [HT.sIx_nat, HT.sIx_none, Nat.min_eq_left h]
  simp
theorem isTy_same {H H' : Hp} {T : String} {v : V} (s : Same H H') (h : Kd H v) : isTy H' T v = isTy H T v := by
  cases h with
  | non => rfl
  | bl b => rfl
  | int i => rfl
  | str z hz => rfl
  | lst e => simp only [isTy, e, s _ _ e]
  | tup e => simp only [isTy, e, s _ _ e]
  | dK e => simp only [isTy, e, s _ _ e]
theorem areRooms_same {H H' : Hp} {n : Int} {x : V} (s : Same H H') (k : Kd H x) : areRooms H' n x = areRooms H n x := by
  unfold areRooms
  rw [lstOf_same s k]
/-- what is no run, whatever the world -/
inductive BadRun (H : Hp) : V → Prop
  | other {v} (h : Kd H v) (n : isTy H "tuple" v = false) : BadRun H v
  | few {t xs} (e : H t = some (.tup xs)) (n : xs.length ≠ 2) (hz : xs.length ≤ 1000) : BadRun H (.ref t)
  | way {t x y} (e : H t = some (.tup [x, y])) (hx : KdL H x) (hy : KdL H y) (n : ∀ m, areRooms H m x = false ∨ areRooms H m y = false ∨ lstOf H y = some []) : BadRun H (.ref t)
theorem BadRun.mono {H H' : Hp} {v : V} (s : Same H H') (h : BadRun H v) : BadRun H' v := by
  cases h with
  | other h n => exact .other (h.mono s) (by rw [isTy_same s h]; exact n)
  | few e n hz => exact .few (s _ _ e) n hz
  | way e hx hy n =>
    refine .way (s _ _ e) (hx.mono s) (hy.mono s) fun m => ?_
    have e1 : areRooms H' m _ = areRooms H m _ := areRooms_same s hx.1
    have e2 : areRooms H' m _ = areRooms H m _ := areRooms_same s hy.1
    have e3 : lstOf H' _ = lstOf H _ := lstOf_same s hy.1
    rw [e1, e2, e3]
    exact n m
end L3
namespace L3
open PySem PySem.Spec L2
theorem cut_tail (xs : List V) : cutV xs (some 1) none = xs.drop 1 := by
  cases xs with
  | nil => rfl
  | cons x r => exact cutV_from (x :: r) 1 (by simp)
end L3

set_option Elab.async false
set_option linter.all false
set_option maxRecDepth 100000
set_option maxHeartbeats 4000000
namespace L3
open PySem PySem.Spec L2
theorem WorldAt.x {C : Addr} {H H' : Hp} {p w : Addr} {zs : List V} {d : WD} (hp : H p = some (.lst zs)) (x : SameX p H H') (h : WorldAt C H w d) : WorldAt C H' w d :=
  h.keep fun b o ho hb => x b o (fun e => by subst e; rw [hp] at hb; cases hb; exact ho _ rfl) hb
end L3
namespace L3
open PySem PySem.Spec L2
def IL (B : Nat) (H : Hp) (x : Addr) : Prop := ∃ ns : List Int, H x = some (.lst (ns.map V.int)) ∧ ns.length ≤ B
theorem IL.up {B B' : Nat} {H : Hp} {x : Addr} (h : IL B H x) (l : B ≤ B') : IL B' H x := let ⟨ns, a, b⟩ := h; ⟨ns, a, Nat.le_trans b l⟩
theorem IL.same {B : Nat} {H H' : Hp} {x : Addr} (s : Same H H') (h : IL B H x) : IL B H' x := let ⟨ns, a, b⟩ := h; ⟨ns, s _ _ a, b⟩
theorem IL.keep {B : Nat} {H H' : Hp} {p x : Addr} (s : SameX p H H') (n : x ≠ p) (h : IL B H x) : IL B H' x := let ⟨ns, a, b⟩ := h; ⟨ns, s _ _ n a, b⟩
end L3

set_option Elab.async false
set_option linter.all false
set_option maxRecDepth 100000
set_option maxHeartbeats 4000000
namespace L3
open PySem PySem.Spec L2
end L3
namespace L3
open PySem PySem.Spec L2
end L3

set_option Elab.async false
set_option linter.all false
set_option maxRecDepth 100000
set_option maxHeartbeats 4000000
namespace L3
open PySem PySem.Spec PyProof.Rows L2
/-! ### texts: join, split, int, str, slice, >= -/
section
variable {X : Cx}
end
section
variable {prog : Program} {w : World} {A : Around} {E : Value → Shared → Prop} {s : Shared}
end
section
variable {X : Cx}
end
section
variable {prog : Program} {w : World} {A : Around} {E : Value → Shared → Prop} {s : Shared}
end
section
variable {X : Cx}
end
end L3

set_option Elab.async false
set_option linter.all false
set_option maxRecDepth 100000
set_option maxHeartbeats 4000000
namespace L3
open PySem PySem.Spec PyProof.Rows L2
/-! ### words, lines, a world's text -/
def free (c : Nat) (z : Str) : Prop := c ∉ z.cps.toList
mutual
theorem Dp.mono {K : PySem.W.Frag} {H H' : Hp} (s : Same H H') : ∀ {v : V} {d : PyData}, Dp K H v d → Dp K H' v d
  | _, _, .non => .non
  | _, _, .bl b => .bl b
  | _, _, .int i => .int i
  | _, _, .str x => .str x
  | _, _, .lst h hs => .lst (s.seq h) (DpAll.mono s hs)
  | _, _, .tup h hs => .tup (Same.seqT s h) (DpAll.mono s hs)
theorem DpAll.mono {K : PySem.W.Frag} {H H' : Hp} (s : Same H H') : ∀ {vs : List V} {ds : List PyData}, DpAll K H vs ds → DpAll K H' vs ds
  | _, _, .nil => .nil
  | _, _, .cons h hs => .cons (Dp.mono s h) (DpAll.mono s hs)
end
def dT (d : WD) : PyData := .list (d.signs.map dS ++ d.ways.map dI ++ [dI d.starts, dS d.fair])
/-- what is asked of a world's data that is written -/
structure Writ (d : WD) : Prop where
  gd : Good d
  rm : ∀ n : Int, n < d.signs.length → n < 20 ∨ d.signs.length ≤ 20
theorem Good.num {d : WD} (g : Good d) {ns : List Int} (h : ns ∈ d.ways ∨ ns = d.starts) : ∀ n ∈ ns, 0 ≤ n ∧ n < 20 := fun n hn => by
  have := g.n20
  rcases h with h | rfl
  · have := (g.wn ns h).2.2.1 n hn; omega
  · have := g.stn.2.2.1 n hn; omega
theorem Good.sortW {d : WD} (g : Good d) : Good (sortW d) := by
  have e : (L3.sortW d).signs.length = d.signs.length := by show (d.signs.map sortS).length = _; rw [List.length_map]
  refine ⟨by rw [e]; exact g.n1, by rw [e]; exact g.n20, by rw [e]; show (d.ways.map sortI).length = _; rw [List.length_map]; exact g.wl, ?_, ?_, ?_, g.fn⟩
  · intro ss hs
    obtain ⟨zs, hz, rfl⟩ := List.mem_map.mp hs
    have := g.sn zs hz
    exact ⟨(sortS_perm zs).nodup_iff.mpr this.1, fun x hx => this.2.1 x ((sortS_perm zs).mem_iff.mp hx), by rw [(sortS_perm zs).length_eq]; exact this.2.2⟩
  · intro ns hs
    rw [e]
    obtain ⟨zs, hz, rfl⟩ := List.mem_map.mp hs
    have := g.wn zs hz
    exact ⟨(sortI_perm zs).nodup_iff.mpr this.1, fun q => this.2.1 (by have := (sortI_perm zs).length_eq; rw [q] at this; exact List.eq_nil_of_length_eq_zero this.symm), fun x hx => this.2.2.1 x ((sortI_perm zs).mem_iff.mp hx), by rw [(sortI_perm zs).length_eq]; exact this.2.2.2⟩
  · rw [e]
    have := g.stn
    exact ⟨(sortI_perm _).nodup_iff.mpr this.1, fun q => this.2.1 (by have := (sortI_perm d.starts).length_eq; rw [show sortI d.starts = [] from q] at this; exact List.eq_nil_of_length_eq_zero this.symm), fun x hx => this.2.2.1 x ((sortI_perm _).mem_iff.mp hx), by show (sortI d.starts).length ≤ 20; rw [(sortI_perm _).length_eq]; exact this.2.2.2⟩
end L3
namespace L3
open PySem PySem.Spec PyProof.Rows L2
section
variable {X : Cx} {K : PySem.W.Frag}
end
end L3
namespace L3
open PySem PySem.Spec PyProof.Rows L2
end L3

set_option Elab.async false
set_option linter.all false
set_option maxRecDepth 100000
set_option maxHeartbeats 4000000
namespace L3
open PySem PySem.Spec PyProof.Rows L2
/-! ### exceptions of one's own classes: how they lie behind a call -/
/-- the exception at a, of the class at C, with its traceback at T; neither was there in h0, neither is tracked -/
def FlyN (h0 : Heap) (H : Hp) (h : Heap) (a C T : Addr) : Prop :=
  h0.get? a = none ∧ h0.get? T = none ∧ H a = none ∧ H T = none ∧ T ≠ a ∧
  ∃ oe vs oT ts a0, h.get? a = some oe ∧ oe.cls = .ref C ∧ oe.data = .fields vs ∧ vs[0]? = some a0 ∧ vs[1]? = some (.ref T) ∧ h.get? T = some oT ∧ oT.data = .fields ts ∧ ts[3]? = some .none
/-- an exception behind a call -/
def CXe (P : Program) (w : World) : CXT := fun outer H s E e s' =>
  ∃ a C T H', e = .ref a ∧ s'.os = s.os ∧ AllBare s'.gens ∧ Un (frs outer) [] H H' s.heap s'.heap ∧ HOk P w H' s'.heap ∧ FlyN s.heap H' s'.heap a C T ∧ E e (some C) H'

/-- what is tracked stays, where the tracked objects stay -/
theorem hok_stay {P : Program} {w : World} {H : Hp} {h h' : Heap} (x : HOk P w H h) (k : ∀ b o, (H b).isSome = true → h.get? b = some o → h'.get? b = some o) : HOk P w H h' := fun a o e =>
  (x a o e).stay (fun b u hb q => k b u (by rcases hb with rfl | hb <;> simp [*]) q) (fun _ q => q) fun _ _ q => q
theorem hok_there {P : Program} {w : World} {H : Hp} {h : Heap} {a : Addr} (x : HOk P w H h) (e : h.get? a = none) : H a = none := by
  cases q : H a with
  | none => rfl
  | some o =>
    exfalso
    have z := x a o q
    obtain ⟨o', z'⟩ : ∃ o', h.get? a = some o' := by
      cases o with
      | lst xs => obtain ⟨_, _, _, _, e⟩ := z; exact ⟨_, e⟩
      | tup xs => obtain ⟨_, _, _, _, e, _⟩ := z; exact ⟨_, e⟩
      | dK kvs => obtain ⟨_, _, _, _, _, _, _, e, _⟩ := z; exact ⟨_, e⟩
      | dT kvs => obtain ⟨_, _, _, _, _, _, _, e, _⟩ := z; exact ⟨_, e⟩
      | set S n => obtain ⟨_, _, _, _, e, _⟩ := z; exact ⟨_, e⟩
      | ins C dx fs => obtain ⟨_, _, _, e, _⟩ := z; exact ⟨_, e⟩
      | own y => obtain ⟨_, e⟩ := z; exact ⟨_, e⟩
      | xd fs => obtain ⟨_, ⟨_, _, _, e, _⟩, _⟩ := z; exact ⟨_, e⟩
      | rng lo hi => obtain ⟨_, _, _, e⟩ := z; exact ⟨_, e⟩
      | frz ob u => obtain ⟨e, _⟩ := z; exact ⟨_, e⟩
      | tbl ps => exact ⟨_, z⟩
      | met f y => exact ⟨_, z⟩
      | ext φ => obtain ⟨_, ⟨o, e⟩, _⟩ := z; exact ⟨_, e⟩
    rw [e] at z'
    cases z'
section
variable {P : Program} {w : World} {K : PySem.W.Frag} {mg : Str → Option Value} {base : Heap} {N : List Str} {qual : Str} {scope : Scope} {f : Addr} {cd : Value} {A : Around} {outer : List Env} {s₀ : Shared} {H₀ : Hp} {E : XK}
theorem frs_mem {l : List Env} {b : Addr} {env : Env} (he : env ∈ l) (hb : env.frame = some b) : b ∈ frs l := List.mem_filterMap.mpr ⟨env, he, hb⟩
/-- a new exception leaves the def -/
theorem leave_made {pins : List (Addr × Obj)} {σ : St} {H : Hp} {s : Shared} {h' : Heap} {e C : Addr} {vs : List Value} (I : Inv (cxOf (CXe P w) P w K mg base N qual scope f cd A outer s₀ H₀ E) pins σ H s)
    (hm : Heap.MadeExcOf s.heap h' e (.ref C) vs) (hE : E (.ref e) (some C) H) : (cxOf (CXe P w) P w K mg base N qual scope f cd A outer s₀ H₀ E).xe (.ref e) { s with heap := h' } := by
  show wpAny (model P w) (A.deeper (envOfC qual scope s₀.heap.objs.size f cd)) (leaving (envOfC qual scope s₀.heap.objs.size f cd) (.ref e)) _ _ _
  have hst := I.stack
  have hfree := I.stkFree
  have hsub : ∀ b ∈ frs outer, b ∈ frs (envOfC qual scope s₀.heap.objs.size f cd :: outer) := fun b hb => by
    obtain ⟨env, he, hf⟩ := List.mem_filterMap.mp hb
    exact List.mem_filterMap.mpr ⟨env, List.mem_cons_of_mem _ he, hf⟩
  have hown : ∀ b ∈ frs (envOfC qual scope s₀.heap.objs.size f cd :: outer), b = s₀.heap.objs.size ∨ b ∈ frs outer := fun b hb => by
    obtain ⟨env, he, hf⟩ := List.mem_filterMap.mp hb
    rcases List.mem_cons.mp he with rfl | he
    · exact .inl (Option.some.inj hf).symm
    · exact .inr (List.mem_filterMap.mpr ⟨env, he, hf⟩)
  refine wpAny_leaves_madeW (base := PySem.W.hideAll s.heap (frs (envOfC qual scope s₀.heap.objs.size f cd :: outer))) (h := s.heap) (outer := outer) (L := s₀.heap.objs.size) I.ok.frames rfl (fun b o q => PySem.W.of_hideAll _ q)
    (PySem.W.funFrames_hide hst fun env he b hb => frs_mem he hb) hm fun h₂ t ⟨f1, f2, f3, f4⟩ ht1 ht2 hup => ?_
  have keep : ∀ b o, s.heap.get? b = some o → b ∉ frs (envOfC qual scope s₀.heap.objs.size f cd :: outer) → h₂.get? b = some o := fun b o q n => f1 b o (PySem.W.hideAll_get _ q n)
  have slot : ∀ b o, s.heap.get? b = some o → b ∈ frs (envOfC qual scope s₀.heap.objs.size f cd :: outer) → ∃ sl, h₂.get? b = some { o with slots := sl } := fun b o q n => by
    obtain ⟨_, o', ho', hd⟩ := Heap.FunFrames.mem hst n
    rw [q] at ho'
    cases ho'
    exact hup b o (hm.keeps b o q) hd
  obtain ⟨oe, vs', T, oT, ts, he, ⟨hcls, h0⟩, hd, h1, hnT, hTe, hT, hdT, h3⟩ := f4
  have noT : s.heap.get? T = none := by
    cases q : s.heap.get? T with
    | none => rfl
    | some o =>
      exfalso
      by_cases n : T ∈ frs (envOfC qual scope s₀.heap.objs.size f cd :: outer)
      · obtain ⟨_, o', ho', hdn⟩ := Heap.FunFrames.mem hst n
        rw [q] at ho'
        cases ho'
        obtain ⟨sl, z⟩ := slot T o q n
        rw [hT] at z
        cases z
        exact hdn ts hdT
      · rw [PySem.W.hideAll_get _ q n] at hnT
        cases hnT
  have old : ∀ b, s.heap.get? b = none → s₀.heap.get? b = none := fun b q => by
    cases z : s₀.heap.get? b with
    | none => rfl
    | some o =>
      obtain ⟨o', z'⟩ := I.base.there b o z (by exact (fun y => nomatch y))
      rw [q] at z'
      cases z'
  have neL : ∀ b o, s₀.heap.get? b = some o → b ≠ s₀.heap.objs.size := fun b o z => Nat.ne_of_lt (Heap.lt_size z)
  refine ⟨e, C, T, H, rfl, I.os, I.bare, ⟨fun b o q n hb hx => ?_, fun b o q n hb hx => ?_, fun b o q n hx => I.base.free b o q n (fun y => nomatch y), fun b o q hx => ?_, I.base.tups, I.base.frzs, I.base.tbls⟩, ?_,
    ⟨old e hm.new, old T noT, hok_there I.hok hm.new, hok_there I.hok noT, hTe, oe, vs', oT, ts, _, he, hcls, hd, h0, h1, hT, hdT, h3⟩, hE⟩
  · exact keep b o (I.base.keep b o q n hb (fun y => nomatch y)) fun z => (hown b z).elim (neL b o q) hb
  · obtain ⟨sl, q1⟩ := I.base.slot b o q n hb (fun y => nomatch y)
    obtain ⟨sl2, q2⟩ := slot b _ q1 (hsub b hb)
    exact ⟨sl2, q2⟩
  · obtain ⟨o', q1⟩ := I.base.there b o q (fun y => nomatch y)
    by_cases n : b ∈ frs (envOfC qual scope s₀.heap.objs.size f cd :: outer)
    · obtain ⟨sl, q2⟩ := slot b o' q1 n
      exact ⟨_, q2⟩
    · exact ⟨o', keep b o' q1 n⟩
  · refine hok_stay I.hok fun b o hb q => keep b o q fun n => ?_
    rw [hfree b n] at hb
    cases hb
end
section
variable {K : PySem.W.Frag} {mg : Str → Option Value} {base : Heap} {x : Str} {C : Addr} {bmB : List Value} {newId : String}
/-- a class of exceptions of the module's, as the heap has it -/
theorem exc_own (M : Mod K mg base) (hm : mg x = some (.ref C)) (q : PySem.W.excIn K C bmB newId = true) : OwnCls x C bmB newId mg base := by
  refine ⟨hm, ?_⟩
  have X := M.kin
  unfold PySem.W.excIn at q
  split at q
  case h_2 => cases q
  case h_1 dd cd sl ho =>
    split at q
    case h_2 => cases q
    case h_1 C' bm k0 k1 k2 k3 n k5 hmro hs =>
      simp only [Bool.and_eq_true, beq_iff_eq, Bool.not_eq_true'] at q
      obtain ⟨⟨⟨⟨⟨e1, e2⟩, e3⟩, e4⟩, e5⟩, e6⟩ := q
      subst e1 e2
      cases cd with
      | mk nm bs mro ns qn hdc sn sub ab col del =>
        dsimp only at hmro e3 e5 e6
        subst hmro e3
        cases sl with
        | mk l =>
          dsimp only at hs
          subst hs
          exact ⟨bm, ns, nm, qn, bs, hdc, sn, sub, ab, col, dd, k0, k1, k2, k3, k5, _, X _ _ ho, .of_isNs (PySem.W.isNs_of_in X e5), PySem.W.nsMap_none_of_in X e5 e6, PySem.W.tail_of_in X e4⟩
end
/-- an exception of one's own class, made by raise, reaches what this body wants of exceptions -/
def Raises (X : Cx) (E : XK) : Prop := ∀ (pins : List (Addr × Obj)) (σ : St) (H : Hp) (s : Shared) (h' : Heap) (e C : Addr) (vs : List Value), Inv X pins σ H s → Heap.MadeExcOf s.heap h' e (.ref C) vs → E (.ref e) (some C) H → X.xe (.ref e) { s with heap := h' }
section
variable {X : Cx} {x : Str} {C : Addr} {e : Expr} {es : List Expr} {t : TA} {E : XK} {B newId initId : String} {bmB : List Value} {np cpos pos : Pos}
/-- raise C(e, ..) -/
def tRaise (C : Addr) (E : XK) (t : TA) : L2.TS := fun _ σ H => t σ H fun vs H1 => vs.length ≤ 1000 ∧ ∀ a, E (.ref a) (some C) H1
theorem ps_raise (hr : Raises X E) (hh : X.calm = true) (hg : Gl X x) (hm : X.mg x = some (.ref C)) (q : PySem.W.excIn X.K C bmB newId = true) (FB : ExcBaseFacts B newId initId bmB) (ha : PA X (e :: es) t)
    (hdb : (x == ("__debug__" : Str)) = false := by decide) (he : starEach (e :: es) X.env = (false, eval e X.env) :: starEach es X.env := by rfl) (hpl : (backTo cpos (starEach es X.env)).any (·.1) = false := by rfl) :
    PS X (.Raise (some (.Call (.Name x np) (e :: es) [] cpos)) none pos) (tRaise C E t) := by
  intro pins s σ H D I h
  have OC : OwnCls x C bmB newId X.mg X.base := exc_own I.ok.mod hm q
  obtain ⟨tl, N, nm, qn, bs, hdct, sn, sub, ab, col, dd, k0, k1, k2, k3, k5, mN, hC, hN, hni, T⟩ := OC.obj
  refine wpAny_Raise_call_subT (C := C) (nm := nm) (q := qn) (N := N) (bs := bs) (bm := tl) (hdct := hdct) (sn := sn) (sub := sub) (ab := ab) (col := col) (dd := dd) (k0 := k0) (k1 := k1) (k2 := k2) (k3 := k3) (k5 := k5)
    FB (mN := mN) (T.hasType FB.hasBase) (I.ok.hd hh) (by rw [he]; show (false || (backTo cpos (starEach es X.env)).any (·.1)) = false; rw [hpl]; rfl) hni (ld_glob I hg hm ⟨rfl, ?_⟩ hdb)
  have h2 := ha cpos pins s σ H _ I h
  rw [he] at h2 ⊢
  refine Calls.evalArgs_plain (wpAny_mono h2 (fun us s2 h3 => ?_) fun _ _ y => y)
  obtain ⟨vs, H1, I1, r, hl, hE⟩ := h3
  refine ⟨rfl, by rw [← r.length, sizeLine_eq]; omega, I1.bk _ _ hC, hN.keeps I1.bk, T.keeps I1.bk, fun h' a hma => hr pins σ H1 s2 h' a C us I1 hma (hE a)⟩
end
end L3

set_option Elab.async false
set_option linter.all false
set_option maxRecDepth 100000
set_option maxHeartbeats 4000000
namespace L3
open PySem PySem.Spec PyProof.Rows L2
/-! ### try, except -/
/-- what is wanted of an exception that a suite lets out: the names and the heap behind it -/
abbrev XS := Value → Option Addr → L2.St → Hp → Prop
def XP (X : Cx) (pins : List (Addr × Obj)) (E : XS) (e : Value) (s' : Shared) : Prop := ∃ σ H s, L2.Inv X pins σ H s ∧ CXe X.prog X.w X.stack H s (fun e c H' => E e c σ H') e s'
/-- an expression that may let an exception out -/
def PEx (X : Cx) (ex : Expr) (t : L2.St → Hp → VK → XK → Prop) : Prop :=
  ∀ (pins : List (Addr × Obj)) (s : Shared) (σ : L2.St) (H : Hp) (Q : VK) (E : XK), L2.Inv X pins σ H s → t σ H Q E → wpAny (model X.prog X.w) X.A (eval ex X.env) (EP X pins σ Q) (XP X pins fun e c σ' H' => σ' = σ ∧ E e c H') s
/-- a suite that may let an exception out -/
def PSx (X : Cx) (b : List Stmt) (t : L2.Ends → XS → L2.St → Hp → Prop) : Prop :=
  ∀ (pins : List (Addr × Obj)) (s : Shared) (σ : L2.St) (H : Hp) (D : L2.Ends) (E : XS), L2.Inv X pins σ H s → t D E σ H → wpAny (model X.prog X.w) X.A (execs b X.env) (SP X pins D) (XP X pins E) s
section
variable {X : Cx} {k : Nat} {f C : Addr} {fd : FuncData} {ps : List Str} {sp : Sp} {x : Str} {p pos : Pos} {e : Expr} {es : List Expr} {t : TA}
/-- C(e, ..), its __init__ may let an exception out -/
def tMakeX (C : Addr) (sp : Sp) (t : TA) : L2.St → Hp → VK → XK → Prop := fun σ H Q E => t σ H fun vs H1 => ∀ x dx, H1 x = none → H1 dx = none → dx ≠ x → sp (.ref x :: vs) (upd (upd H1 dx (.own x)) x (.ins C dx [])) (fun v H2 => v = .non ∧ Q (.ref x) H2) E
theorem pex_make (M : Mk X.K C f) (F : FnOk X.prog X.w X.K X.mg X.base (CXe X.prog X.w) k f fd ps sp) (hr : Room (k + 1) X.A) (hg : Gl X x) (hm : X.mg x = some (.ref C)) (hb : Binds X.K fd ps []) (ha : PA X.nox (e :: es) t)
    (hdb : (x == ("__debug__" : Str)) = false := by decide) (he : starEach (e :: es) X.env = (false, eval e X.env) :: starEach es X.env := by rfl) (hpl : (backTo pos (starEach es X.env)).any (·.1) = false := by rfl) :
    PEx X (.Call (.Name x p) (e :: es) [] pos) (tMakeX C sp t) := by
  intro pins s σ H Q E I h
  refine wpAny_Call_Name_kw (ld_glob I hg hm ?_ hdb)
  refine PySem.W.callWith_K (h₀ := X.base) I.ok.mod.kin M.kp (wpAny_mono (ha pos pins s σ H _ (I.wish _) h) (fun us s1 h1 => ?_) fun _ _ z => False.elim z) he hpl
  obtain ⟨vs, H1, I1', r, q⟩ := h1
  have I1 : L2.Inv X pins σ H1 s1 := I1'.unwish
  refine ⟨I1.kIn, ?_⟩
  have hq := q (s1.heap.objs.size + 1) s1.heap.objs.size (I1.hok.fresh (Nat.le_succ _)) (I1.hok.fresh (Nat.le_refl _)) (Nat.ne_of_lt (Nat.lt_succ_self _))
  have I2 := L2.Inv.made (C := C) I1
  have r2 : Vals (V.ref (s1.heap.objs.size + 1) :: vs) (Value.ref (s1.heap.objs.size + 1) :: us) := .cons rfl r
  have hl : ((Value.ref (s1.heap.objs.size + 1) :: us) ++ []).length = ps.length := by
    have z := r2.length
    rw [F.len _ _ _ _ hq] at z
    rw [List.append_nil]
    exact z.symm
  have hbd := hb _ (Value.ref (s1.heap.objs.size + 1) :: us) I2.kIn hl
  rw [List.append_nil] at hbd
  refine wpAny_call (make_map (f := f) I1.kIn M.makes M.init (beq_iff_eq.mp M.fn) (codeAny_mono (F.run _ X.stack _ _ ⟨Value.ref (s1.heap.objs.size + 1) :: us, []⟩ (Value.ref (s1.heap.objs.size + 1) :: us) _ _ E (hr.make C us [])
    (I2.env0.make C us []) hbd r2 hq) fun r s' hq' => ?_))
  cases r with
  | error e =>
    obtain ⟨a, C', T, H', e1, e2, e3, e4, e5, e6, e7⟩ := hq'
    exact ⟨σ, _, _, I2, a, C', T, H', e1, e2, e3, e4, e5, e6, rfl, e7⟩
  | ok fl =>
    cases fl with
    | ret u =>
      obtain ⟨v, H', I3, rv, ev, q3⟩ := I2.after hq'
      subst ev
      exact ⟨rv, ⟨V.ref (s1.heap.objs.size + 1), H', I3, rfl, q3⟩⟩
    | next => exact False.elim hq'
    | brk => exact False.elim hq'
    | cont => exact False.elim hq'
/-- a statement that is an expression -/
def tDropX (te : L2.St → Hp → VK → XK → Prop) : L2.Ends → XS → L2.St → Hp → Prop := fun D E σ H => te σ H (fun _ H1 => D.nx σ H1) (fun e c H1 => E e c σ H1)
theorem xp_mono {pins : List (Addr × Obj)} {E E' : XS} (h : ∀ e c σ H, E e c σ H → E' e c σ H) {v : Value} {s' : Shared} (x : XP X pins E v s') : XP X pins E' v s' := by
  obtain ⟨σ, H, s, I, a, C, T, H', e1, e2, e3, e4, e5, e6, e7⟩ := x
  exact ⟨σ, H, s, I, a, C, T, H', e1, e2, e3, e4, e5, e6, h _ _ _ _ e7⟩
theorem psx_expr {te : L2.St → Hp → VK → XK → Prop} (h0 : PEx X e te) (hs : swapsWith e none pos.line X.env = pure false := by rfl) : PSx X [.Expr e pos] (tDropX te) := by
  intro pins s σ H D E I h
  refine wpAny_execs_cons (wpAny_Expr_any (wpAny_mono (h0 pins s σ H _ _ I h) (fun v s1 h1 => ?_) fun v s1 z => ?_) I.quiet hs)
  · obtain ⟨y, H1, I1, r1, q1⟩ := h1
    exact wpAny_execs_nil ⟨σ, H1, I1, q1⟩
  · exact xp_mono (fun e c σ' H' ⟨q1, q2⟩ => by subst q1; exact q2) z
end
section
variable {X : Cx} {pins : List (Addr × Obj)} {σ : L2.St} {H : Hp} {s : Shared}
/-- within an except suite -/
abbrev _root_.L2.Cx.caught (X : Cx) (a : Addr) : Cx := { X with A := X.A.mark (some (.ref a)), calm := false, xe := fun _ _ => False }
theorem inv_caught (I : L2.Inv X pins σ H s) (a : Addr) : L2.Inv (X.caught a) pins σ H s :=
  ⟨⟨I.ok.mod, I.ok.kind, I.ok.glob, I.ok.blt, I.ok.above, I.ok.inj, I.ok.has, I.ok.cab, fun z => (nomatch z), I.ok.frames, I.ok.stk, I.ok.exf, I.ok.bs, I.ok.bsz, I.ok.noex, I.ok.exfs, I.ok.funs, I.ok.frf⟩, I.os, I.bare, I.base, I.loc, I.cell, I.free, I.freeC, I.pin, I.hok, I.len⟩
/-- the name of an except clause goes behind its suite -/
theorem unbind_ok {M : Model} {A : Around} {E : Value → Shared → Prop} {i : Nat} {n : Str} {pos : Pos} {Q : Unit → Shared → Prop} (I : L2.Inv X pins σ H s) (hN : X.N.Nodup) (hi : X.N[i]? = some n) (hl : X.env.scope.names.lookup n = some .local)
    (h : ∀ s', L2.Inv X pins (σ.set i none) H s' → Q () s') : wpAny M A (do bindName X.env n .none; unbindBehindTheSuite X.env n pos) Q E s := by
  obtain ⟨m, hn, hlk⟩ := id I.loc
  have hcls : (X.env.scope.kind == .class || (X.env.scope.kind == .module && X.env.locals != X.env.globals)) = false := by rw [I.ok.kind]; rfl
  refine wpAny_nameGoes_keeps hl hn hcls fun h' v hn' hs => ?_
  have hnone : H X.env.locals = none := I.free
  have up : ∀ b o, X.s₀.heap.get? b = some o → h'.get? b = s.heap.get? b := fun b o e => hs.2 b (Nat.ne_of_lt (Nat.lt_of_lt_of_le (Heap.lt_size e) I.ok.above))
  refine h _ ⟨I.ok, I.os, I.bare, ⟨fun b o e z hb hx => ?_, fun b o e z hb hx => ?_, I.base.free, fun b o e hx => ?_, I.base.tups, I.base.frzs, I.base.tbls⟩, ⟨_, hn', fun j y v' e1 e2 e3 => ?_⟩, fun y c e => ?_, I.free, I.freeC, fun p hp => ?_, ?_, ?_⟩
  · exact (up b o e).trans (I.base.keep b o e z hb hx)
  · obtain ⟨sl, e1⟩ := I.base.slot b o e z hb hx
    exact ⟨sl, (up b o e).trans e1⟩
  · obtain ⟨o', e1⟩ := I.base.there b o e hx
    exact ⟨o', (up b o e).trans e1⟩
  · by_cases hj : j = i
    · subst hj
      rw [List.getElem?_set] at e2
      split at e2
      · split at e2 <;> cases e2
      · exact absurd rfl ‹_›
    · rw [List.getElem?_set_ne (Ne.symm hj)] at e2
      obtain ⟨u', r', q⟩ := hlk j y v' e1 e2 e3
      refine ⟨u', r', ?_⟩
      rcases q with ⟨k, e⟩ | ⟨k, c, e, z⟩
      · refine .inl ⟨k, ?_⟩
        have : y ≠ n := fun e => hj (nodup_ix hN e1 (e ▸ hi))
        simp [this, e]
      · exact .inr ⟨k, c, e, z.sameBut hs (I.cne y c e)⟩
  · obtain ⟨w', z⟩ := I.cell y c e
    exact ⟨w', z.sameBut hs (I.cne y c e)⟩
  · obtain ⟨e, z, ne, nf, d⟩ := I.pin p hp
    exact ⟨(hs.2 p.1 ne).trans e, z, ne, nf, d⟩
  · refine hok_stay I.hok fun b o hb q => (hs.2 b fun z => ?_).trans q
    rw [z, hnone] at hb
    cases hb
  · rw [List.length_set]
    exact I.len
end
end L3

set_option Elab.async false
set_option linter.all false
set_option maxRecDepth 100000
set_option maxHeartbeats 4000000
namespace L3
open PySem PySem.Spec PyProof.Rows L2
/-- a caught exception of the class at C -/
def XcAt (a C : Addr) (h : Heap) : Prop := ∃ o vs, h.get? a = some o ∧ o.cls = .ref C ∧ o.data = .fields vs
def XcO (a C : Addr) : HO := .ext (XcAt a C)
theorem xc_ok {P : Program} {w : World} {H : Hp} {h : Heap} {a C : Addr} (x : XcAt a C h) : ObjOk P w H h a (XcO a C) := by
  obtain ⟨o, vs, e, c, d⟩ := x
  exact ⟨⟨o, vs, e, c, d⟩, ⟨o, e⟩, fun h1 h2 ⟨o', vs', e', c', d'⟩ k => ⟨o', vs', k _ e', c', d'⟩⟩
section
variable {X : Cx} {pins : List (Addr × Obj)} {σ : L2.St} {H H' : Hp} {s s' : Shared} {a C T : Addr}
/-- the state behind an exception, however often it was looked at since -/
theorem landed_un {h₅ : Heap} {a0 : Value} (I : L2.Inv X pins σ H s) (hos : s'.os = s.os) (hba : AllBare s'.gens) (hun : Un (frs X.stack) [] H H' s.heap s'.heap) (hok : HOk X.prog X.w H' s'.heap) (fly : FlyN s.heap H' s'.heap a C T)
    (fl : Heap.FlyingW (PySem.W.hideAll s'.heap (a :: T :: frs X.stack)) X.stack a (.ref C) a0 h₅) (up : s'.heap.UpToSlots h₅) :
    Un (frs X.stack) [] H H' s.heap h₅ ∧ HOk X.prog X.w H' h₅ := by
  have I' : L2.Inv X pins σ H' s' := I.call' hos hun hok hba (fun b z => nomatch z)
  obtain ⟨f1, f2, f3, f4⟩ := fl
  obtain ⟨n1, n2, n3, n4, _, _⟩ := fly
  have keep : ∀ b o, s'.heap.get? b = some o → b ≠ a → b ≠ T → b ∉ frs X.stack → h₅.get? b = some o := fun b o q z1 z2 z3 => f1 b o (PySem.W.hideAll_get _ q fun z => by
    rcases List.mem_cons.mp z with z | z
    · exact z1 z
    · rcases List.mem_cons.mp z with z | z
      · exact z2 z
      · exact z3 z)
  have slot : ∀ b o, s'.heap.get? b = some o → b ∈ frs X.stack → ∃ sl, h₅.get? b = some { o with slots := sl } := fun b o q n => by
    obtain ⟨_, o', ho', hd⟩ := Heap.FunFrames.mem I'.stack n
    rw [q] at ho'
    cases ho'
    exact up b o q hd
  have na : ∀ b o, s.heap.get? b = some o → b ≠ a := fun b o q z => by rw [z, n1] at q; cases q
  have nT : ∀ b o, s.heap.get? b = some o → b ≠ T := fun b o q z => by rw [z, n2] at q; cases q
  refine ⟨⟨fun b o q n hb hx => ?_, fun b o q n hb hx => ?_, fun b o q n hx => hun.free b o q n hx, fun b o q hx => ?_, hun.tups, hun.frzs, hun.tbls⟩, ?_⟩
  · exact keep b o (hun.keep b o q n hb hx) (na b o q) (nT b o q) hb
  · obtain ⟨sl, q1⟩ := hun.slot b o q n hb hx
    obtain ⟨sl2, q2⟩ := slot b _ q1 hb
    exact ⟨sl2, q2⟩
  · obtain ⟨o', q1⟩ := hun.there b o q hx
    by_cases n : b ∈ frs X.stack
    · obtain ⟨sl, q2⟩ := slot b o' q1 n
      exact ⟨_, q2⟩
    · exact ⟨o', keep b o' q1 (na b o q) (nT b o q) n⟩
  · refine hok_stay hok fun b o hb q => keep b o q (fun z => ?_) (fun z => ?_) fun z => ?_
    · rw [z, n3] at hb; cases hb
    · rw [z, n4] at hb; cases hb
    · rw [I'.stkFree b z] at hb; cases hb
/-- .. and with the exception tracked -/
theorem landed_inv {h₅ : Heap} {a0 : Value} {tk : Nat} (I : L2.Inv X pins σ H s) (hos : s'.os = s.os) (hba : AllBare s'.gens) (hun : Un (frs X.stack) [] H H' s.heap s'.heap) (hok : HOk X.prog X.w H' s'.heap) (fly : FlyN s.heap H' s'.heap a C T)
    (fl : Heap.FlyingW (PySem.W.hideAll s'.heap (a :: T :: frs X.stack)) X.stack a (.ref C) a0 h₅) (up : s'.heap.UpToSlots h₅) : L2.Inv X pins σ (upd H' a (XcO a C)) { s' with heap := h₅ } := by
  obtain ⟨u, hk⟩ := landed_un I hos hba hun hok fly fl up
  obtain ⟨n1, n2, n3, n4, _, _⟩ := fly
  obtain ⟨oe, vs, he, hc, hd, _⟩ := fl.first
  have ne : ∀ b u, H' b = some u → b ≠ a := fun b u q z => by rw [z, n3] at q; cases q
  have hk2 : HOk X.prog X.w (upd H' a (XcO a C)) h₅ := fun b o q => by
    by_cases hb : b = a
    · subst hb
      rw [upd_same] at q
      cases q
      exact xc_ok ⟨oe, vs, he, hc, hd⟩
    · rw [upd_ne hb] at q
      exact (hk b o q).stay (fun c u _ z => z) (fun c z => by rw [upd_ne (ne c _ z)]; exact z) fun c xs z => by rw [upd_ne (ne c _ z)]; exact z
  refine I.call' (s' := { s' with heap := h₅ }) hos ⟨u.keep, u.slot, fun b o q n hx => ?_, u.there, fun b xs q => ?_, fun b o w q => ?_, fun b ps q => ?_⟩ hk2 hba (fun b z => nomatch z)
  · have : b ≠ a := fun z => by rw [z, n1] at q; cases q
    rw [upd_ne this]
    exact u.free b o q n hx
  · have z := u.tups b xs q
    rw [upd_ne (ne b _ z)]
    exact z
  · have z := u.frzs b o w q
    rw [upd_ne (ne b _ z)]
    exact z
  · obtain ⟨more, z⟩ := u.tbls b ps q
    exact ⟨more, by rw [upd_ne (ne b _ z)]; exact z⟩
end
section
variable {X : Cx} {i : Nat} {n cn : Str} {D : Addr} {b₀ : Stmt} {body suite : List Stmt} {np hpos pos : Pos}
/-- try: .. except D as n: .. , where each exception is one of D -/
def tTry (K : PySem.W.Frag) (D : Addr) (i : Nat) (tb : L2.Ends → XS → L2.St → Hp → Prop) (th : L2.TS) : L2.TS := fun Ds σ H =>
  tb Ds (fun e c σ1 H1 => ∃ a C, e = .ref a ∧ c = some C ∧ PySem.W.exmOne K (.ref C) (.ref D) = some true ∧ (H1 a = none →
    th { nx := fun σ2 H2 => Ds.nx (σ2.set i none) H2, rt := Ds.rt, bk := fun σ2 H2 => Ds.bk (σ2.set i none) H2, ct := fun σ2 H2 => Ds.ct (σ2.set i none) H2 } (σ1.set i (some (.ref a))) (upd H1 a (XcO a C)))) σ H
theorem ps_try {tb : L2.Ends → XS → L2.St → Hp → Prop} {th : L2.TS} (hst : X.stack = X.env :: X.outer) (hfr : X.env.frame = some X.env.locals) (hN : X.N.Nodup) (hi : X.N[i]? = some n) (hl : X.env.scope.names.lookup n = some .local)
    (hg : Gl X cn) (hm : X.mg cn = some (.ref D)) (hb : PSx X body tb) (hs : ∀ a, PSs (X.caught a) (b₀ :: suite) th) (hdb : (cn == ("__debug__" : Str)) = false := by decide) :
    PS X (.Try body [.ExceptHandler (some (.Name cn np)) (some n) (b₀ :: suite) hpos] [] [] pos) (tTry X.K D i tb th) := by
  intro pins s σ H Ds I h
  refine wpAny_Try_except (wpAny_mono (hb pins s σ H Ds _ I h) (fun f s1 h1 => ?_) fun v s1 h1 => ?_)
  · cases f with
    | next => exact wpAny_execs_nil h1
    | ret u => exact h1
    | brk => exact h1
    | cont => exact h1
  · obtain ⟨σ1, H0, s0, I0, a, C, T, H', rfl, hos, hba, hun, hok, fly, a', C', ea, ec, hx, hE⟩ := h1
    cases ea
    cases ec
    have I' : L2.Inv X pins σ1 H' s1 := I0.call' hos hun hok hba (fun b z => nomatch z)
    obtain ⟨n1, n2, n3, n4, nTa, oe, vs, oT, ts, a0, he, hc, hd, h0, hT1, hT, hdT, h3⟩ := id fly
    have fl1 : Heap.FlyingW (PySem.W.hideAll s1.heap (a :: T :: frs X.stack)) X.stack a (.ref C) a0 s1.heap :=
      ⟨fun b o q => PySem.W.of_hideAll _ q, PySem.W.hideAll_none _ (.head _), PySem.W.funFrames_hide I'.stack fun env hev b hbv => .tail _ (.tail _ (frs_mem hev hbv)),
        oe, vs, T, oT, ts, he, ⟨hc, h0⟩, hd, hT1, PySem.W.hideAll_none _ (.tail _ (.head _)), nTa, hT, hdT, h3⟩
    rw [hst] at fl1
    refine wpAny_looks_onW (L := X.env.locals) (by rw [I.ok.frames, hst]) hfr fl1 fun h₄ hl₄ up₄ => ?_
    refine wpAny_landsW hl₄ fun h₅ fl₅ up₅ => ?_
    have up5 := up₄.trans up₅
    rw [← hst] at fl₅
    have J5 : L2.Inv (X.caught a) pins σ1 (upd H' a (XcO a C)) { s1 with heap := h₅ } := inv_caught (landed_inv (tk := 0) I0 hos hba hun hok fly fl₅ up5) a
    refine wpAny_handleBy_cons (codeAny_handlers_test (ld_glob (X := X.caught a) J5 hg hm ?_ hdb)) (by intro q; cases q)
    obtain ⟨ob, hob, hobc⟩ := fl₅.there
    have LT : PySem.W.Looks (model X.prog X.w) h₅ (typeOf (.ref a)) (.ref C) := hobc ▸ (PySem.W.Looks.ld hob).andThen .now
    refine (PySem.W.exm_one (K := X.K) J5.kIn LT hx).here ?_
    refine codeAny_handlers_suite_as ?_
    rw [hst] at fl₅
    refine lands_againW fl₅ fun h₆ fl₆ up₆ => ?_
    rw [← hst] at fl₆
    have J6 : L2.Inv (X.caught a) pins σ1 (upd H' a (XcO a C)) { s1 with heap := h₆ } := inv_caught (landed_inv (tk := 0) I0 hos hba hun hok fly fl₆ (up5.trans up₆)) a
    refine store_ok (X := X.caught a) J6 hN hi (.inl hl) (show RelV (.ref a) (.ref a) from rfl) (fun s7 J7 => ?_) (.inr hl)
    refine wpAny_mono (hs a pins s7 _ _ _ J7 (hE n3)) (fun f s8 h8 => ?_) fun _ _ z => False.elim z
    have back : ∀ {σ2 : L2.St} {H2 : Hp}, L2.Inv (X.caught a) pins σ2 H2 s8 → L2.Inv X pins σ2 H2 s8 := fun J =>
      ⟨I.ok, J.os, J.bare, J.base, J.loc, J.cell, J.free, J.freeC, J.pin, J.hok, J.len⟩
    cases f with
    | next =>
      obtain ⟨σ2, H2, J, q⟩ := h8
      exact unbind_ok (back J) hN hi hl fun s9 J9 => ⟨_, _, J9, q⟩
    | brk =>
      obtain ⟨σ2, H2, J, q⟩ := h8
      exact unbind_ok (back J) hN hi hl fun s9 J9 => ⟨_, _, J9, q⟩
    | cont =>
      obtain ⟨σ2, H2, J, q⟩ := h8
      exact unbind_ok (back J) hN hi hl fun s9 J9 => ⟨_, _, J9, q⟩
    | ret u =>
      obtain ⟨v, σ2, H2, J, rv, q⟩ := h8
      exact unbind_ok (back J) hN hi hl fun s9 J9 => ⟨v, _, _, J9, rv, q⟩
end
end L3

set_option Elab.async false
set_option linter.all false
set_option maxRecDepth 100000
set_option maxHeartbeats 4000000
namespace L3
open PySem PySem.Spec PySem.Calls PyProof.Rows PySem.W L2 Builtin Builtin.ObjectAttr Builtin.Getset_descriptor
/-! ### isinstance of a caught exception -/
section
variable {prog : Program} {w : PySem.World} {A : Around} {E : Value → Shared → Prop} {h : Heap} {g : Array GenState} {d : Drawn} {t : Nat} {os : OsState} {K : Frag} {a C : Addr}
theorem exc_class_get {tp : Value} {R : Result → Shared → Prop} (X : K.In h) (LT : Looks (model prog w) h (typeOf (.ref a)) (.ref C)) (hm : mroIn K C (.type "object") = some true)
    (hq : R (.ok (.ret (.ref C))) ⟨h, g, d, t, os⟩) : codeAny (model prog w) A (.call (.builtin "getset_descriptor.__get__") ⟨[.builtin "object.__class__", .ref a, tp], []⟩) R ⟨h, g, d, t, os⟩ := by
  have L1 := looks_mroIn (M := model prog w) X hm
  refine codeAny_call_builtin KF.slot_gs.plain KF.entry_gs (KF.slot_gs.check _ _ _ _ _ _ _ _ KF.type_class (KF.args_gs _ _ _) ?_)
  unfold Builtin.«getset_descriptor.__get__» descrGet
  rw [dga_obj]
  refine wpAny_bind (wpAny_pure ?_)
  unfold descrGetter descrCheckInstance descrNameAndClass isInstance
  simp only [KF.owner_class]
  repeat lk
  refine ⟨Code.quiet_builtin _ (by decide +kernel), codeAny_builtin KF.entry_class ?_⟩
  unfold Builtin.«object.__class__» shownTypeOf
  repeat lk
  exact hq
theorem exc_class_find (X : K.In h) (ha : findIn K (.ref C) "__class__" = some (some (.builtin "object.__class__"))) (hn : specialIn K (.builtin "object.__class__") "__get__" = some (some (.builtin "getset_descriptor.__get__")))
    (htk : takesIn K (.builtin "object.__class__") = some true) : Looks (model prog w) h (find (.ref a) (.ref C) "__class__") (.bind (.builtin "getset_descriptor.__get__") (.builtin "object.__class__")) := by
  have L1 := looks_findIn (M := model prog w) X ha
  have L2 : Looks (model prog w) h (getOf (some (.builtin "object.__class__"))) (some (.builtin "getset_descriptor.__get__")) := looks_specialIn X hn
  have L3 := looks_takesIn (M := model prog w) X htk
  refine L1.andThen (L2.andThen ?_)
  exact (show Looks (model prog w) h (dataDescriptor? (some (.builtin "object.__class__")) (some (.builtin "getset_descriptor.__get__"))) (some (.builtin "getset_descriptor.__get__", .builtin "object.__class__")) from L3.andThen .now).andThen (Looks.tag .now)
theorem exc_class_entry {tk : Tok} {Q : Fin → Shared → Prop} (X : K.In h) (LT : Looks (model prog w) h (typeOf (.ref a)) (.ref C)) (hm : mroIn K C (.type "object") = some true)
    (ha : findIn K (.ref C) "__class__" = some (some (.builtin "object.__class__"))) (hn : specialIn K (.builtin "object.__class__") "__get__" = some (some (.builtin "getset_descriptor.__get__"))) (htk : takesIn K (.builtin "object.__class__") = some true)
    (hq : Q (.done (.ret (.ref C))) ⟨h, g, d, t, os⟩) : wpAny (model prog w) A (Builtin.«object.__getattribute__» ⟨[.ref a, .str "__class__" tk], []⟩) Q E ⟨h, g, d, t, os⟩ := by
  have LF := exc_class_find (prog := prog) (w := w) (a := a) X ha hn htk
  refine wpAny_bind (wpAny_pure (wpAny_bind (wpAny_pure (wpAny_bind (LT.at (wpAny_bind (LF.at ?_)))))))
  show wpAny _ _ (holding [_] (call (.builtin "getset_descriptor.__get__") [.builtin "object.__class__", .ref a, .ref C]) >>= ret) _ _ _
  exact wpAny_bind (wpAny_holding (wpAny_call (exc_class_get X LT hm (wpAny_pure hq))))
theorem exc_class_call {tk : Tok} {R : Result → Shared → Prop} (X : K.In h) (LT : Looks (model prog w) h (typeOf (.ref a)) (.ref C)) (hm : mroIn K C (.type "object") = some true) (hbe : mroIn K C (.type "BaseException") = some true)
    (ha : findIn K (.ref C) "__class__" = some (some (.builtin "object.__class__"))) (hn : specialIn K (.builtin "object.__class__") "__get__" = some (some (.builtin "getset_descriptor.__get__"))) (htk : takesIn K (.builtin "object.__class__") = some true)
    (hq : R (.ok (.ret (.ref C))) ⟨h, g, d, t, os⟩) : codeAny (model prog w) A (.call (.builtin "BaseException.__getattribute__") ⟨[.ref a, .str "__class__" tk], []⟩) R ⟨h, g, d, t, os⟩ := by
  have hk : builtinKind "BaseException.__getattribute__" = some .slot := by decide +kernel
  have hsplit : splitId "BaseException.__getattribute__" = some ("BaseException", "__getattribute__") := by decide +kernel
  have LB : Looks (model prog w) h (isInstance (.ref a) (.type "BaseException")) true := LT.andThen (looks_mroIn (M := model prog w) X hbe)
  have hargs := F.args_bexc_ga (.ref a) (.str "__class__" tk)
  refine codeAny_call_builtin F.excAttr_ValueError.ga.plain F.entry_bexc_ga ?_
  simp only [checkBuiltinCall, hk, hsplit]
  refine wpAny_bind (LB.at ?_)
  refine wpAny_of_eq (a := ()) (by first | exact hargs | simpa using hargs) ?_
  exact exc_class_entry X LT hm ha hn htk hq
theorem exc_class_attr {Q : Option Value → Shared → Prop} (X : K.In h) (LT : Looks (model prog w) h (typeOf (.ref a)) (.ref C)) (hga : findIn K (.ref C) "__getattribute__" = some (some (.builtin "BaseException.__getattribute__")))
    (hgh : findIn K (.ref C) "__getattr__" = some none) (hm : mroIn K C (.type "object") = some true) (hbe : mroIn K C (.type "BaseException") = some true)
    (ha : findIn K (.ref C) "__class__" = some (some (.builtin "object.__class__"))) (hn : specialIn K (.builtin "object.__class__") "__get__" = some (some (.builtin "getset_descriptor.__get__"))) (htk : takesIn K (.builtin "object.__class__") = some true)
    (hq : Q (some (.ref C)) ⟨h, g, d, t + 1, os⟩) : wpAny (model prog w) A (getAttr? (.ref a) "__class__") Q E ⟨h, g, d, t, os⟩ := by
  have L1 := looks_findIn (M := model prog w) X hga
  have L2 := looks_findIn (M := model prog w) X hgh
  have hbs := F.excAttr_ValueError.ga.bind (.ref a)
  have hx2 : (Value.builtin "BaseException.__getattribute__" == Value.builtin "object.__getattribute__") = false := by decide +kernel
  unfold getAttr? getAttrBy? getAttrBy
  refine wpAny_bind (wpAny_mkText (wpAny_bind (wpAny_attempt (wpAny_holding (wpAny_bind (LT.at (wpAny_bind (L1.at ?_))))))))
  dsimp only
  rw [hx2, Bool.and_false, if_neg Bool.false_ne_true]
  unfold getAttrByItsOwn hookBefore
  rw [if_pos (show onTheHeap (.ref C) = true from rfl)]
  refine wpAny_bind (L2.at (wpAny_bind (wpAny_attempt (wpAny_holding ?_))))
  unfold callGetattribute boundAndCalled
  rw [Bool.false_and, if_neg Bool.false_ne_true, hbs]
  refine wpAny_bind (wpAny_pure ?_)
  refine wpAny_call (exc_class_call X LT hm hbe ha hn htk ?_)
  exact wpAny_pure (wpAny_pure hq)
/-- what is needed of a class of exceptions -/
structure ExcK (K : Frag) (C : Addr) : Prop where
  ga : findIn K (.ref C) "__getattribute__" = some (some (.builtin "BaseException.__getattribute__"))
  gh : findIn K (.ref C) "__getattr__" = some none
  ob : mroIn K C (.type "object") = some true
  be : mroIn K C (.type "BaseException") = some true
  cl : findIn K (.ref C) "__class__" = some (some (.builtin "object.__class__"))
  gt : specialIn K (.builtin "object.__class__") "__get__" = some (some (.builtin "getset_descriptor.__get__"))
  tk : takesIn K (.builtin "object.__class__") = some true
  hd : hasDictIn K C = true
theorem xc_type {M : Model} (x : XcAt a C h) : Looks M h (typeOf (.ref a)) (.ref C) := by
  obtain ⟨o, vs, e, c, dd⟩ := x
  exact c ▸ (Looks.ld e).andThen .now
theorem kitx_exc (B : ExcK K C) : KitX K (.ref a) (.ref C) (XcAt a C) where
  ty := fun _ _ _ x => xc_type x
  it := fun _ _ X _ => by
    obtain ⟨cdD, hcD, _⟩ := any_some B.hd
    unfold clsIn at hcD
    split at hcD
    · rename_i c' d' cd' sl' ho
      intro A' Q' E' s' k q
      unfold isType loadHead
      exact wpAny_bind (wpAny_loadPart (k _ _ (X _ _ ho)) (wpAny_pure q))
    · cases hcD
  ne := fun h tp dd its n sl X htp => by
    obtain ⟨cdD, hcD, _⟩ := any_some B.hd
    refine Bool.eq_false_iff.mpr fun q => ?_
    have e : C = tp := Value.ref.inj (beq_iff_eq.mp q)
    subst e
    unfold clsIn at hcD
    split at hcD
    · rename_i c' d' cd' sl' ho
      have z := (X _ _ ho).symm.trans htp
      cases z
    · cases hcD
  ca := fun {prog w A E Q s} X x k => by
    obtain ⟨hh, g, d, t, os⟩ := s
    exact exc_class_attr X (xc_type x) B.ga B.gh B.ob B.be B.cl B.gt B.tk k
end
section
variable {X : Cx}
/-- isinstance(e, c), e a caught exception, c a class -/
def rIsX (K : Frag) (c : V) : List V → Hp → VK → Prop := fun xs H Q => ∃ p C u b, xs = [.ref p, c] ∧ H p = some (XcO p C) ∧ ExcK K C ∧ RelV c u ∧ kitOne K (.ref C) u = some b ∧ Q (.bl b) H
theorem relV_cls {c : V} {u v : Value} (h : RelV c u) (h2 : RelV c v) (hc : (∃ C, c = .ref C) ∨ ∃ n, c = .ty n) : u = v := by
  rcases hc with ⟨C, rfl⟩ | ⟨n, rfl⟩
  · exact (show u = Value.ref C from h).trans (show v = Value.ref C from h2).symm
  · exact (show u = Value.type n from h).trans (show v = Value.type n from h2).symm
theorem call_isX {K : Frag} (hK : X.K = K) {c : V} (hc : (∃ C, c = .ref C) ∨ ∃ n, c = .ty n) : CallR X (.builtin "isinstance") (rIsX K c) := by
  subst hK
  intro pins s σ H xs us Q I r h
  obtain ⟨p, C, u', b, rfl, hp, B, rc, hk, q⟩ := h
  obtain ⟨u, v, rfl, ru, rv⟩ := vals2 r
  cases (show u = Value.ref p from ru)
  obtain rfl := relV_cls rc rv hc
  have x : XcAt p C s.heap := (I.hok p _ hp).1
  exact kia_one (kitx_exc (a := p) B) I.kIn x hk (fun z => nomatch z) fun tk => ⟨.bl b, H, I.tok _, rfl, q⟩
theorem refs_same : ∀ {cs : List V} {us ws : List Value}, (∀ c ∈ cs, ∃ C, c = V.ref C) → Vals cs us → Vals cs ws → us = ws
  | [], _, _, _, .nil, .nil => rfl
  | c :: r, _, _, h, .cons a b, .cons a' b' => by
    obtain ⟨C, rfl⟩ := h c (.head _)
    have e1 := (show _ = Value.ref C from a).trans (show _ = Value.ref C from a').symm
    rw [e1, refs_same (fun c hc => h c (.tail _ hc)) b b']
/-- isinstance(e, (c, ..)), e a caught exception -/
def rIsXT (K : Frag) (cs : List V) (us : List Value) : List V → Hp → VK → Prop := fun xs H Q => ∃ p C t b, xs = [.ref p, .ref t] ∧ H p = some (XcO p C) ∧ ExcK K C ∧ H t = some (.tup cs) ∧ kitAny K (.ref C) us = some b ∧ Q (.bl b) H
theorem call_isXT {K : Frag} (hK : X.K = K) {cs : List V} {ws : List Value} (hc : ∀ c ∈ cs, ∃ C, c = V.ref C) (rw' : Vals cs ws) : CallR X (.builtin "isinstance") (rIsXT K cs ws) := by
  subst hK
  intro pins s σ H xs us Q I r h
  obtain ⟨p, C, t, b, rfl, hp, B, ht, hk, q⟩ := h
  obtain ⟨u, v, rfl, ru, rv⟩ := vals2 r
  cases (show u = Value.ref p from ru)
  cases (show v = Value.ref t from rv)
  have x : XcAt p C s.heap := (I.hok p _ hp).1
  obtain ⟨_, its, rt, ⟨oc, od, oda, osl⟩, e1, e2, n, e3⟩ := (show ObjOk X.prog X.w H s.heap t (.tup cs) from I.hok t _ ht)
  dsimp only at e2 e3
  subst e2 e3
  obtain rfl := refs_same hc rw' rt
  exact kia_tup (kitx_exc (a := p) B) I.kIn x e1 hk (fun z => nomatch z) fun tk => ⟨.bl b, H, I.tok _, rfl, q⟩
end
end L3

set_option Elab.async false
set_option linter.all false
set_option maxRecDepth 100000
set_option maxHeartbeats 4000000
namespace L3
open PySem PySem.Spec PyProof.Rows L2
/-! ### defs that raise -/
/-- statements that are not reached -/
theorem pss_never {X : Cx} {sts : List Stmt} : PSs X sts (fun _ _ _ => False) := fun _ _ _ _ _ _ h => False.elim h
section
variable {P : Program} {w : World} {K : PySem.W.Frag} {mg : Str → Option Value} {base : Heap}
/-- a def that may raise: its body as a term of rules -/
theorem fun_okX {x qual : Str} {st : Stmt} {f : Addr} {fd : FuncData} {N ps : List Str} {k : Nat} {sp : Sp} (F : Fun K x qual st f fd) (S : FnScope N ps (defScope st)) (len : ∀ vs H Q E, sp vs H Q E → vs.length = ps.length)
    (hbody : ∀ (cdv : Value) (A : Around) (outer : List Env) (s : Shared) (H : Hp) (vs : List V) (Q : VK) (E : XK), Room k (A.deeper (envOfC qual (defScope st) s.heap.objs.size f cdv)) → sp vs H Q E →
      ∃ t, PSs (cxOf (CXe P w) P w K mg base N qual (defScope st) f cdv A outer s H E) (defBody st) t ∧ t { nx := fun _ H' => Q .non H', rt := Q } (start N vs) H) : FnOk P w K mg base (CXe P w) (k + 1) f fd ps sp := by
  obtain ⟨oc, od, kV, doc, pm, an, cdv, ct, osl, rfl, lk, hcd⟩ := F.ex
  exact fn_of lk hcd S len fun A outer s H vs Q E hr hsp => hbody cdv A outer s H vs Q E hr hsp
end
section
variable {P : Program} {w : World} {K : PySem.W.Frag} {mg : Str → Option Value} {base : Heap} {N : List Str} {qual : Str} {scope : Scope} {f : Addr} {cd : Value} {A : Around} {outer : List Env} {s₀ : Shared} {H₀ : Hp} {E : XK}
theorem raises_cx : Raises (cxOf (CXe P w) P w K mg base N qual scope f cd A outer s₀ H₀ E) E := fun pins σ H s h' e C vs I hm hE => leave_made I hm hE
end
section
variable {X : Cx} {k : Nat} {f C : Addr} {fd : FuncData} {ps : List Str} {sp : Sp} {x : Str} {p pos : Pos} {e : Expr} {es : List Expr} {t : TA}
/-- f(e, ..), f may let an exception out -/
def tCallX (sp : Sp) (t : TA) : L2.St → Hp → VK → XK → Prop := fun σ H Q E => t σ H fun vs H1 => sp vs H1 Q E
/-- return e, in a try -/
def tRetX (te : L2.St → Hp → VK → XK → Prop) : L2.Ends → XS → L2.St → Hp → Prop := fun D E σ H => te σ H D.rt (fun e c H1 => E e c σ H1)
end
end L3

set_option Elab.async false
set_option linter.all false
set_option maxRecDepth 100000
set_option maxHeartbeats 4000000
namespace L3
open PySem PySem.Spec PyProof.Rows L2
/-! ### what makes no world -/
theorem all_congr' {α : Type} {p q : α → Bool} : ∀ {l : List α}, (∀ x ∈ l, p x = q x) → l.all p = l.all q
  | [], _ => rfl
  | x :: r, h => by rw [List.all_cons, List.all_cons, h x (.head _), all_congr' fun y hy => h y (.tail _ hy)]
theorem makesW_same {H H' : Hp} {x y z u : V} (s : Same H H') (kx : KdLL H x) (ky : KdLL H y) (kz : KdL H z) (ku : KdL H u) : makesW H' x y z u = makesW H x y z u := by
  unfold makesW
  rw [lstOf_same s kx.1, lstOf_same s ky.1]
  cases hx : lstOf H x with
  | none => rfl
  | some ss =>
    cases hy : lstOf H y with
    | none => rfl
    | some ws =>
      dsimp only
      rw [all_congr' (fun a ha => areNames_same s ((kx.2 ss hx).2 a ha).1), all_congr' (fun a ha => someRooms_same s ((ky.2 ws hy).2 a ha).1), someRooms_same s kz.1, areNames_same s ku.1, lstOf_same s ku.1]
/-- no names; no rooms of n -/
def BN (H : Hp) (v : V) : Prop := KdL H v ∧ areNames H v = false
def BR (n : Int) (H : Hp) (v : V) : Prop := KdL H v ∧ someRooms H n v = false
theorem BN.mono {H H' : Hp} {v : V} (s : Same H H') (h : BN H v) : BN H' v := ⟨h.1.mono s, (areNames_same s h.1.1).trans h.2⟩
theorem BR.mono {n : Int} {H H' : Hp} {v : V} (s : Same H H') (h : BR n H v) : BR n H' v := ⟨h.1.mono s, (someRooms_same s h.1.1).trans h.2⟩
theorem kdl_of {H : Hp} {v : V} (k : Kd H v) (h : lstOf H v = none) : KdL H v := ⟨k, fun xs e => by rw [h] at e; cases e⟩
theorem bn_of {H : Hp} {v : V} (k : Kd H v) (h : lstOf H v = none) : BN H v := ⟨kdl_of k h, by unfold areNames; rw [h]⟩
theorem br_of {n : Int} {H : Hp} {v : V} (k : Kd H v) (h : lstOf H v = none) : BR n H v := ⟨kdl_of k h, by unfold someRooms; rw [h]⟩
theorem lstOf_no {H : Hp} {a : Addr} {o : HO} (h : H a = some o) (hn : ∀ xs, o ≠ .lst xs) : lstOf H (.ref a) = none := by
  show (match H a with | some (HO.lst xs) => some xs | _ => none) = none
  rw [h]
  cases o <;> first | rfl | exact absurd rfl (hn _)
theorem kdl_lst {H : Hp} {a : Addr} {xs : List V} (h : H a = some (.lst xs)) (hl : xs.length ≤ 1000) (k : ∀ y ∈ xs, Kd H y) : KdL H (.ref a) := ⟨.lst h, fun ys e => by rw [lstOf_ref h] at e; cases e; exact ⟨hl, k⟩⟩
theorem bn_lst {H : Hp} {a : Addr} {xs : List V} (h : H a = some (.lst xs)) (hl : xs.length ≤ 1000) (k : ∀ y ∈ xs, Kd H y) (b : (xs.all isNameV && decide xs.Nodup) = false) : BN H (.ref a) :=
  ⟨kdl_lst h hl k, by unfold areNames; rw [lstOf_ref h]; exact b⟩
theorem br_lst {n : Int} {H : Hp} {a : Addr} {xs : List V} (h : H a = some (.lst xs)) (hl : xs.length ≤ 1000) (k : ∀ y ∈ xs, Kd H y) (b : (xs.all (isRoomV n) && !xs.isEmpty && decide xs.Nodup) = false) : BR n H (.ref a) :=
  ⟨kdl_lst h hl k, by unfold someRooms; rw [lstOf_ref h]; exact b⟩
theorem all_no {α : Type} {p : α → Bool} {l : List α} {x : α} (hx : x ∈ l) (h : p x = false) : l.all p = false := Bool.eq_false_iff.mpr fun q => by rw [List.all_eq_true.mp q x hx] at h; cases h
theorem KdLL.of_lst {H : Hp} {a : Addr} {xs : List V} (h : H a = some (.lst xs)) (hl : xs.length ≤ 1000) (k : ∀ y ∈ xs, KdL H y) : KdLL H (.ref a) := ⟨.lst h, fun ys e => by rw [lstOf_ref h] at e; cases e; exact ⟨hl, k⟩⟩
theorem kdll_of {H : Hp} {v : V} (k : Kd H v) (h : lstOf H v = none) : KdLL H v := ⟨k, fun xs e => by rw [h] at e; cases e⟩
/-- where one of the parts is bad there is no world -/
theorem makesW_no {H : Hp} {x y z u : V} (h : (∃ xs v, lstOf H x = some xs ∧ v ∈ xs ∧ areNames H v = false) ∨ (∃ xs ys v, lstOf H x = some xs ∧ lstOf H y = some ys ∧ v ∈ ys ∧ someRooms H xs.length v = false) ∨
    (∃ xs, lstOf H x = some xs ∧ someRooms H xs.length z = false) ∨ areNames H u = false ∨ few3 (lstOf H u) = false ∨ lstOf H x = none ∨ lstOf H y = none ∨ ∃ xs ys, lstOf H x = some xs ∧ lstOf H y = some ys ∧ (ys.length ≠ xs.length ∨ xs.length = 0 ∨ 20 < xs.length)) : makesW H x y z u = false := by
  unfold makesW
  cases hx : lstOf H x with
  | none => rfl
  | some ss =>
    cases hy : lstOf H y with
    | none => rfl
    | some ws =>
      dsimp only
      refine Bool.eq_false_iff.mpr fun q => ?_
      simp only [Bool.and_eq_true, decide_eq_true_eq] at q
      obtain ⟨⟨⟨⟨⟨q1, q2⟩, q3⟩, q4⟩, q5⟩, q6, q7, q8⟩ := q
      rcases h with ⟨xs, v, e, m, b⟩ | ⟨xs, ys, v, e, e2, m, b⟩ | ⟨xs, e, b⟩ | b | b | b | b | ⟨xs, ys, e, e2, b⟩
      · rw [hx] at e; cases e
        rw [List.all_eq_true.mp q4 v m] at b; cases b
      · rw [hx] at e; cases e
        rw [hy] at e2; cases e2
        rw [List.all_eq_true.mp q5 v m] at b; cases b
      · rw [hx] at e; cases e
        rw [q6] at b; cases b
      · rw [q7] at b; cases b
      · rw [q8] at b; cases b
      · rw [hx] at b; cases b
      · rw [hy] at b; cases b
      · rw [hx] at e; cases e
        rw [hy] at e2; cases e2
        rcases b with b | b | b <;> omega
end L3

set_option Elab.async false
set_option linter.all false
set_option maxRecDepth 100000
set_option maxHeartbeats 4000000
namespace L3
open PySem PySem.Spec PyProof.Rows L2
/-! ### {key: number}, both constants -/
section
variable {X : Cx} {i j1 j2 : Nat} {pos p1 p2 : Pos}
def tD1 (k : Key) (v : Int) : TE := fun _ H Q => ∀ p, H p = none → Q (.ref p) (upd H p (.dK [(k, .int v)]))
theorem d1_end {pins : List (Addr × Obj)} {s : Shared} {σ : L2.St} {H : Hp} {Q : VK} {h' : Heap} {k : Key} {v : Int} {tk tk2 : Nat} (I : L2.Inv X pins σ H s) (h : tD1 k v σ H Q)
    (hm : h'.DictOf (mixKind X.prog X.w) s.heap.objs.size (merged [] [(k, Value.int v tk)])) (hs : Heap.SameBut s.heap.objs.size (s.heap.push { cls := .type "dict", data := .dict #[] }) h') :
    EP X pins σ Q (.ref s.heap.objs.size) { s with heap := h', toks := tk2 } := by
  have keep : ∀ b o, s.heap.get? b = some o → h'.get? b = some o := fun b o q => (hs.2 b (Nat.ne_of_lt (Heap.lt_size q))).trans (Heap.get?_push_of_some _ q)
  refine ⟨.ref s.heap.objs.size, _, I.laid (a := s.heap.objs.size) (o := .dK [(k, .int v)]) (t' := tk2) keep (Nat.le_refl _) ?_, rfl, h _ (I.hok.fresh (Nat.le_refl _))⟩
  exact ⟨by rw [sizeLine_eq]; simp, beq_eq_false_iff_ne.mpr (Ne.symm (Nat.ne_of_lt (Inv.big I))), [(k, Value.int v tk)], .cons ⟨rfl, ⟨_, rfl⟩⟩ .nil, hm⟩
theorem pe_d1S {x : Str} {v : Int} : PE X (.Dict [some (.Constant (.str x) j1 p1)] [.Constant (.int v) j2 p2] pos) (tD1 (.inr x) v) := by
  intro pins s σ H Q I h
  refine wpAny_Dict_pairs (knd := mixKind X.prog X.w) (pairs := [(eval (.Constant (.str x) j1 p1) X.env, do let x ← eval (.Constant (.int v) j2 p2) X.env; standAt pos; pure x)]) rfl (by simp) (by simp) ?_
  refine evalPairs_cons (Calls.Constant_str (wpAny_bind (wpAny_Constant_int (wpAny_bind (wpAny_standAt (wpAny_pure (evalPairs_nil ?_)))))))
  exact ⟨[(.inr x, .int v _)], ⟨mixKind_str _ _ x _, rfl, trivial⟩, Heap.DictOf.new _, fun h' hm hs => d1_end I h hm hs⟩
theorem pe_d1I {x v : Int} : PE X (.Dict [some (.Constant (.int x) j1 p1)] [.Constant (.int v) j2 p2] pos) (tD1 (.inl x) v) := by
  intro pins s σ H Q I h
  refine wpAny_Dict_pairs (knd := mixKind X.prog X.w) (pairs := [(eval (.Constant (.int x) j1 p1) X.env, do let x ← eval (.Constant (.int v) j2 p2) X.env; standAt pos; pure x)]) rfl (by simp) (by simp) ?_
  refine evalPairs_cons (wpAny_Constant_int (wpAny_bind (wpAny_Constant_int (wpAny_bind (wpAny_standAt (wpAny_pure (evalPairs_nil ?_)))))))
  exact ⟨[(.inl x, .int v _)], ⟨mixKind_int _ _ x _, rfl, trivial⟩, Heap.DictOf.new _, fun h' hm hs => d1_end I h hm hs⟩
end
end L3

set_option Elab.async false
set_option linter.all false
set_option maxRecDepth 100000
set_option maxHeartbeats 1000000
namespace L3
open PySem PySem.Spec PyProof.Rows L2
/-! ### displays of many constants, in one step -/
section
variable {X : Cx} {e : Expr} {es : List Expr} {v : V} {vs : List V} {t : TA}
end
/-! ### an argument, a display's item, that is no starred one: the item's own form is looked at alone -/
def starB : Expr → Bool
  | .Starred _ _ => true
  | _ => false
theorem star_c {e : Expr} {es : List Expr} {env : Env} (h : starB e = false) : starEach (e :: es) env = (false, eval e env) :: starEach es env := by
  cases e <;> first | rfl | cases h
theorem pa_c {X : Cx} {e : Expr} {es : List Expr} {te : TE} {t : TA} (ha : PE X e te) (hr : PA X es t) (h : starB e = false := by rfl) : PA X (e :: es) (tCons te t) := pa_cons ha hr (star_c h)
/-- the same, as a thing of its own (so that what it says is not looked into) -/
structure QA (X : Cx) (es : List Expr) (t : TA) : Prop where
  h : PA X es t
theorem qa_nil {X : Cx} : QA X [] tNil := ⟨pa_nil⟩
theorem qa_c {X : Cx} {e : Expr} {es : List Expr} {te : TE} {t : TA} (ha : PE X e te) (hr : QA X es t) (h : starB e = false := by rfl) : QA X (e :: es) (tCons te t) := ⟨pa_cons ha hr.h (star_c h)⟩
/-- [f(x) for x in xs]: what each element is, by all but the list that is being made -/
theorem comp_mapH {K : PySem.W.Frag} {a D : Addr} {xs : List V} {te : TE} {τ : L3.St} {H0 : Hp} {Q : VK} (hD : H0 D = none) (hq : SqL K H0 a xs) (hz : xs.length ≤ sizeLine) (R : Nat → V → Hp → Prop) (mono : ∀ i v H H', Same H H' → R i v H → R i v H')
    (step : ∀ i x H (N : V → Hp → Prop), xs[i]? = some x → Same H0 H → (∀ b, H b = none → b ≠ D) → (∀ v H4, Same H H4 → R i v (hide D H4) → N v H4) → te (some x :: τ) H N)
    (fin : ∀ H' ys, H' D = some (.lst ys) → Same H0 H' → ys.length = xs.length → (∀ i v, ys[i]? = some v → R i v (hide D H')) → Q (.ref D) H') :
    CompW (Itl K a) D (gName 0) tTrue te (none :: τ) H0 Q := by
  refine comp_gen (n := xs.length) (fun i σ H => ∃ z ys, σ = z :: τ ∧ H D = some (.lst ys) ∧ ys.length = i ∧ Same H0 H ∧ ∀ j v, ys[j]? = some v → R j v (hide D H)) ?_ ?_ ?_ ?_ ?_
  · exact ⟨none, [], rfl, upd_same, rfl, same_upd hD, fun j v e => by simp at e⟩
  · rintro i σ H hi ⟨z, ys, rfl, _, _, s, _⟩
    exact ⟨xs, xs[i], s.seq hq, by simp [hi]⟩
  · rintro σ H ⟨z, ys, rfl, _, _, s, _⟩
    exact ⟨xs, s.seq hq, Nat.le_refl _⟩
  · rintro i x σ H H2 hi ⟨z, ys, rfl, hy, hl, s, r⟩ ⟨rfl, hx⟩ N N0 hN hN0
    show te (some x :: τ) H2 _
    refine step i x H2 _ (hx xs (s.seq hq)) s (fun b e z => by rw [z, hy] at e; cases e) fun v H4 s4 r4 => ?_
    have hid : Same (hide D H4) (hide D (upd H4 D (.lst (ys ++ [v])))) := fun b o e => by
      obtain ⟨nb, e⟩ := hide_some e
      exact hide_mk nb (by rw [upd_ne nb]; exact e)
    have hid2 : Same (hide D H2) (hide D H4) := fun b o e => by
      obtain ⟨nb, e⟩ := hide_some e
      exact hide_mk nb (s4 _ _ e)
    refine hN v _ H4 ys (s4 _ _ hy) (by omega) ⟨some x, ys ++ [v], rfl, upd_same, by rw [List.length_append, List.length_singleton, hl], ?_, ?_⟩
    · exact (SameX.upd (Same.x (s.trans s4))).same hD
    · intro j w e
      by_cases hj : j < ys.length
      · rw [List.getElem?_append_left hj] at e
        exact mono j w _ _ (hid2.trans hid) (r j w e)
      · have ej : j = ys.length := by
          have := (List.getElem?_eq_some_iff.mp e).1
          rw [List.length_append, List.length_singleton] at this
          omega
        subst ej
        simp at e
        subst e
        rw [hl]
        exact mono i v _ _ hid r4
  · rintro σ H ⟨z, ys, rfl, hy, hl, s, r⟩
    exact fin H ys hy s hl r
end L3

set_option Elab.async false
set_option linter.all false
set_option maxRecDepth 100000
set_option maxHeartbeats 1000000
namespace KK
open PySem PySem.Spec L2 L3
def top (i : Nat) : Stmt := PySem.Challenge.pw_timecourt_k02_what_makes_no_world.main.body.getD i (.Pass ⟨0, 0, 0, 0⟩)
abbrev s__wall : Stmt := top 0
abbrev s_is_whole : Stmt := top 12
abbrev s_is_name : Stmt := top 13
abbrev s_is_room : Stmt := top 14
abbrev s_are_names : Stmt := top 15
abbrev s_are_rooms : Stmt := top 16
abbrev s_World_init : Stmt := inClass (top 20) 0
abbrev s_World_many : Stmt := inClass (top 20) 1
abbrev s_World_signs_of : Stmt := inClass (top 20) 2
abbrev s_World_ways_on : Stmt := inClass (top 20) 3
abbrev s_World_begins : Stmt := inClass (top 20) 4
abbrev s_World_fair_signs : Stmt := inClass (top 20) 5
abbrev s_makes_world : Stmt := top 21
abbrev s_are_some_rooms : Stmt := top 22
abbrev s__law_cell_at : Stmt := top 24
abbrev s__law_stream : Stmt := top 25
abbrev s__law_draw : Stmt := top 26
abbrev s__law_pool : Stmt := top 27
abbrev s__law_some : Stmt := top 28
abbrev s__law_parts : Stmt := top 29
abbrev s__law_refused : Stmt := top 30
abbrev s__law_put : Stmt := top 31
abbrev s__law_bad_names : Stmt := top 32
abbrev s__law_bad_rooms : Stmt := top 33
abbrev s__law_spoilt : Stmt := top 34
abbrev s_law : Stmt := top 35
theorem sc__wall : FnScope ["k"] ["k"] (defScope s__wall) := ⟨rfl, rfl, rfl, by decide +kernel, rfl, by decide +kernel, by decide +kernel⟩
theorem sc_is_whole : FnScope ["thing"] ["thing"] (defScope s_is_whole) := ⟨rfl, rfl, rfl, by decide +kernel, rfl, by decide +kernel, by decide +kernel⟩
theorem sc_is_name : FnScope ["thing"] ["thing"] (defScope s_is_name) := ⟨rfl, rfl, rfl, by decide +kernel, rfl, by decide +kernel, by decide +kernel⟩
theorem sc_is_room : FnScope ["thing", "many"] ["thing", "many"] (defScope s_is_room) := ⟨rfl, rfl, rfl, by decide +kernel, rfl, by decide +kernel, by decide +kernel⟩
theorem sc_are_names : FnScope ["thing"] ["thing"] (defScope s_are_names) := ⟨rfl, rfl, rfl, by decide +kernel, rfl, by decide +kernel, by decide +kernel⟩
theorem sc_are_rooms : FnScope ["thing", "many"] ["thing", "many"] (defScope s_are_rooms) := ⟨rfl, rfl, rfl, by decide +kernel, rfl, by decide +kernel, by decide +kernel⟩
theorem sc_World_init : FnScope ["self", "signs", "ways", "starts", "fair"] ["self", "signs", "ways", "starts", "fair"] (defScope s_World_init) := ⟨rfl, rfl, rfl, by decide +kernel, rfl, by decide +kernel, by decide +kernel⟩
theorem sc_World_many : FnScope ["self"] ["self"] (defScope s_World_many) := ⟨rfl, rfl, rfl, by decide +kernel, rfl, by decide +kernel, by decide +kernel⟩
theorem sc_World_signs_of : FnScope ["self", "room"] ["self", "room"] (defScope s_World_signs_of) := ⟨rfl, rfl, rfl, by decide +kernel, rfl, by decide +kernel, by decide +kernel⟩
theorem sc_World_ways_on : FnScope ["self", "room"] ["self", "room"] (defScope s_World_ways_on) := ⟨rfl, rfl, rfl, by decide +kernel, rfl, by decide +kernel, by decide +kernel⟩
theorem sc_World_begins : FnScope ["self"] ["self"] (defScope s_World_begins) := ⟨rfl, rfl, rfl, by decide +kernel, rfl, by decide +kernel, by decide +kernel⟩
theorem sc_World_fair_signs : FnScope ["self"] ["self"] (defScope s_World_fair_signs) := ⟨rfl, rfl, rfl, by decide +kernel, rfl, by decide +kernel, by decide +kernel⟩
theorem sc_makes_world : FnScope ["signs", "ways", "starts", "fair", "many"] ["signs", "ways", "starts", "fair"] (defScope s_makes_world) := ⟨rfl, rfl, rfl, by decide +kernel, rfl, by decide +kernel, by decide +kernel⟩
theorem sc_are_some_rooms : FnScope ["thing", "many"] ["thing", "many"] (defScope s_are_some_rooms) := ⟨rfl, rfl, rfl, by decide +kernel, rfl, by decide +kernel, by decide +kernel⟩
theorem sc__law_cell_at : FnScope ["_law_script", "_law_k"] ["_law_script", "_law_k"] (defScope s__law_cell_at) := ⟨rfl, rfl, rfl, by decide +kernel, rfl, by decide +kernel, by decide +kernel⟩
theorem sc__law_stream : FnScope ["_law_cell", "_law_many", "_law_found", "_law_left", "_law_number", "_law_step"] ["_law_cell", "_law_many"] (defScope s__law_stream) := ⟨rfl, rfl, rfl, by decide +kernel, rfl, by decide +kernel, by decide +kernel⟩
theorem sc__law_draw : FnScope ["_law_xs"] ["_law_xs"] (defScope s__law_draw) := ⟨rfl, rfl, rfl, by decide +kernel, rfl, by decide +kernel, by decide +kernel⟩
theorem sc__law_pool : FnScope ["_law_xs", "_law_pool_here", "_law_k", "_law_name", "_law_j"] ["_law_xs"] (defScope s__law_pool) := ⟨rfl, rfl, rfl, by decide +kernel, rfl, by decide +kernel, by decide +kernel⟩
theorem sc__law_some : FnScope ["_law_xs", "_law_things", "_law_least", "_law_number", "_law_found"] ["_law_xs", "_law_things", "_law_least"] (defScope s__law_some) := ⟨rfl, rfl, rfl, by decide +kernel, rfl, by decide +kernel, by decide +kernel⟩
theorem sc__law_parts : FnScope ["_law_xs", "_law_pool_here", "_law_many", "_law_rooms", "_law_signs", "_law_ways", "_law_fair"] ["_law_xs", "_law_pool_here"] (defScope s__law_parts) := ⟨rfl, rfl, rfl, by decide +kernel, rfl, by decide +kernel, by decide +kernel⟩
theorem sc__law_refused : FnScope ["_law_parts_here", "_law_found", "e", "_law_others"] ["_law_parts_here"] (defScope s__law_refused) := ⟨rfl, rfl, rfl, by decide +kernel, rfl, by decide +kernel, by decide +kernel⟩
theorem sc__law_put : FnScope ["_law_things", "_law_at", "_law_thing"] ["_law_things", "_law_at", "_law_thing"] (defScope s__law_put) := ⟨rfl, rfl, rfl, by decide +kernel, rfl, by decide +kernel, by decide +kernel⟩
theorem sc__law_bad_names : FnScope ["_law_names", "_law_some_here", "_law_found"] ["_law_names"] (defScope s__law_bad_names) := ⟨rfl, rfl, rfl, by decide +kernel, rfl, by decide +kernel, by decide +kernel⟩
theorem sc__law_bad_rooms : FnScope ["_law_rooms", "_law_many", "_law_some_here", "_law_found"] ["_law_rooms", "_law_many"] (defScope s__law_bad_rooms) := ⟨rfl, rfl, rfl, by decide +kernel, rfl, by decide +kernel, by decide +kernel⟩
theorem sc__law_spoilt : FnScope ["_law_xs", "_law_parts_here", "_law_signs", "_law_ways", "_law_starts", "_law_fair", "_law_many", "_law_at", "_law_way", "_law_some_here", "_law_bad", "_law_names", "_law_rooms", "_law_lists"] ["_law_xs", "_law_parts_here"] (defScope s__law_spoilt) := ⟨rfl, rfl, rfl, by decide +kernel, rfl, by decide +kernel, by decide +kernel⟩
theorem sc_law : FnScope ["_law_script", "_law_xs", "_law_parts_here", "_law_ys", "_law_turn", "_law_spoilt_here", "_law_great"] ["_law_script"] (defScope s_law) := ⟨rfl, rfl, rfl, by decide +kernel, rfl, by decide +kernel, by decide +kernel⟩
structure Adr where
  _wall : Addr
  _wall_fd : FuncData
  is_whole : Addr
  is_whole_fd : FuncData
  is_name : Addr
  is_name_fd : FuncData
  is_room : Addr
  is_room_fd : FuncData
  are_names : Addr
  are_names_fd : FuncData
  are_rooms : Addr
  are_rooms_fd : FuncData
  World_init : Addr
  World_init_fd : FuncData
  World_many : Addr
  World_many_fd : FuncData
  World_signs_of : Addr
  World_signs_of_fd : FuncData
  World_ways_on : Addr
  World_ways_on_fd : FuncData
  World_begins : Addr
  World_begins_fd : FuncData
  World_fair_signs : Addr
  World_fair_signs_fd : FuncData
  makes_world : Addr
  makes_world_fd : FuncData
  are_some_rooms : Addr
  are_some_rooms_fd : FuncData
  _law_cell_at : Addr
  _law_cell_at_fd : FuncData
  _law_stream : Addr
  _law_stream_fd : FuncData
  _law_draw : Addr
  _law_draw_fd : FuncData
  _law_pool : Addr
  _law_pool_fd : FuncData
  _law_some : Addr
  _law_some_fd : FuncData
  _law_parts : Addr
  _law_parts_fd : FuncData
  _law_refused : Addr
  _law_refused_fd : FuncData
  _law_put : Addr
  _law_put_fd : FuncData
  _law_bad_names : Addr
  _law_bad_names_fd : FuncData
  _law_bad_rooms : Addr
  _law_bad_rooms_fd : FuncData
  _law_spoilt : Addr
  _law_spoilt_fd : FuncData
  law : Addr
  law_fd : FuncData
  C_TimeError : Addr
  C_BadWorld : Addr
  C_BadSentence : Addr
  C_BadMachine : Addr
  C_TooMany : Addr
  C_NoText : Addr
  C_NoWorld : Addr
  C_World : Addr
structure Txt (K : PySem.W.Frag) (mg : Str → Option Value) (a : Adr) : Prop where
  f__wall : Fun K "_wall" "_wall" s__wall a._wall a._wall_fd
  n__wall : Binds K a._wall_fd ["k"] []
  g__wall : mg "_wall" = some (.ref a._wall)
  f_is_whole : Fun K "is_whole" "is_whole" s_is_whole a.is_whole a.is_whole_fd
  n_is_whole : Binds K a.is_whole_fd ["thing"] []
  g_is_whole : mg "is_whole" = some (.ref a.is_whole)
  f_is_name : Fun K "is_name" "is_name" s_is_name a.is_name a.is_name_fd
  n_is_name : Binds K a.is_name_fd ["thing"] []
  g_is_name : mg "is_name" = some (.ref a.is_name)
  f_is_room : Fun K "is_room" "is_room" s_is_room a.is_room a.is_room_fd
  n_is_room : Binds K a.is_room_fd ["thing", "many"] []
  g_is_room : mg "is_room" = some (.ref a.is_room)
  f_are_names : Fun K "are_names" "are_names" s_are_names a.are_names a.are_names_fd
  n_are_names : Binds K a.are_names_fd ["thing"] []
  g_are_names : mg "are_names" = some (.ref a.are_names)
  f_are_rooms : Fun K "are_rooms" "are_rooms" s_are_rooms a.are_rooms a.are_rooms_fd
  n_are_rooms : Binds K a.are_rooms_fd ["thing", "many"] []
  g_are_rooms : mg "are_rooms" = some (.ref a.are_rooms)
  f_World_init : Fun K "__init__" "World.__init__" s_World_init a.World_init a.World_init_fd
  n_World_init : Binds K a.World_init_fd ["self", "signs", "ways", "starts", "fair"] []
  m_World_init : Meth K a.C_World "__init__" a.World_init
  f_World_many : Fun K "many" "World.many" s_World_many a.World_many a.World_many_fd
  n_World_many : Binds K a.World_many_fd ["self"] []
  m_World_many : Meth K a.C_World "many" a.World_many
  f_World_signs_of : Fun K "signs_of" "World.signs_of" s_World_signs_of a.World_signs_of a.World_signs_of_fd
  n_World_signs_of : Binds K a.World_signs_of_fd ["self", "room"] []
  m_World_signs_of : Meth K a.C_World "signs_of" a.World_signs_of
  f_World_ways_on : Fun K "ways_on" "World.ways_on" s_World_ways_on a.World_ways_on a.World_ways_on_fd
  n_World_ways_on : Binds K a.World_ways_on_fd ["self", "room"] []
  m_World_ways_on : Meth K a.C_World "ways_on" a.World_ways_on
  f_World_begins : Fun K "begins" "World.begins" s_World_begins a.World_begins a.World_begins_fd
  n_World_begins : Binds K a.World_begins_fd ["self"] []
  m_World_begins : Meth K a.C_World "begins" a.World_begins
  f_World_fair_signs : Fun K "fair_signs" "World.fair_signs" s_World_fair_signs a.World_fair_signs a.World_fair_signs_fd
  n_World_fair_signs : Binds K a.World_fair_signs_fd ["self"] []
  m_World_fair_signs : Meth K a.C_World "fair_signs" a.World_fair_signs
  f_makes_world : Fun K "makes_world" "makes_world" s_makes_world a.makes_world a.makes_world_fd
  n_makes_world : Binds K a.makes_world_fd ["signs", "ways", "starts", "fair"] []
  g_makes_world : mg "makes_world" = some (.ref a.makes_world)
  f_are_some_rooms : Fun K "are_some_rooms" "are_some_rooms" s_are_some_rooms a.are_some_rooms a.are_some_rooms_fd
  n_are_some_rooms : Binds K a.are_some_rooms_fd ["thing", "many"] []
  g_are_some_rooms : mg "are_some_rooms" = some (.ref a.are_some_rooms)
  f__law_cell_at : Fun K "_law_cell_at" "_law_cell_at" s__law_cell_at a._law_cell_at a._law_cell_at_fd
  n__law_cell_at : Binds K a._law_cell_at_fd ["_law_script", "_law_k"] []
  g__law_cell_at : mg "_law_cell_at" = some (.ref a._law_cell_at)
  f__law_stream : Fun K "_law_stream" "_law_stream" s__law_stream a._law_stream a._law_stream_fd
  n__law_stream : Binds K a._law_stream_fd ["_law_cell", "_law_many"] []
  g__law_stream : mg "_law_stream" = some (.ref a._law_stream)
  f__law_draw : Fun K "_law_draw" "_law_draw" s__law_draw a._law_draw a._law_draw_fd
  n__law_draw : Binds K a._law_draw_fd ["_law_xs"] []
  g__law_draw : mg "_law_draw" = some (.ref a._law_draw)
  f__law_pool : Fun K "_law_pool" "_law_pool" s__law_pool a._law_pool a._law_pool_fd
  n__law_pool : Binds K a._law_pool_fd ["_law_xs"] []
  g__law_pool : mg "_law_pool" = some (.ref a._law_pool)
  f__law_some : Fun K "_law_some" "_law_some" s__law_some a._law_some a._law_some_fd
  n__law_some : Binds K a._law_some_fd ["_law_xs", "_law_things", "_law_least"] []
  g__law_some : mg "_law_some" = some (.ref a._law_some)
  f__law_parts : Fun K "_law_parts" "_law_parts" s__law_parts a._law_parts a._law_parts_fd
  n__law_parts : Binds K a._law_parts_fd ["_law_xs", "_law_pool_here"] []
  g__law_parts : mg "_law_parts" = some (.ref a._law_parts)
  f__law_refused : Fun K "_law_refused" "_law_refused" s__law_refused a._law_refused a._law_refused_fd
  n__law_refused : Binds K a._law_refused_fd ["_law_parts_here"] []
  g__law_refused : mg "_law_refused" = some (.ref a._law_refused)
  f__law_put : Fun K "_law_put" "_law_put" s__law_put a._law_put a._law_put_fd
  n__law_put : Binds K a._law_put_fd ["_law_things", "_law_at", "_law_thing"] []
  g__law_put : mg "_law_put" = some (.ref a._law_put)
  f__law_bad_names : Fun K "_law_bad_names" "_law_bad_names" s__law_bad_names a._law_bad_names a._law_bad_names_fd
  n__law_bad_names : Binds K a._law_bad_names_fd ["_law_names"] []
  g__law_bad_names : mg "_law_bad_names" = some (.ref a._law_bad_names)
  f__law_bad_rooms : Fun K "_law_bad_rooms" "_law_bad_rooms" s__law_bad_rooms a._law_bad_rooms a._law_bad_rooms_fd
  n__law_bad_rooms : Binds K a._law_bad_rooms_fd ["_law_rooms", "_law_many"] []
  g__law_bad_rooms : mg "_law_bad_rooms" = some (.ref a._law_bad_rooms)
  f__law_spoilt : Fun K "_law_spoilt" "_law_spoilt" s__law_spoilt a._law_spoilt a._law_spoilt_fd
  n__law_spoilt : Binds K a._law_spoilt_fd ["_law_xs", "_law_parts_here"] []
  g__law_spoilt : mg "_law_spoilt" = some (.ref a._law_spoilt)
  f_law : Fun K "law" "law" s_law a.law a.law_fd
  n_law : Binds K a.law_fd ["_law_script"] []
  g_law : mg "law" = some (.ref a.law)
  b_ValueError : mg "ValueError" = none
  b_all : mg "all" = none
  b_len : mg "len" = none
  b_range : mg "range" = none
  b_list : mg "list" = none
  b_isinstance : mg "isinstance" = none
  b_int : mg "int" = none
  b_tuple : mg "tuple" = none
  b_bool : mg "bool" = none
  b_str : mg "str" = none
  b_set : mg "set" = none
  b_sorted : mg "sorted" = none
  b_enumerate : mg "enumerate" = none
  c_LETTERS : ∃ u, mg "LETTERS" = some u ∧ RelV (.str "abcdefghijklmnopqrstuvwxyz") u
  c_MOST_LETTERS : ∃ u, mg "MOST_LETTERS" = some u ∧ RelV (.int 8) u
  c_MOST_ROOMS : ∃ u, mg "MOST_ROOMS" = some u ∧ RelV (.int 20) u
  c_MOST_FAIR : ∃ u, mg "MOST_FAIR" = some u ∧ RelV (.int 3) u
  g_TimeError : mg "TimeError" = some (.ref a.C_TimeError)
  x_TimeError : PySem.W.excIn K a.C_TimeError [.type "ValueError", .type "Exception", .type "BaseException", .type "object"] "ValueError.__new__" = true
  g_BadWorld : mg "BadWorld" = some (.ref a.C_BadWorld)
  x_BadWorld : PySem.W.excIn K a.C_BadWorld [.type "ValueError", .type "Exception", .type "BaseException", .type "object"] "ValueError.__new__" = true
  g_BadSentence : mg "BadSentence" = some (.ref a.C_BadSentence)
  x_BadSentence : PySem.W.excIn K a.C_BadSentence [.type "ValueError", .type "Exception", .type "BaseException", .type "object"] "ValueError.__new__" = true
  g_BadMachine : mg "BadMachine" = some (.ref a.C_BadMachine)
  x_BadMachine : PySem.W.excIn K a.C_BadMachine [.type "ValueError", .type "Exception", .type "BaseException", .type "object"] "ValueError.__new__" = true
  g_TooMany : mg "TooMany" = some (.ref a.C_TooMany)
  x_TooMany : PySem.W.excIn K a.C_TooMany [.type "ValueError", .type "Exception", .type "BaseException", .type "object"] "ValueError.__new__" = true
  g_NoText : mg "NoText" = some (.ref a.C_NoText)
  x_NoText : PySem.W.excIn K a.C_NoText [.type "ValueError", .type "Exception", .type "BaseException", .type "object"] "ValueError.__new__" = true
  g_NoWorld : mg "NoWorld" = some (.ref a.C_NoWorld)
  x_NoWorld : PySem.W.excIn K a.C_NoWorld [.type "ValueError", .type "Exception", .type "BaseException", .type "object"] "ValueError.__new__" = true
  k_BadWorld : ExcK K a.C_BadWorld
  sb_TimeError : PySem.W.subIn K (.ref a.C_TimeError) (.type "BaseException") = some true
  ne_BadWorld_TimeError : (Value.ref a.C_BadWorld == Value.ref a.C_TimeError) = false
  i1_BadWorld : PySem.W.kitOne K (.ref a.C_BadWorld) (.ref a.C_TimeError) = some true
  i2_BadWorld : PySem.W.kitOne K (.ref a.C_BadWorld) (.ref a.C_BadWorld) = some true
  i3_BadWorld : PySem.W.kitOne K (.ref a.C_BadWorld) (.type "ValueError") = some true
  i4_BadWorld : PySem.W.kitAny K (.ref a.C_BadWorld) [.ref a.C_BadMachine, .ref a.C_BadSentence, .ref a.C_NoText, .ref a.C_NoWorld, .ref a.C_TooMany] = some false
  cl_World : Cls K a.C_World
  g_World : mg "World" = some (.ref a.C_World)
  mk_World : Mk K a.C_World a.World_init
  ic_World : PySem.W.kitOne K (.ref a.C_World) (.ref a.C_World) = some true
  t1_World : PySem.W.findIn K (.ref a.C_World) "__class__" = some (some (.builtin "object.__class__"))
  t2_World : PySem.W.specialIn K (.builtin "object.__class__") "__get__" = some (some (.builtin "getset_descriptor.__get__"))
  t3_World : PySem.W.takesIn K (.builtin "object.__class__") = some true
  t4_World : PySem.W.mroIn K a.C_World (.type "object") = some true
  na_World_room_signs : NoAttr K a.C_World "room_signs"
  na_World_room_ways : NoAttr K a.C_World "room_ways"
  na_World_start_rooms : NoAttr K a.C_World "start_rooms"
  na_World_fair_names : NoAttr K a.C_World "fair_names"
end KK

set_option Elab.async false
set_option linter.all false
set_option maxRecDepth 100000
set_option maxHeartbeats 1000000
namespace KK
open PySem PySem.Spec L2 L3
def sp_is_whole (K : PySem.W.Frag) (a : Adr) : Sp := fun vs H Q _ => ∃ x, vs = [x] ∧ Kd H x ∧ Q (.bl (isIntV x)) H
theorem ok_is_whole {P : Program} {w : World} {K : PySem.W.Frag} {mg : Str → Option Value} {base : Heap} {a : Adr} (T : Txt K mg a) : FnOk P w K mg base CX0 1 a.is_whole a.is_whole_fd ["thing"] (sp_is_whole K a) := by
  refine T.f_is_whole.ok sc_is_whole (fun vs H Q E h => ?_) (fun cdv A outer s H vs Q E hr h => ?_)
  · obtain ⟨x, rfl, _⟩ := h
    rfl
  · obtain ⟨x, rfl, hk, k⟩ := h
    refine ⟨_, (pss_one (ps_ret (pe_and (pe_callB (call_isiK (K := K) rfl "int") rfl T.b_isinstance PyProof.Rows.Boot.«isinstance» (pa_cons (pv 0) (pa_cons (pe_bltn (v := .ty "int") rfl T.b_int PyProof.Rows.Boot.«int» rfl) pa_nil))) (pe_one (pe_not (pe_callB (call_isiK (K := K) rfl "bool") rfl T.b_isinstance PyProof.Rows.Boot.«isinstance» (pa_cons (pv 0) (pa_cons (pe_bltn (v := .ty "bool") rfl T.b_bool PyProof.Rows.Boot.«bool» rfl) pa_nil)))))))), ?_⟩
    cases hb : isTy H "int" x with
    | false =>
      obtain ⟨t, h1, h2⟩ := isi_f K (by simp) hk hb
      have e : isIntV x = false := by cases hk <;> first | rfl | (simp [isTy] at hb)
      rw [e] at k
      exact ⟨_, rfl, _, t, _, rfl, h1, h2, _, rfl, iteF k⟩
    | true =>
      obtain ⟨t, h1, h2⟩ := isi_f K (by simp) hk hb
      obtain ⟨u, h3, h4⟩ := isi_f K (T := "bool") (by simp) hk rfl
      have e : isIntV x = !isTy H "bool" x := by
        cases hk with
        | lst e => simp [isTy, e] at hb
        | tup e => simp [isTy, e] at hb
        | dK e => simp [isTy, e] at hb
        | non => simp [isTy] at hb
        | str z hz => simp [isTy] at hb
        | bl b => rfl
        | int i => rfl
      rw [e] at k
      exact ⟨_, rfl, _, t, _, rfl, h1, h2, _, rfl, iteT ⟨_, rfl, _, u, _, rfl, h3, h4, _, rfl, k⟩⟩
def sp_is_name (K : PySem.W.Frag) (a : Adr) : Sp := fun vs H Q _ => ∃ x, vs = [x] ∧ Kd H x ∧ ∀ H', Same H H' → Q (.bl (isNameV x)) H'
theorem ok_is_name {P : Program} {w : World} {K : PySem.W.Frag} {mg : Str → Option Value} {base : Heap} {a : Adr} (T : Txt K mg a) : FnOk P w K mg base CX0 1 a.is_name a.is_name_fd ["thing"] (sp_is_name K a) := by
  refine T.f_is_name.ok sc_is_name (fun vs H Q E h => ?_) (fun cdv A outer s H vs Q E hr h => ?_)
  · obtain ⟨x, rfl, _⟩ := h
    rfl
  · obtain ⟨x, rfl, hk, k⟩ := h
    refine ⟨_, (pss_cons (ps_if (PW.pt (pw_or (pt_not (pt_val (pe_callB (call_isiK (K := K) rfl "str") rfl T.b_isinstance PyProof.Rows.Boot.«isinstance» (pa_cons (pv 0) (pa_cons (pe_bltn (v := .ty "str") rfl T.b_str PyProof.Rows.Boot.«str» rfl) pa_nil))))) (pw_or1 (pt_not (pt_chain op_le op_le pe_int (pe_callB (call_lenK (K := K) rfl) rfl T.b_len PyProof.Rows.Boot.«len» (pa_cons (pv 0) pa_nil)) (pe_gc rfl T.c_MOST_LETTERS)))))) (pss_one (ps_ret pe_bl)) pss_nil)
     (pss_one (ps_ret (pe_callB (call_allK (K := K) rfl rfl) rfl T.b_all PyProof.Rows.Boot.«all» (pa_cons (pe_comp (Nc := ["letter"]) (ix := [none]) (CompOk.of (by decide +kernel : compChk (defScope s_is_name) ["thing"] ["letter"] [none] _ = true)) rfl (pi_str (pv 0)) (fun _ _ _ _ _ => (pg_name (i := 0) (show List.Nodup (["letter"] : List Str) by decide +kernel) rfl (by first | exact Or.inl rfl | exact Or.inr rfl))) (fun _ _ _ _ _ => pts_nil) (fun _ _ _ _ _ => (pe_cmpR op_in_str (pv 0) (pe_gc rfl T.c_LETTERS) (by with_unfolding_all rfl)))) pa_nil))))), ?_⟩
    rcases kd_str hk with ⟨hb, z, rfl, hz⟩ | ⟨hb, e⟩
    · obtain ⟨t, h1, h2⟩ := isi_f K (by simp) hk hb
      refine ⟨_, rfl, _, t, _, rfl, h1, h2, _, rfl, iteF ?_⟩
      refine ⟨_, rfl, .inr (.inl ⟨z, rfl, by rw [sizeLine_eq]; omega, _, _, rfl, rfl, _, rfl, ?_⟩)⟩
      have fin : decide (1 ≤ (z.length : Int)) = true → decide ((z.length : Int) ≤ 8) = true → isNameV (.str z) = z.cps.toList.all isLow := fun a b => by
        have a' := of_decide_eq_true a
        have b' := of_decide_eq_true b
        have a2 : 1 ≤ z.length := by omega
        have b2 : z.length ≤ 8 := by omega
        simp [isNameV, isNameS, a2, b2]
      have nof : ¬ ((1 : Int) ≤ z.length ∧ (z.length : Int) ≤ 8) → isNameV (.str z) = false := fun q => by
        have : ¬ (1 ≤ z.length ∧ z.length ≤ 8) := by omega
        simp only [isNameV, isNameS]
        by_cases h1 : 1 ≤ z.length
        · have h2 : ¬ z.length ≤ 8 := fun h2 => this ⟨h1, h2⟩
          simp [h1, h2]
        · simp [h1]
      refine ite2 (fun c1 => ?_) (fun c1 => ?_)
      · refine ⟨_, _, rfl, rfl, _, rfl, ?_⟩
        cases c2 : decide ((z.length : Int) ≤ 8) with
        | false =>
          refine iteT ?_
          have q := k H (.refl H)
          rw [nof (fun q => by have := of_decide_eq_false c2; omega)] at q
          exact q
        | true =>
          refine iteF ⟨_, rfl, z, rfl, fun D hD => ?_⟩
          refine comp_gen (J := Its z) (n := z.cps.size) (fun i σ H' => Same H H' ∧ H' D = some (.lst ((z.cps.toList.take i).map fun c => V.bl (isLow c))) ∧ ∃ y, σ = [y]) ?_ (fun i σ H' hi _ => hi) (fun σ H' _ => Nat.le_refl _) ?_ ?_
          · exact ⟨same_upd hD, upd_same, _, rfl⟩
          · rintro i x σ H' H2 hi ⟨sm, hl, y, rfl⟩ ⟨rfl, c, hc, rfl⟩ N N0 hN hN0
            refine ⟨_, rfl, _, _, rfl, rfl, ?_⟩
            have el := PySem.StrLaws.found_one ("abcdefghijklmnopqrstuvwxyz" : Str) c
            refine hN _ _ _ _ hl (by rw [List.length_map, List.length_take, sizeLine_eq]; have : z.cps.size = z.length := rfl; omega) ⟨(SameX.upd (Same.x sm)).same hD, ?_, _, rfl⟩
            have hc' : z.cps.toList[i]? = some c := by rw [Array.getElem?_toList]; exact hc
            rw [upd_same, List.take_add_one, hc', List.map_append]
            refine congrArg (fun b => some (HO.lst (_ ++ [V.bl b]))) ?_
            rw [← mem_letters]
            exact el
          · rintro σ H' ⟨sm, hl, y, rfl⟩
            have et : z.cps.toList.take z.cps.size = z.cps.toList := by rw [← Array.length_toList]; exact List.take_length
            rw [et] at hl
            have q := k H' sm
            rw [fin c1 c2, ← all_id] at q
            exact ⟨D, z.cps.toList.map isLow, rfl, SqL.of (by rw [hl, List.map_map]; rfl), q⟩
      · refine ⟨_, rfl, iteT ?_⟩
        have q := k H (.refl H)
        rw [nof (fun q => c1 (decide_eq_true q.1))] at q
        exact q
    · obtain ⟨t, h1, h2⟩ := isi_f K (by simp) hk hb
      have q := k H (.refl H)
      rw [e] at q
      exact ⟨_, rfl, _, t, _, rfl, h1, h2, _, rfl, iteT (iteT q)⟩
def sp_is_room (K : PySem.W.Frag) (a : Adr) : Sp := fun vs H Q _ => ∃ x n, vs = [x, .int n] ∧ Kd H x ∧ Q (.bl (isRoomV n x)) H
theorem ok_is_room {P : Program} {w : World} {K : PySem.W.Frag} {mg : Str → Option Value} {base : Heap} {a : Adr} (T : Txt K mg a) : FnOk P w K mg base CX0 2 a.is_room a.is_room_fd ["thing", "many"] (sp_is_room K a) := by
  have G_is_whole := ok_is_whole (P := P) (w := w) (base := base) T
  refine T.f_is_room.ok sc_is_room (fun vs H Q E h => ?_) (fun cdv A outer s H vs Q E hr h => ?_)
  · obtain ⟨x, n, rfl, _⟩ := h
    rfl
  · obtain ⟨x, n, rfl, hk, k⟩ := h
    refine ⟨_, (pss_one (ps_ret (pe_and (pe_call G_is_whole (hr.mono (by decide)) rfl T.g_is_whole T.f_is_whole.kp T.n_is_whole .nil pass0 (pa_cons (pv 0) pa_nil)) (pe_one (pe_chain op_le op_lt pe_int (pv 0) (pv 1)))))), ?_⟩
    refine ⟨_, rfl, x, rfl, hk, _, rfl, ?_⟩
    cases x with
    | int i =>
      refine iteT ⟨_, rfl, _, _, rfl, rfl, _, rfl, ?_⟩
      cases c1 : decide (0 ≤ i) with
      | true =>
        refine iteT ⟨_, rfl, _, _, rfl, rfl, ?_⟩
        have e : isRoomV n (.int i) = decide (i < n) := by simp only [isRoomV, c1, Bool.true_and]
        rw [e] at k
        exact k
      | false =>
        have e : isRoomV n (.int i) = false := by simp only [isRoomV, c1, Bool.false_and]
        rw [e] at k
        exact iteF k
    | _ => exact iteF k
end KK

set_option Elab.async false
set_option linter.all false
set_option maxRecDepth 100000
set_option maxHeartbeats 1000000
namespace KK
open PySem PySem.Spec L2 L3
def sp_are_names (K : PySem.W.Frag) (a : Adr) : Sp := fun vs H Q _ => ∃ x, vs = [x] ∧ KdL H x ∧ ∀ H', Same H H' → Q (.bl (areNames H x)) H'
theorem ok_are_names {P : Program} {w : World} {K : PySem.W.Frag} {mg : Str → Option Value} {base : Heap} {a : Adr} (T : Txt K mg a) : FnOk P w K mg base CX0 2 a.are_names a.are_names_fd ["thing"] (sp_are_names K a) := by
  have G_is_name := ok_is_name (P := P) (w := w) (base := base) T
  refine T.f_are_names.ok sc_are_names (fun vs H Q E h => ?_) (fun cdv A outer s H vs Q E hr h => ?_)
  · obtain ⟨x, rfl, _⟩ := h
    rfl
  · obtain ⟨x, rfl, hk, k⟩ := h
    refine ⟨_, (pss_cons (ps_if (PW.pt (pw_or (pt_not (pt_val (pe_callB (call_isiK (K := K) rfl "list") rfl T.b_isinstance PyProof.Rows.Boot.«isinstance» (pa_cons (pv 0) (pa_cons (pe_bltn (v := .ty "list") rfl T.b_list PyProof.Rows.Boot.«list» rfl) pa_nil))))) (pw_or1 (pt_not (pt_val (pe_callB (call_allK (K := K) rfl rfl) rfl T.b_all PyProof.Rows.Boot.«all» (pa_cons (pe_comp (Nc := ["name"]) (ix := [none]) (CompOk.of (by decide +kernel : compChk (defScope s_are_names) ["thing"] ["name"] [none] _ = true)) rfl (pi_listK (K := K) rfl (pv 0)) (fun _ _ _ _ _ => (pg_name (i := 0) (show List.Nodup (["name"] : List Str) by decide +kernel) rfl (by first | exact Or.inl rfl | exact Or.inr rfl))) (fun _ _ _ _ _ => pts_nil) (fun _ _ _ _ _ => (pe_call G_is_name (hr.mono (by decide)) rfl T.g_is_name T.f_is_name.kp T.n_is_name .nil pass0 (pa_cons (pv 0) pa_nil)))) pa_nil))))))) (pss_one (ps_ret pe_bl)) pss_nil)
     (pss_one (ps_ret (pe_cmpR op_eq (pe_callB (call_lenK (K := K) rfl) rfl T.b_len PyProof.Rows.Boot.«len» (pa_cons (pe_callTy (call_setK (K := K) rfl rfl) rfl T.b_set PyProof.Rows.Boot.«set» (pa_cons (pv 0) pa_nil)) pa_nil)) (pe_callB (call_lenK (K := K) rfl) rfl T.b_len PyProof.Rows.Boot.«len» (pa_cons (pv 0) pa_nil)) (nomark _))))), ?_⟩
    rcases kd_list hk.1 with ⟨hb, p, xs, rfl, hp, hl⟩ | ⟨hb, e⟩
    · obtain ⟨t, h1, h2⟩ := isi_f K (by simp) hk.1 hb
      obtain ⟨hz, hy⟩ := hk.2 xs hl
      have hS : xs.length ≤ sizeLine := by rw [sizeLine_eq]; omega
      have ev : areNames H (.ref p) = (xs.all isNameV && decide xs.Nodup) := by unfold areNames; rw [hl]
      rw [ev] at k
      refine ⟨_, rfl, _, t, _, rfl, h1, h2, _, rfl, iteF ?_⟩
      refine ⟨_, rfl, p, rfl, ⟨xs, SqL.of hp⟩, fun D hD => ?_⟩
      refine comp_map (K := K) hD (SqL.of hp) hS (fun i v _ => ∀ x, xs[i]? = some x → v = .bl (isNameV x)) (fun _ _ _ _ _ q => q) ?_ ?_
      · intro i x H2 N hx sm hN
        refine ⟨_, rfl, x, rfl, (hy x (List.mem_of_getElem? hx)).mono sm, fun H3 s3 => hN _ _ s3 fun x' hx' => ?_⟩
        rw [hx] at hx'; cases hx'; rfl
      · intro H2 ys hD2 sm hlen hr
        have ey := all_map_of (f := isNameV) hlen fun i v x h1 h2 => hr i v h1 x h2
        refine ⟨D, _, rfl, SqL.of (by rw [hD2, ey]), _, rfl, ?_⟩
        rw [all_id]
        cases hall : xs.all isNameV with
        | false =>
          rw [hall] at k
          exact iteT (k H2 sm)
        | true =>
          rw [hall] at k
          obtain ⟨ks, rfl⟩ := keys_names hall
          rw [List.length_map] at hz
          refine iteF ⟨_, rfl, p, ks, rfl, SqL.of (sm _ _ hp), by omega, fun n c a1 a2 hc => ?_⟩
          have s3 : Same H (upd H2 c (SetN c n)) := sm.trans (same_upd hc)
          refine .inr (.inr ⟨c, n, rfl, upd_same, by omega, _, rfl, .inl ⟨p, _, rfl, .inl (SqL.of (s3 _ _ hp)), rfl, ?_⟩⟩)
          rw [dec_len rfl a2]
          exact k _ s3
    · obtain ⟨t, h1, h2⟩ := isi_f K (by simp) hk.1 hb
      have q := k H (.refl H)
      have e2 : areNames H x = false := by unfold areNames; rw [e]
      rw [e2] at q
      exact ⟨_, rfl, _, t, _, rfl, h1, h2, _, rfl, iteT (iteT q)⟩
def sp_are_rooms (K : PySem.W.Frag) (a : Adr) : Sp := fun vs H Q _ => ∃ x n, vs = [x, .int n] ∧ KdL H x ∧ ∀ H', Same H H' → Q (.bl (areRooms H n x)) H'
theorem ok_are_rooms {P : Program} {w : World} {K : PySem.W.Frag} {mg : Str → Option Value} {base : Heap} {a : Adr} (T : Txt K mg a) : FnOk P w K mg base CX0 3 a.are_rooms a.are_rooms_fd ["thing", "many"] (sp_are_rooms K a) := by
  have G_is_room := ok_is_room (P := P) (w := w) (base := base) T
  refine T.f_are_rooms.ok sc_are_rooms (fun vs H Q E h => ?_) (fun cdv A outer s H vs Q E hr h => ?_)
  · obtain ⟨x, n, rfl, _⟩ := h
    rfl
  · obtain ⟨x, n, rfl, hk, k⟩ := h
    refine ⟨_, (pss_one (ps_ret (pe_and (pe_callB (call_isiK (K := K) rfl "list") rfl T.b_isinstance PyProof.Rows.Boot.«isinstance» (pa_cons (pv 0) (pa_cons (pe_bltn (v := .ty "list") rfl T.b_list PyProof.Rows.Boot.«list» rfl) pa_nil))) (pe_one (pe_callB (call_allK (K := K) rfl rfl) rfl T.b_all PyProof.Rows.Boot.«all» (pa_cons (pe_comp (Nc := ["room", "many"]) (ix := [none, some 1]) (CompOk.of (by decide +kernel : compChk (defScope s_are_rooms) ["thing", "many"] ["room", "many"] [none, some 1] _ = true)) rfl (pi_listK (K := K) rfl (pv 0)) (fun _ _ _ _ _ => (pg_name (i := 0) (show List.Nodup (["room", "many"] : List Str) by decide +kernel) rfl (by first | exact Or.inl rfl | exact Or.inr rfl))) (fun _ _ _ _ _ => pts_nil) (fun _ _ _ _ _ => (pe_call G_is_room (hr.mono (by decide)) rfl T.g_is_room T.f_is_room.kp T.n_is_room .nil pass0 (pa_cons (pv 0) (pa_cons (pv 1) pa_nil))))) pa_nil)))))), ?_⟩
    rcases kd_list hk.1 with ⟨hb, p, xs, rfl, hp, hl⟩ | ⟨hb, e⟩
    · obtain ⟨t, h1, h2⟩ := isi_f K (by simp) hk.1 hb
      obtain ⟨hz, hy⟩ := hk.2 xs hl
      have hS : xs.length ≤ sizeLine := by rw [sizeLine_eq]; omega
      have ev : areRooms H n (.ref p) = xs.all (isRoomV n) := by unfold areRooms; rw [hl]
      rw [ev] at k
      refine ⟨_, rfl, _, t, _, rfl, h1, h2, _, rfl, iteT ?_⟩
      refine ⟨_, rfl, p, rfl, ⟨xs, SqL.of hp⟩, fun D hD => ?_⟩
      refine comp_map (K := K) hD (SqL.of hp) hS (fun i v _ => ∀ x, xs[i]? = some x → v = .bl (isRoomV n x)) (fun _ _ _ _ _ q => q) ?_ ?_
      · intro i x H2 N hx sm hN
        refine ⟨_, rfl, _, rfl, x, n, rfl, (hy x (List.mem_of_getElem? hx)).mono sm, hN _ _ (.refl _) fun x' hx' => ?_⟩
        rw [hx] at hx'; cases hx'; rfl
      · intro H2 ys hD2 sm hlen hr
        have ey := all_map_of (f := isRoomV n) hlen fun i v x h1 h2 => hr i v h1 x h2
        refine ⟨D, _, rfl, SqL.of (by rw [hD2, ey]), ?_⟩
        rw [all_id]
        exact k H2 sm
    · obtain ⟨t, h1, h2⟩ := isi_f K (by simp) hk.1 hb
      have q := k H (.refl H)
      have e2 : areRooms H n x = false := by unfold areRooms; rw [e]
      rw [e2] at q
      exact ⟨_, rfl, _, t, _, rfl, h1, h2, _, rfl, iteF q⟩
def sp_are_some_rooms (K : PySem.W.Frag) (a : Adr) : Sp := fun vs H Q _ => ∃ x n, vs = [x, .int n] ∧ KdL H x ∧ ∀ H', Same H H' → Q (.bl (someRooms H n x)) H'
theorem ok_are_some_rooms {P : Program} {w : World} {K : PySem.W.Frag} {mg : Str → Option Value} {base : Heap} {a : Adr} (T : Txt K mg a) : FnOk P w K mg base CX0 4 a.are_some_rooms a.are_some_rooms_fd ["thing", "many"] (sp_are_some_rooms K a) := by
  have G_are_rooms := ok_are_rooms (P := P) (w := w) (base := base) T
  refine T.f_are_some_rooms.ok sc_are_some_rooms (fun vs H Q E h => ?_) (fun cdv A outer s H vs Q E hr h => ?_)
  · obtain ⟨x, n, rfl, _⟩ := h
    rfl
  · obtain ⟨x, n, rfl, hk, k⟩ := h
    refine ⟨_, (pss_cons (ps_if (PW.pt (pw_or (pt_not (pt_val (pe_call G_are_rooms (hr.mono (by decide)) rfl T.g_are_rooms T.f_are_rooms.kp T.n_are_rooms .nil pass0 (pa_cons (pv 0) (pa_cons (pv 1) pa_nil))))) (pw_or1 (pt_cmpR op_eq (pe_callB (call_lenK (K := K) rfl) rfl T.b_len PyProof.Rows.Boot.«len» (pa_cons (pv 0) pa_nil)) pe_int (nomark _))))) (pss_one (ps_ret pe_bl)) pss_nil)
     (pss_one (ps_ret (pe_cmpR op_eq (pe_callB (call_lenK (K := K) rfl) rfl T.b_len PyProof.Rows.Boot.«len» (pa_cons (pe_callTy (call_setK (K := K) rfl rfl) rfl T.b_set PyProof.Rows.Boot.«set» (pa_cons (pv 0) pa_nil)) pa_nil)) (pe_callB (call_lenK (K := K) rfl) rfl T.b_len PyProof.Rows.Boot.«len» (pa_cons (pv 0) pa_nil)) (nomark _))))), ?_⟩
    refine ⟨_, rfl, _, rfl, x, n, rfl, hk, fun H1 s1 => ⟨_, rfl, ?_⟩⟩
    rcases kd_list hk.1 with ⟨hb, p, xs, rfl, hp, hl⟩ | ⟨hb, e⟩
    · obtain ⟨hz, hy⟩ := hk.2 xs hl
      have ev : areRooms H n (.ref p) = xs.all (isRoomV n) := by unfold areRooms; rw [hl]
      have ew : someRooms H n (.ref p) = (xs.all (isRoomV n) && !xs.isEmpty && decide xs.Nodup) := by unfold someRooms; rw [hl]
      rw [ew] at k
      rw [ev]
      cases hall : xs.all (isRoomV n) with
      | false =>
        rw [hall] at k
        exact iteT (iteT (k H1 s1))
      | true =>
        rw [hall] at k
        refine iteF ⟨_, rfl, .inl ⟨p, xs, rfl, .inl (SqL.of (s1 _ _ hp)), rfl, _, rfl, ?_⟩⟩
        cases xs with
        | nil =>
          exact iteT (k H1 s1)
        | cons y r =>
          have e0 : decide (V.int (((y :: r).length : Nat) : Int) = V.int 0) = false := by
            refine decide_eq_false fun q => ?_
            have q' := V.int.inj q
            rw [List.length_cons] at q'
            omega
          rw [e0]
          obtain ⟨ks, eks⟩ := keys_rooms hall
          rw [eks] at hp k hz
          rw [List.length_map] at hz
          refine iteF ⟨_, rfl, p, ks, rfl, SqL.of (s1 _ _ hp), by omega, fun m c a1 a2 hc => ?_⟩
          have s3 : Same H (upd H1 c (SetN c m)) := s1.trans (same_upd hc)
          refine .inr (.inr ⟨c, m, rfl, upd_same, by omega, _, rfl, .inl ⟨p, _, rfl, .inl (SqL.of (s3 _ _ hp)), rfl, ?_⟩⟩)
          rw [dec_len rfl a2]
          have q := k _ s3
          have ne : (!(ks.map kV).isEmpty) = true := by rw [← eks]; rfl
          rw [ne] at q
          exact q
    · have ev : areRooms H n x = false := by unfold areRooms; rw [e]
      have ew : someRooms H n x = false := by unfold someRooms; rw [e]
      rw [ew] at k
      rw [ev]
      exact iteT (iteT (k H1 s1))
end KK

set_option Elab.async false
set_option linter.all false
set_option maxRecDepth 100000
set_option maxHeartbeats 1000000
namespace KK
open PySem PySem.Spec L2 L3
def sp_makes_world (K : PySem.W.Frag) (a : Adr) : Sp := fun vs H Q _ => ∃ x y z u, vs = [x, y, z, u] ∧ KdLL H x ∧ KdLL H y ∧ KdL H z ∧ KdL H u ∧ ∀ H', Same H H' → Q (.bl (makesW H x y z u)) H'
theorem ok_makes_world {P : Program} {w : World} {K : PySem.W.Frag} {mg : Str → Option Value} {base : Heap} {a : Adr} (T : Txt K mg a) : FnOk P w K mg base CX0 5 a.makes_world a.makes_world_fd ["signs", "ways", "starts", "fair"] (sp_makes_world K a) := by
  have G_are_names := ok_are_names (P := P) (w := w) (base := base) T
  have G_are_some_rooms := ok_are_some_rooms (P := P) (w := w) (base := base) T
  refine T.f_makes_world.ok sc_makes_world (fun vs H Q E h => ?_) (fun cdv A outer s H vs Q E hr h => ?_)
  · obtain ⟨x, y, z, u, rfl, _⟩ := h
    rfl
  · obtain ⟨x, y, z, u, rfl, kx, ky, kz, ku, k⟩ := h
    refine ⟨_, (pss_cons (ps_if (PW.pt (pw_or (pt_not (pt_val (pe_callB (call_isiK (K := K) rfl "list") rfl T.b_isinstance PyProof.Rows.Boot.«isinstance» (pa_cons (pv 0) (pa_cons (pe_bltn (v := .ty "list") rfl T.b_list PyProof.Rows.Boot.«list» rfl) pa_nil))))) (pw_or1 (pt_not (pt_val (pe_callB (call_isiK (K := K) rfl "list") rfl T.b_isinstance PyProof.Rows.Boot.«isinstance» (pa_cons (pv 1) (pa_cons (pe_bltn (v := .ty "list") rfl T.b_list PyProof.Rows.Boot.«list» rfl) pa_nil)))))))) (pss_one (ps_ret pe_bl)) pss_nil)
     (pss_cons (ps_set (i := 4) sc_makes_world.nd rfl (by first | exact Or.inl rfl | exact Or.inr rfl) (pe_callB (call_lenK (K := K) rfl) rfl T.b_len PyProof.Rows.Boot.«len» (pa_cons (pv 0) pa_nil)))
     (pss_cons (ps_if (PW.pt (pw_or (pt_not (pt_chain op_le op_le pe_int (pv 4) (pe_gc rfl T.c_MOST_ROOMS))) (pw_or1 (pt_cmpR op_ne (pe_callB (call_lenK (K := K) rfl) rfl T.b_len PyProof.Rows.Boot.«len» (pa_cons (pv 1) pa_nil)) (pv 4) (nomark _))))) (pss_one (ps_ret pe_bl)) pss_nil)
     (pss_cons (ps_if (pt_not (pt_val (pe_callB (call_allK (K := K) rfl rfl) rfl T.b_all PyProof.Rows.Boot.«all» (pa_cons (pe_comp (Nc := ["names"]) (ix := [none]) (CompOk.of (by decide +kernel : compChk (defScope s_makes_world) ["signs", "ways", "starts", "fair", "many"] ["names"] [none] _ = true)) rfl (pi_listK (K := K) rfl (pv 0)) (fun _ _ _ _ _ => (pg_name (i := 0) (show List.Nodup (["names"] : List Str) by decide +kernel) rfl (by first | exact Or.inl rfl | exact Or.inr rfl))) (fun _ _ _ _ _ => pts_nil) (fun _ _ _ _ _ => (pe_call G_are_names (hr.mono (by decide)) rfl T.g_are_names T.f_are_names.kp T.n_are_names .nil pass0 (pa_cons (pv 0) pa_nil)))) pa_nil)))) (pss_one (ps_ret pe_bl)) pss_nil)
     (pss_cons (ps_if (pt_not (pt_val (pe_callB (call_allK (K := K) rfl rfl) rfl T.b_all PyProof.Rows.Boot.«all» (pa_cons (pe_comp (Nc := ["rooms", "many"]) (ix := [none, some 4]) (CompOk.of (by decide +kernel : compChk (defScope s_makes_world) ["signs", "ways", "starts", "fair", "many"] ["rooms", "many"] [none, some 4] _ = true)) rfl (pi_listK (K := K) rfl (pv 1)) (fun _ _ _ _ _ => (pg_name (i := 0) (show List.Nodup (["rooms", "many"] : List Str) by decide +kernel) rfl (by first | exact Or.inl rfl | exact Or.inr rfl))) (fun _ _ _ _ _ => pts_nil) (fun _ _ _ _ _ => (pe_call G_are_some_rooms (hr.mono (by decide)) rfl T.g_are_some_rooms T.f_are_some_rooms.kp T.n_are_some_rooms .nil pass0 (pa_cons (pv 0) (pa_cons (pv 1) pa_nil))))) pa_nil)))) (pss_one (ps_ret pe_bl)) pss_nil)
     (pss_one (ps_ret (pe_and (pe_call G_are_some_rooms (hr.mono (by decide)) rfl T.g_are_some_rooms T.f_are_some_rooms.kp T.n_are_some_rooms .nil pass0 (pa_cons (pv 2) (pa_cons (pv 4) pa_nil))) (pe_and (pe_call G_are_names (hr.mono (by decide)) rfl T.g_are_names T.f_are_names.kp T.n_are_names .nil pass0 (pa_cons (pv 3) pa_nil)) (pe_one (pe_cmpR op_le (pe_callB (call_lenK (K := K) rfl) rfl T.b_len PyProof.Rows.Boot.«len» (pa_cons (pv 3) pa_nil)) (pe_gc rfl T.c_MOST_FAIR) (nomark _)))))))))))), ?_⟩
    rcases kd_list kx.1 with ⟨hb, p, xs, rfl, hp, hl⟩ | ⟨hb, e⟩
    case inr =>
      obtain ⟨t, h1, h2⟩ := isi_f K (by simp) kx.1 hb
      have q := k H (.refl H)
      have e2 : makesW H x y z u = false := by unfold makesW; rw [e]
      rw [e2] at q
      exact ⟨_, rfl, _, t, _, rfl, h1, h2, _, rfl, iteT (iteT q)⟩
    obtain ⟨t, h1, h2⟩ := isi_f K (by simp) kx.1 hb
    refine ⟨_, rfl, _, t, _, rfl, h1, h2, _, rfl, iteF ?_⟩
    rcases kd_list ky.1 with ⟨hb2, p2, ys, rfl, hp2, hl2⟩ | ⟨hb2, e⟩
    case inr =>
      obtain ⟨t, h1, h2⟩ := isi_f K (by simp) ky.1 hb2
      have q := k H (.refl H)
      have e2 : makesW H (.ref p) y z u = false := by unfold makesW; rw [hl, e]
      rw [e2] at q
      exact ⟨_, rfl, _, t, _, rfl, h1, h2, _, rfl, iteT q⟩
    obtain ⟨t2, h3, h4⟩ := isi_f K (by simp) ky.1 hb2
    refine ⟨_, rfl, _, t2, _, rfl, h3, h4, _, rfl, iteF ?_⟩
    obtain ⟨hz, hy⟩ := kx.2 xs hl
    obtain ⟨hz2, hy2⟩ := ky.2 ys hl2
    have hS : xs.length ≤ sizeLine := by rw [sizeLine_eq]; omega
    have hS2 : ys.length ≤ sizeLine := by rw [sizeLine_eq]; omega
    have ev : makesW H (.ref p) (.ref p2) z u = (decide (1 ≤ xs.length) && decide (xs.length ≤ 20) && decide (ys.length = xs.length) && xs.all (areNames H) && ys.all (someRooms H xs.length) && (someRooms H xs.length z && (areNames H u && few3 (lstOf H u)))) := by unfold makesW; rw [hl, hl2]
    rw [ev] at k
    refine ⟨_, rfl, .inl ⟨p, xs, rfl, .inl (SqL.of hp), ?_⟩⟩
    refine ⟨_, rfl, _, _, rfl, rfl, _, rfl, ?_⟩
    cases c1 : decide ((1 : Int) ≤ xs.length) with
    | false =>
      have e1 : decide (1 ≤ xs.length) = false := decide_eq_false fun q => absurd (of_decide_eq_false c1) (by omega)
      rw [e1] at k
      exact iteF ⟨_, rfl, iteT (iteT (k H (.refl H)))⟩
    | true =>
    have e1 : decide (1 ≤ xs.length) = true := decide_eq_true (by have := of_decide_eq_true c1; omega)
    rw [e1] at k
    refine iteT ⟨_, _, rfl, rfl, _, rfl, ?_⟩
    cases c2 : decide ((xs.length : Int) ≤ 20) with
    | false =>
      have e2 : decide (xs.length ≤ 20) = false := decide_eq_false fun q => absurd (of_decide_eq_false c2) (by omega)
      rw [e2] at k
      exact iteT (iteT (k H (.refl H)))
    | true =>
    have e2 : decide (xs.length ≤ 20) = true := decide_eq_true (by have := of_decide_eq_true c2; omega)
    rw [e2] at k
    refine iteF ⟨_, rfl, .inl ⟨p2, ys, rfl, .inl (SqL.of hp2), _, rfl, rfl, _, rfl, ?_⟩⟩
    cases c3 : decide (V.int (ys.length : Int) = V.int (xs.length : Int)) with
    | false =>
      have e3 : decide (ys.length = xs.length) = false := decide_eq_false fun q => absurd (of_decide_eq_false c3) (by rw [q]; simp)
      rw [e3] at k
      exact iteT (k H (.refl H))
    | true =>
    have e3 : decide (ys.length = xs.length) = true := decide_eq_true (by have := V.int.inj (of_decide_eq_true c3); omega)
    rw [e3] at k
    refine iteF ⟨_, rfl, p, rfl, ⟨xs, SqL.of hp⟩, fun D hD => ?_⟩
    refine comp_map (K := K) hD (SqL.of hp) hS (fun i v _ => ∀ x, xs[i]? = some x → v = .bl (areNames H x)) (fun _ _ _ _ _ q => q) ?_ ?_
    · intro i x H2 N hx sm hN
      have hk := hy x (List.mem_of_getElem? hx)
      refine ⟨_, rfl, x, rfl, hk.mono sm, fun H3 s3 => hN _ _ s3 fun x' hx' => ?_⟩
      rw [hx] at hx'; cases hx'
      rw [areNames_same sm hk.1]
    intro H2 zs hD2 sm hlen hr
    have ey := all_map_of (f := areNames H) hlen fun i v x h1 h2 => hr i v h1 x h2
    refine ⟨D, _, rfl, SqL.of (by rw [hD2, ey]), _, rfl, ?_⟩
    rw [all_id]
    cases c4 : xs.all (areNames H) with
    | false =>
      rw [c4] at k
      exact iteT (k H2 sm)
    | true =>
    rw [c4] at k
    refine iteF ⟨_, rfl, p2, rfl, ⟨ys, SqL.of (sm _ _ hp2)⟩, fun D' hD' => ?_⟩
    refine comp_map (K := K) hD' (SqL.of (sm _ _ hp2)) hS2 (fun i v _ => ∀ x, ys[i]? = some x → v = .bl (someRooms H xs.length x)) (fun _ _ _ _ _ q => q) ?_ ?_
    · intro i x H3 N hx sm3 hN
      have hk := hy2 x (List.mem_of_getElem? hx)
      have s3 := sm.trans sm3
      refine ⟨_, rfl, _, rfl, x, _, rfl, hk.mono s3, fun H4 s4 => hN _ _ s4 fun x' hx' => ?_⟩
      rw [hx] at hx'; cases hx'
      rw [someRooms_same s3 hk.1]
    intro H3 zs3 hD3 sm3 hlen3 hr3
    have s3 := sm.trans sm3
    have ey3 := all_map_of (f := someRooms H xs.length) hlen3 fun i v x h1 h2 => hr3 i v h1 x h2
    refine ⟨D', _, rfl, SqL.of (by rw [hD3, ey3]), _, rfl, ?_⟩
    rw [all_id]
    cases c5 : ys.all (someRooms H xs.length) with
    | false =>
      rw [c5] at k
      exact iteT (k H3 s3)
    | true =>
    rw [c5] at k
    refine iteF ⟨_, rfl, _, rfl, z, _, rfl, kz.mono s3, fun H4 s4 => ⟨_, rfl, ?_⟩⟩
    rw [someRooms_same s3 kz.1]
    have s5 := s3.trans s4
    cases c6 : someRooms H xs.length z with
    | false =>
      rw [c6] at k
      exact iteF (k H4 s5)
    | true =>
    rw [c6] at k
    refine iteT ⟨_, rfl, u, rfl, ku.mono s5, fun H5 s6 => ⟨_, rfl, ?_⟩⟩
    rw [areNames_same s5 ku.1]
    have s7 := s5.trans s6
    cases c7 : areNames H u with
    | false =>
      rw [c7] at k
      exact iteF (k H5 s7)
    | true =>
    rw [c7] at k
    rcases kd_list ku.1 with ⟨_, p4, fs, rfl, hp4, hl4⟩ | ⟨_, e⟩
    · rw [hl4] at k
      refine iteT ⟨_, rfl, .inl ⟨p4, fs, rfl, .inl (SqL.of (s7 _ _ hp4)), _, _, rfl, rfl, ?_⟩⟩
      have q := k H5 s7
      have e8 : decide (fs.length ≤ 3) = decide ((fs.length : Int) ≤ 3) := decide_eq_decide.mpr (by omega)
      simp only [few3] at q
      rw [e8] at q
      exact q
    · unfold areNames at c7
      rw [e] at c7
      cases c7
end KK

set_option Elab.async false
set_option linter.all false
set_option maxRecDepth 100000
set_option maxHeartbeats 1000000
namespace KK
open PySem PySem.Spec L2 L3
def sp_World_init (K : PySem.W.Frag) (a : Adr) : Sp := fun vs H Q _ => ∃ p dx x y z u d, vs = [.ref p, x, y, z, u] ∧ H p = some (.ins a.C_World dx []) ∧ PartsV H x y z u d ∧ Good d ∧ ∀ H', SameX p H H' → WorldAt a.C_World H' p d → Q .non H'
theorem ok_World_init {P : Program} {w : World} {K : PySem.W.Frag} {mg : Str → Option Value} {base : Heap} {a : Adr} (T : Txt K mg a) : FnOk P w K mg base CX0 6 a.World_init a.World_init_fd ["self", "signs", "ways", "starts", "fair"] (sp_World_init K a) := by
  have G_makes_world := ok_makes_world (P := P) (w := w) (base := base) T
  refine T.f_World_init.ok sc_World_init (fun vs H Q E h => ?_) (fun cdv A outer s H vs Q E hr h => ?_)
  · obtain ⟨p, dx, x, y, z, u, d, rfl, _⟩ := h
    rfl
  · obtain ⟨p, dx, x, y, z, u, d, rfl, hp, pp, gd, k⟩ := h
    refine ⟨_, (pss_cons (ps_if (pt_not (pt_val (pe_call G_makes_world (hr.mono (by decide)) rfl T.g_makes_world T.f_makes_world.kp T.n_makes_world .nil pass0 (pa_cons (pv 1) (pa_cons (pv 2) (pa_cons (pv 3) (pa_cons (pv 4) pa_nil))))))) (pss_one ps_never) pss_nil)
     (pss_cons (ps_fld (pv 0) (pe_callTy (call_tupleK (K := K) rfl) rfl T.b_tuple PyProof.Rows.Boot.«tuple» (pa_cons (pe_comp (Nc := ["names"]) (ix := [none]) (CompOk.of (by decide +kernel : compChk (defScope s_World_init) ["self", "signs", "ways", "starts", "fair"] ["names"] [none] _ = true)) rfl (pi_listK (K := K) rfl (pv 1)) (fun _ _ _ _ _ => (pg_name (i := 0) (show List.Nodup (["names"] : List Str) by decide +kernel) rfl (by first | exact Or.inl rfl | exact Or.inr rfl))) (fun _ _ _ _ _ => pts_nil) (fun _ _ _ _ _ => (pe_callTy (call_tupleK (K := K) rfl) rfl T.b_tuple PyProof.Rows.Boot.«tuple» (pa_cons (pe_callB (call_sortedK (K := K) rfl) rfl T.b_sorted PyProof.Rows.Boot.«sorted» (pa_cons (pv 0) pa_nil)) pa_nil)))) pa_nil)) rfl)
     (pss_cons (ps_fld (pv 0) (pe_callTy (call_tupleK (K := K) rfl) rfl T.b_tuple PyProof.Rows.Boot.«tuple» (pa_cons (pe_comp (Nc := ["rooms"]) (ix := [none]) (CompOk.of (by decide +kernel : compChk (defScope s_World_init) ["self", "signs", "ways", "starts", "fair"] ["rooms"] [none] _ = true)) rfl (pi_listK (K := K) rfl (pv 2)) (fun _ _ _ _ _ => (pg_name (i := 0) (show List.Nodup (["rooms"] : List Str) by decide +kernel) rfl (by first | exact Or.inl rfl | exact Or.inr rfl))) (fun _ _ _ _ _ => pts_nil) (fun _ _ _ _ _ => (pe_callTy (call_tupleK (K := K) rfl) rfl T.b_tuple PyProof.Rows.Boot.«tuple» (pa_cons (pe_callB (call_sortedK (K := K) rfl) rfl T.b_sorted PyProof.Rows.Boot.«sorted» (pa_cons (pv 0) pa_nil)) pa_nil)))) pa_nil)) rfl)
     (pss_cons (ps_fld (pv 0) (pe_callTy (call_tupleK (K := K) rfl) rfl T.b_tuple PyProof.Rows.Boot.«tuple» (pa_cons (pe_callB (call_sortedK (K := K) rfl) rfl T.b_sorted PyProof.Rows.Boot.«sorted» (pa_cons (pv 3) pa_nil)) pa_nil)) rfl)
     (pss_one (ps_fld (pv 0) (pe_callTy (call_tupleK (K := K) rfl) rfl T.b_tuple PyProof.Rows.Boot.«tuple» (pa_cons (pv 4) pa_nil)) rfl)))))), ?_⟩
    obtain ⟨kx, ky, kz, ku⟩ := pp.kd gd
    have hm := pp.makes gd
    refine ⟨_, rfl, _, rfl, _, rfl, _, rfl, x, y, z, u, rfl, kx, ky, kz, ku, fun H1 s1 => ⟨_, rfl, ?_⟩⟩
    rw [hm]
    refine iteF ?_
    have p1 := pp.mono s1
    have hp1 := s1 _ _ hp
    have ph := p1.hid hp1
    have := gd.n20
    have := gd.wl
    -- self.room_signs
    obtain ⟨b1, v1, e1, g1, l1, q1⟩ := p1.s
    subst e1
    refine ⟨_, rfl, b1, rfl, ⟨v1, SqL.of g1⟩, fun D hD => ?_⟩
    refine comp_map (K := K) hD (SqL.of g1) (by rw [sizeLine_eq]; omega) (fun i v G => ∀ ss, d.signs[i]? = some ss → TS G v (sortS ss)) (fun i v _ _ sm q ss e => TS.mono _ _ _ _ sm (q ss e)) ?_ ?_
    · intro i w H2 N hx sm hN
      have hi : i < d.signs.length := by rw [← l1]; exact (List.getElem?_eq_some_iff.mp hx).1
      obtain ⟨c, rfl, ec⟩ := q1 i w _ hx (List.getElem?_eq_getElem hi)
      have hg := gd.sn _ (List.getElem_mem hi)
      refine ⟨_, rfl, .inl ⟨c, _, rfl, SqL.of (sm _ _ ec), by omega, fun l hl => ⟨l, _, rfl, .inl ⟨SqL.of upd_same, fun t ht => ?_⟩⟩⟩⟩
      refine hN _ _ ((same_upd hl).trans (same_upd ht)) fun ss hss => ⟨t, rfl, New.mk ((same_upd hl).free ht) ?_⟩
      rw [List.getElem?_eq_getElem hi] at hss
      cases hss
      rw [upd_same]
    intro H2 w1 hD2 s2 lw1 r1
    refine ⟨D, w1, rfl, .inl ⟨SqL.of hD2, fun t1 ht1 => ?_⟩⟩
    have st1 := same_upd (o := .tup w1) ht1
    have hp2 := st1 _ _ (s2 _ _ hp1)
    refine ⟨_, rfl, p, _, dx, [], rfl, hp2, T.cl_World, T.na_World_room_signs, by decide, ?_⟩
    have x2 : SameX p H1 (upd (upd H2 t1 (.tup w1)) p (.ins a.C_World dx (putF "room_signs" (.ref t1) []))) := (Same.x (s2.trans st1)).upd
    have np1 : t1 ≠ p := fun z => by subst z; rw [s2 _ _ hp1] at ht1; cases ht1
    have W1 : LT TS (hide p (upd (upd H2 t1 (.tup w1)) p (.ins a.C_World dx (putF "room_signs" (.ref t1) [])))) (.ref t1) (d.signs.map sortS) := by
      refine lt_of_map (xs := d.signs) (hide_mk np1 (by rw [upd_ne np1, upd_same])) (lw1.trans l1) fun i v hv ss hss => ?_
      refine TS.mono _ _ _ _ ?_ (r1 i v hv ss hss)
      exact (New.hidden hp1).trans (SameX.hide ((Same.x st1).upd))
    have hp3 : (upd (upd H2 t1 (.tup w1)) p (.ins a.C_World dx (putF "room_signs" (.ref t1) []))) p = some (.ins a.C_World dx (putF "room_signs" (.ref t1) [])) := upd_same
    rw [put1] at x2 W1 hp3 ⊢
    generalize upd (upd H2 t1 (.tup w1)) p (.ins a.C_World dx ([("room_signs", V.ref t1)] : List (Str × V))) = H3 at x2 W1 hp3 ⊢
    have p3 := (ph.mono x2.hide).mono hide_sub
    -- self.room_ways
    obtain ⟨b2, v2, e2, g2, l2, q2⟩ := p3.w
    subst e2
    refine ⟨_, rfl, b2, rfl, ⟨v2, SqL.of g2⟩, fun D2 hDD => ?_⟩
    refine comp_map (K := K) hDD (SqL.of g2) (by rw [sizeLine_eq]; omega) (fun i v G => ∀ ss, d.ways[i]? = some ss → TIn G v (sortI ss)) (fun i v _ _ sm q ss e => TIn.mono _ _ _ _ sm (q ss e)) ?_ ?_
    · intro i w H4 N hx sm hN
      have hi : i < d.ways.length := by rw [← l2]; exact (List.getElem?_eq_some_iff.mp hx).1
      obtain ⟨c, rfl, ec⟩ := q2 i w _ hx (List.getElem?_eq_getElem hi)
      have hg := gd.wn _ (List.getElem_mem hi)
      refine ⟨_, rfl, .inr ⟨c, _, rfl, SqL.of (sm _ _ ec), by omega, fun l hl => ⟨l, _, rfl, .inl ⟨SqL.of upd_same, fun t ht => ?_⟩⟩⟩⟩
      refine hN _ _ ((same_upd hl).trans (same_upd ht)) fun ss hss => ⟨t, rfl, New.mk ((same_upd hl).free ht) ?_⟩
      rw [List.getElem?_eq_getElem hi] at hss
      cases hss
      rw [upd_same]
    intro H4 w2 hD4 s4 lw2 r2
    refine ⟨D2, w2, rfl, .inl ⟨SqL.of hD4, fun t2 ht2 => ?_⟩⟩
    have st2 := same_upd (o := .tup w2) ht2
    have hp4 := st2 _ _ (s4 _ _ hp3)
    refine ⟨_, rfl, p, _, dx, _, rfl, hp4, T.cl_World, T.na_World_room_ways, by simp, ?_⟩
    have x4 : SameX p H3 (upd (upd H4 t2 (.tup w2)) p (.ins a.C_World dx (putF "room_ways" (.ref t2) ([("room_signs", V.ref t1)] : List (Str × V))))) := (Same.x (s4.trans st2)).upd
    have np2 : t2 ≠ p := fun z => by subst z; rw [s4 _ _ hp3] at ht2; cases ht2
    have W2 : LT TIn (hide p (upd (upd H4 t2 (.tup w2)) p (.ins a.C_World dx (putF "room_ways" (.ref t2) ([("room_signs", V.ref t1)] : List (Str × V)))))) (.ref t2) (d.ways.map sortI) := by
      refine lt_of_map (xs := d.ways) (hide_mk np2 (by rw [upd_ne np2, upd_same])) (lw2.trans l2) fun i v hv ss hss => ?_
      refine TIn.mono _ _ _ _ ?_ (r2 i v hv ss hss)
      exact (New.hidden hp3).trans (SameX.hide ((Same.x st2).upd))
    have hp5 : (upd (upd H4 t2 (.tup w2)) p (.ins a.C_World dx (putF "room_ways" (.ref t2) ([("room_signs", V.ref t1)] : List (Str × V))))) p = some (.ins a.C_World dx (putF "room_ways" (.ref t2) ([("room_signs", V.ref t1)] : List (Str × V)))) := upd_same
    have W1 := LT.mono TS.mono _ _ _ _ x4.hide W1
    rw [put2] at x4 W1 W2 hp5 ⊢
    generalize upd (upd H4 t2 (.tup w2)) p (.ins a.C_World dx ([("room_signs", V.ref t1), ("room_ways", V.ref t2)] : List (Str × V))) = H5 at x4 W1 W2 hp5 ⊢
    have x5 := x2.trans x4
    have p5 := (ph.mono x5.hide).mono hide_sub
    -- self.start_rooms
    obtain ⟨b3, e3, g3⟩ := p5.st
    subst e3
    have hst := gd.stn.2.2.2
    refine ⟨_, rfl, .inr ⟨b3, _, rfl, SqL.of g3, by omega, fun l hl => ⟨l, _, rfl, .inl ⟨SqL.of upd_same, fun t3 ht3 => ?_⟩⟩⟩⟩
    have st3 := (same_upd (o := .lst ((sortI d.starts).map V.int)) hl).trans (same_upd (o := .tup ((sortI d.starts).map V.int)) ht3)
    have hp6 := st3 _ _ hp5
    refine ⟨_, rfl, p, _, dx, _, rfl, hp6, T.cl_World, T.na_World_start_rooms, by simp, ?_⟩
    have np3 : t3 ≠ p := fun z => by subst z; rw [same_upd hl _ _ hp5] at ht3; cases ht3
    have x6 : SameX p H5 (upd (upd (upd H5 l (.lst ((sortI d.starts).map V.int))) t3 (.tup ((sortI d.starts).map V.int))) p (.ins a.C_World dx (putF "start_rooms" (.ref t3) ([("room_signs", V.ref t1), ("room_ways", V.ref t2)] : List (Str × V))))) := (Same.x st3).upd
    have hp7 : (upd (upd (upd H5 l (.lst ((sortI d.starts).map V.int))) t3 (.tup ((sortI d.starts).map V.int))) p (.ins a.C_World dx (putF "start_rooms" (.ref t3) ([("room_signs", V.ref t1), ("room_ways", V.ref t2)] : List (Str × V))))) p = some (.ins a.C_World dx (putF "start_rooms" (.ref t3) ([("room_signs", V.ref t1), ("room_ways", V.ref t2)] : List (Str × V)))) := upd_same
    have W3 : TIn (hide p (upd (upd (upd H5 l (.lst ((sortI d.starts).map V.int))) t3 (.tup ((sortI d.starts).map V.int))) p (.ins a.C_World dx (putF "start_rooms" (.ref t3) ([("room_signs", V.ref t1), ("room_ways", V.ref t2)] : List (Str × V)))))) (.ref t3) (sortI d.starts) := ⟨t3, rfl, hide_mk np3 (by rw [upd_ne np3, upd_same])⟩
    have W1 := LT.mono TS.mono _ _ _ _ x6.hide W1
    have W2 := LT.mono TIn.mono _ _ _ _ x6.hide W2
    rw [put3] at x6 W1 W2 W3 hp7 ⊢
    generalize upd (upd (upd H5 l (.lst ((sortI d.starts).map V.int))) t3 (.tup ((sortI d.starts).map V.int))) p (.ins a.C_World dx ([("room_signs", V.ref t1), ("room_ways", V.ref t2), ("start_rooms", V.ref t3)] : List (Str × V))) = H7 at x6 W1 W2 W3 hp7 ⊢
    have x7 := x5.trans x6
    have p7 := (ph.mono x7.hide).mono hide_sub
    -- self.fair_names
    obtain ⟨b4, e4, g4⟩ := p7.f
    subst e4
    refine ⟨_, rfl, b4, _, rfl, .inl ⟨SqL.of g4, fun t4 ht4 => ?_⟩⟩
    have st4 := same_upd (o := .tup (d.fair.map V.str)) ht4
    have hp8 := st4 _ _ hp7
    refine ⟨_, rfl, p, _, dx, _, rfl, hp8, T.cl_World, T.na_World_fair_names, by simp, ?_⟩
    have np4 : t4 ≠ p := fun z => by subst z; rw [hp7] at ht4; cases ht4
    have x8 : SameX p H7 (upd (upd H7 t4 (.tup (d.fair.map V.str))) p (.ins a.C_World dx (putF "fair_names" (.ref t4) ([("room_signs", V.ref t1), ("room_ways", V.ref t2), ("start_rooms", V.ref t3)] : List (Str × V))))) := (Same.x st4).upd
    refine k _ ((Same.x s1).trans (x7.trans x8)) ⟨dx, .ref t1, .ref t2, .ref t3, .ref t4, by rw [upd_same, put4], ?_, ?_, ?_, ?_⟩
    · exact LT.mono TS.mono _ _ _ _ (x8.hide.trans hide_sub) W1
    · exact LT.mono TIn.mono _ _ _ _ (x8.hide.trans hide_sub) W2
    · exact TIn.mono _ _ _ _ (x8.hide.trans hide_sub) W3
    · exact ⟨t4, rfl, by rw [upd_ne np4, upd_same]⟩
end KK

set_option Elab.async false
set_option linter.all false
set_option maxRecDepth 100000
set_option maxHeartbeats 1000000
namespace KK
open PySem PySem.Spec L2 L3
def sp_World_many (K : PySem.W.Frag) (a : Adr) : Sp := fun vs H Q _ => ∃ p d, vs = [.ref p] ∧ WorldAt a.C_World H p d ∧ Q (.int d.signs.length) H
theorem ok_World_many {P : Program} {w : World} {K : PySem.W.Frag} {mg : Str → Option Value} {base : Heap} {a : Adr} (T : Txt K mg a) : FnOk P w K mg base CX0 1 a.World_many a.World_many_fd ["self"] (sp_World_many K a) := by
  refine T.f_World_many.ok sc_World_many (fun vs H Q E h => ?_) (fun cdv A outer s H vs Q E hr h => ?_)
  · obtain ⟨p, d, rfl, _⟩ := h
    rfl
  · obtain ⟨p, d, rfl, hw, k⟩ := h
    refine ⟨_, (pss_one (ps_ret (pe_callB (call_lenK (K := K) rfl) rfl T.b_len PyProof.Rows.Boot.«len» (pa_cons (pe_fldK (K := K) rfl (pv 0) rfl) pa_nil)))), ?_⟩
    obtain ⟨dx, t1, t2, t3, t4, e, ⟨b, vs, rfl, g, l, q⟩, _⟩ := hw.ex
    refine ⟨_, rfl, p, _, dx, _, _, rfl, e, T.cl_World, T.na_World_room_signs, lk_signs _ _ _ _, .inl ⟨b, vs, rfl, .inr (SqT.of g), ?_⟩⟩
    rw [l, List.length_map]
    exact k
end KK

set_option Elab.async false
set_option linter.all false
set_option maxRecDepth 100000
set_option maxHeartbeats 1000000
namespace KK
open PySem PySem.Spec L2 L3
def sp_no_World_init (K : PySem.W.Frag) (a : Adr) : Sp := fun vs H Q E => ∃ p x y z u, vs = [.ref p, x, y, z, u] ∧ KdLL H x ∧ KdLL H y ∧ KdL H z ∧ KdL H u ∧ makesW H x y z u = false ∧ ∀ H' e, Same H H' → E (.ref e) (some a.C_BadWorld) H'
theorem no_World_init {P : Program} {w : World} {K : PySem.W.Frag} {mg : Str → Option Value} {base : Heap} {a : Adr} (T : Txt K mg a) : FnOk P w K mg base (CXe P w) 6 a.World_init a.World_init_fd ["self", "signs", "ways", "starts", "fair"] (sp_no_World_init K a) := by
  have G_makes_world := ok_makes_world (P := P) (w := w) (base := base) T
  refine fun_okX T.f_World_init sc_World_init (fun vs H Q E h => ?_) (fun cdv A outer s H vs Q E hr h => ?_)
  · obtain ⟨p, x, y, z, u, rfl, _⟩ := h
    rfl
  · obtain ⟨p, x, y, z, u, rfl, kx, ky, kz, ku, hm, k⟩ := h
    refine ⟨_, (pss_cons (ps_if (PT.nox (pt_not (pt_val (pe_call G_makes_world (hr.mono (by decide)) rfl T.g_makes_world T.f_makes_world.kp T.n_makes_world .nil pass0 (pa_cons (pv 1) (pa_cons (pv 2) (pa_cons (pv 3) (pa_cons (pv 4) pa_nil)))))))) (pss_one (ps_raise raises_cx rfl rfl T.g_BadWorld T.x_BadWorld PySem.F.excBase_ValueError (pa_cons pe_str pa_nil))) pss_nil) L2.pss_never), ?_⟩
    refine ⟨_, rfl, _, rfl, _, rfl, _, rfl, x, y, z, u, rfl, kx, ky, kz, ku, fun H1 s1 => ⟨_, rfl, ?_⟩⟩
    rw [hm]
    exact iteT ⟨by decide, fun e => k H1 e s1⟩
end KK

set_option Elab.async false
set_option linter.all false
set_option maxRecDepth 100000
set_option maxHeartbeats 1000000
namespace KK
open PySem PySem.Spec L2 L3
def sp__law_cell_at (K : PySem.W.Frag) (a : Adr) : Sp := fun vs H Q _ => ∃ (p : Addr) (ns : List Int) (j : Nat), vs = [.ref p, .int (j : Nat)] ∧ SqL K H p (ns.map V.int) ∧ ∀ n : Int, Q (.int n) H
theorem ok__law_cell_at {P : Program} {w : World} {K : PySem.W.Frag} {mg : Str → Option Value} {base : Heap} {a : Adr} (T : Txt K mg a) : FnOk P w K mg base CX0 1 a._law_cell_at a._law_cell_at_fd ["_law_script", "_law_k"] (sp__law_cell_at K a) := by
  refine T.f__law_cell_at.ok sc__law_cell_at (fun vs H Q E h => ?_) (fun cdv A outer s H vs Q E hr h => ?_)
  · obtain ⟨p, ns, j, rfl, _⟩ := h
    rfl
  · obtain ⟨p, ns, j, rfl, hq, k⟩ := h
    refine ⟨_, (pss_cons (ps_if (pt_cmpR op_lt (pv 1) (pe_callB (call_lenK (K := K) rfl) rfl T.b_len PyProof.Rows.Boot.«len» (pa_cons (pv 0) pa_nil)) (nomark _)) (pss_one (ps_ret (pe_ix (ix_listK (K := K) rfl) (pv 0) (pv 1) (fun _ _ => rfl)))) pss_nil)
     (pss_one (ps_ret pe_int))), ?_⟩
    refine ⟨_, rfl, _, rfl, .inl ⟨p, _, rfl, .inl hq, _, _, rfl, rfl, _, rfl, ?_⟩⟩
    refine ite2 (fun c => ?_) (fun _ => k 0)
    have hj : j < ns.length := by have := of_decide_eq_true c; rw [List.length_map] at this; omega
    exact ⟨_, rfl, _, rfl, p, _, _, _, rfl, rfl, hq, atI_nat (at_of hj), k _⟩
def sp__law_draw (K : PySem.W.Frag) (a : Adr) : Sp := fun vs H Q _ => ∃ (p : Addr) (ns : List Int), vs = [.ref p] ∧ H p = some (.lst (ns.map V.int)) ∧ ∀ H' (n : Int) (ns' : List Int), SameX p H H' → H' p = some (.lst (ns'.map V.int)) → Q (.int n) H'
theorem ok__law_draw {P : Program} {w : World} {K : PySem.W.Frag} {mg : Str → Option Value} {base : Heap} {a : Adr} (T : Txt K mg a) : FnOk P w K mg base CX0 1 a._law_draw a._law_draw_fd ["_law_xs"] (sp__law_draw K a) := by
  refine T.f__law_draw.ok sc__law_draw (fun vs H Q E h => ?_) (fun cdv A outer s H vs Q E hr h => ?_)
  · obtain ⟨p, ns, rfl, _⟩ := h
    rfl
  · obtain ⟨p, ns, rfl, hp, k⟩ := h
    refine ⟨_, (pss_cons (ps_if (pt_cmpR (op_eqDK (K := K) rfl (Room.units hr)) (pv 0) (pe_lst pa_nil) (nomark _)) (pss_one (ps_ret pe_int)) pss_nil)
     (pss_one (ps_ret (pe_bm0 PySem.F.plainAttrs_list PySem.F.slot_list_pop PySem.F.type_list_pop mt_pop (pv 0))))), ?_⟩
    refine ⟨_, rfl, by decide, fun l hl => ?_⟩
    have s1 := same_upd (o := .lst []) hl
    refine eqD_nil (s1 _ _ hp) upd_same fun c hc => ⟨_, rfl, ?_⟩
    cases c with
    | true => exact iteT (k _ 0 ns (Same.x s1) (s1 _ _ hp))
    | false =>
      refine iteF ⟨_, rfl, .inl ⟨rfl, _, SqL.of (s1 _ _ hp)⟩, ?_⟩
      have hne : ns ≠ [] := fun e => by have := hc.mpr e; cases this
      have hl : ns.length - 1 < ns.length := by have := List.length_pos_iff.mpr hne; omega
      refine ⟨p, _, .int ns[ns.length - 1], rfl, rfl, s1 _ _ hp, by simp [hl], ?_⟩
      exact k _ _ ns.dropLast (Same.x s1).upd (by rw [upd_same, List.map_dropLast])
end KK

set_option Elab.async false
set_option linter.all false
set_option maxRecDepth 100000
set_option maxHeartbeats 1000000
namespace KK
open PySem PySem.Spec L2 L3
def sp__law_stream (K : PySem.W.Frag) (a : Adr) : Sp := fun vs H Q _ => ∃ (c : Int) (m : Nat), vs = [.int c, .int (m : Int)] ∧ m ≤ 1000 ∧ ∀ H' p (ns : List Int), Same H H' → H p = none → H' p = some (.lst (ns.map V.int)) → Q (.ref p) H'
theorem ok__law_stream {P : Program} {w : World} {K : PySem.W.Frag} {mg : Str → Option Value} {base : Heap} {a : Adr} (T : Txt K mg a) : FnOk P w K mg base CX0 1 a._law_stream a._law_stream_fd ["_law_cell", "_law_many"] (sp__law_stream K a) := by
  refine T.f__law_stream.ok sc__law_stream (fun vs H Q E h => ?_) (fun cdv A outer s H vs Q E hr h => ?_)
  · obtain ⟨c, m, rfl, _⟩ := h
    rfl
  · obtain ⟨c, m, rfl, hm, k⟩ := h
    refine ⟨_, (pss_cons (ps_set (i := 2) sc__law_stream.nd rfl (by first | exact Or.inl rfl | exact Or.inr rfl) (pe_lst pa_nil))
     (pss_cons (ps_set (i := 3) sc__law_stream.nd rfl (by first | exact Or.inl rfl | exact Or.inr rfl) (pe_op op_mul (pe_op op_fdiv (pv 0) pe_int) (pe_op op_sub pe_int (pe_op op_mod (pv 0) pe_int))))
     (pss_cons (ps_while PassesOwn.never (PW.pt (pw_and (pt_cmpR op_lt (pe_callB (call_lenK (K := K) rfl) rfl T.b_len PyProof.Rows.Boot.«len» (pa_cons (pv 2) pa_nil)) (pv 1) (nomark _)) (pw_and1 (pt_cmpR op_gt (pv 3) pe_int (nomark _))))) (pss_cons (ps_expr (pe_bm PySem.F.plainAttrs_list PySem.F.slot_list_append PySem.F.type_list_append mt_append (pv 2) (pa_cons (pe_op op_mod (pv 3) (pe_op op_pow pe_int pe_int)) pa_nil)))
     (pss_one (ps_set (i := 3) sc__law_stream.nd rfl (by first | exact Or.inl rfl | exact Or.inr rfl) (pe_op op_fdiv (pv 3) (pe_op op_pow pe_int pe_int))))))
     (pss_cons (ps_set (i := 4) sc__law_stream.nd rfl (by first | exact Or.inl rfl | exact Or.inr rfl) (pe_op op_mod (pe_op op_mul (pe_op op_add (pv 0) pe_int) pe_int) pe_int))
     (pss_cons (ps_while PassesOwn.never (pt_cmpR op_lt (pe_callB (call_lenK (K := K) rfl) rfl T.b_len PyProof.Rows.Boot.«len» (pa_cons (pv 2) pa_nil)) (pv 1) (nomark _)) (pss_cons (ps_set (i := 5) sc__law_stream.nd rfl (by first | exact Or.inl rfl | exact Or.inr rfl) (pe_op op_add (pe_op op_add (pv 4) (pe_op op_mul pe_int (pe_callB (call_lenK (K := K) rfl) rfl T.b_len PyProof.Rows.Boot.«len» (pa_cons (pv 2) pa_nil)))) pe_int))
     (pss_cons (ps_set (i := 4) sc__law_stream.nd rfl (by first | exact Or.inl rfl | exact Or.inr rfl) (pe_op op_mod (pe_op op_mul (pv 5) (pe_op op_add (pe_op op_fdiv (pv 4) pe_int) pe_int)) pe_int))
     (pss_one (ps_expr (pe_bm PySem.F.plainAttrs_list PySem.F.slot_list_append PySem.F.type_list_append mt_append (pv 2) (pa_cons (pe_op op_mod (pe_op op_mul (pv 4) (pe_op op_add (pe_op op_fdiv (pv 4) pe_int) pe_int)) pe_int) pa_nil)))))))
     (pss_one (ps_ret (pe_revK (K := K) rfl (pv 2) (po_some (pe_un un_neg pe_int)))))))))), ?_⟩
    refine ⟨by decide, fun D hD => ?_⟩
    have hm2 : (0 : Int) ≤ c % 2 ∧ c % 2 < 2 := ⟨Int.emod_nonneg _ (by decide), Int.emod_lt_of_pos _ (by decide)⟩
    refine ⟨_, rfl, _, _, rfl, rfl, ⟨by decide, by decide⟩, _, rfl, _, _, rfl, rfl, by simp, _, _, rfl, rfl, _, _, rfl, rfl, .inr ⟨by omega, by omega⟩, ?_⟩
    refine ⟨fun n σ H' => ∃ (ns : List Int) (left : Int), σ = [some (.int c), some (.int m), some (.ref D), some (.int left), none, none] ∧ H' D = some (.lst (ns.map V.int)) ∧ Same H H' ∧ ns.length ≤ m ∧ n = m - ns.length, ⟨m, [], _, rfl, upd_same, same_upd hD, Nat.zero_le _, rfl⟩, ?_⟩
    rintro n σ H1 ⟨ns, left, rfl, h1, s1, hl, rfl⟩
    refine ⟨_, rfl, .inl ⟨D, _, rfl, .inl (SqL.of h1), _, rfl, _, _, rfl, rfl, _, rfl, ite2 (fun c1 => ⟨_, rfl, _, _, rfl, rfl, _, rfl, ite2 (fun c2 => ?body) (fun c2 => ?rest)⟩) (fun c1 => iteF ?rest2)⟩⟩
    case body =>
      have c3 : ns.length < m := by have := of_decide_eq_true c1; rw [List.length_map] at this; omega
      refine ⟨fun σ H' => ∃ (ns' : List Int) (left : Int), σ = [some (.int c), some (.int m), some (.ref D), some (.int left), none, none] ∧ H' D = some (.lst (ns'.map V.int)) ∧ Same H H' ∧ ns'.length = ns.length + 1, ?_, ?_⟩
      · rintro σ' H' ⟨ns', left', rfl, a1, a2, a3⟩
        exact ⟨m - ns'.length, by omega, ns', left', rfl, a1, a2, by omega, rfl⟩
      · refine ⟨_, rfl, .inl ⟨rfl, _, SqL.of h1⟩, _, rfl, _, _, rfl, rfl, ⟨by decide, by decide, by decide⟩, _, _, rfl, rfl, by simp, D, _, _, rfl, rfl, h1, by rw [List.length_map, sizeLine_eq]; omega, ?_⟩
        refine ⟨_, rfl, _, _, rfl, rfl, ⟨by decide, by decide, by decide⟩, _, _, rfl, rfl, ⟨by decide, by decide⟩, ?_⟩
        refine ⟨ns ++ [_], _, rfl, by rw [upd_same, List.map_append]; rfl, (SameX.upd (Same.x s1)).same hD, by simp⟩
    all_goals
      clear c1
      refine ⟨_, rfl, _, _, rfl, rfl, _, _, rfl, rfl, .inr ⟨by decide, by decide⟩, _, _, rfl, rfl, by simp, ?_⟩
      refine ⟨fun n σ H' => ∃ (ns : List Int) (num : Int) (z : Option V), σ = [some (.int c), some (.int m), some (.ref D), some (.int left), some (.int num), z] ∧ (0 ≤ num ∧ num < 2147483647) ∧ H' D = some (.lst (ns.map V.int)) ∧ Same H H' ∧ ns.length ≤ m ∧ n = m - ns.length, ⟨m - ns.length, ns, _, _, rfl, ⟨Int.emod_nonneg _ (by decide), Int.emod_lt_of_pos _ (by decide)⟩, h1, s1, hl, rfl⟩, ?_⟩
      clear h1 s1 hl H1
      rintro n σ H1 ⟨ns, num, z, rfl, ⟨hn0, hn1⟩, h1, s1, hl, rfl⟩
      refine ⟨_, rfl, .inl ⟨D, _, rfl, .inl (SqL.of h1), _, rfl, _, _, rfl, rfl, _, rfl, ite2 (fun c1 => ?_) (fun c1 => ?_)⟩⟩
      · have c3 : ns.length < m := by have := of_decide_eq_true c1; rw [List.length_map] at this; omega
        refine ⟨fun σ H' => ∃ (ns' : List Int) (num : Int) (z : Option V), σ = [some (.int c), some (.int m), some (.ref D), some (.int left), some (.int num), z] ∧ (0 ≤ num ∧ num < 2147483647) ∧ H' D = some (.lst (ns'.map V.int)) ∧ Same H H' ∧ ns'.length = ns.length + 1, ?_, ?_⟩
        · rintro σ' H' ⟨ns', num', z', rfl, a0, a1, a2, a3⟩
          exact ⟨m - ns'.length, by omega, ns', num', z', rfl, a0, a1, a2, by omega, rfl⟩
        · refine ⟨_, rfl, _, rfl, .inl ⟨D, _, rfl, .inl (SqL.of h1), _, _, rfl, rfl, .inl ⟨by decide, by decide⟩, _, _, rfl, rfl, _, _, rfl, rfl, ?_⟩⟩
          refine ⟨_, rfl, _, rfl, _, _, rfl, rfl, ⟨by decide, by decide⟩, _, _, rfl, rfl, _, _, rfl, rfl, .inr ⟨by omega, by omega⟩, _, _, rfl, rfl, by simp, ?_⟩
          have num0 := Int.emod_nonneg ((num + 7919 * ((ns.map V.int).length : Int) + 1) * (num / 1009 + 69621)) (show (2147483647 : Int) ≠ 0 by decide)
          have num1 := Int.emod_lt_of_pos ((num + 7919 * ((ns.map V.int).length : Int) + 1) * (num / 1009 + 69621)) (show (0 : Int) < 2147483647 by decide)
          refine ⟨_, rfl, .inl ⟨rfl, _, SqL.of h1⟩, _, rfl, _, rfl, _, _, rfl, rfl, ⟨by decide, by decide⟩, _, _, rfl, rfl, _, _, rfl, rfl, .inl ⟨Int.lt_of_lt_of_le (by decide) num0, Int.lt_trans num1 (by decide)⟩, _, _, rfl, rfl, by simp, D, _, _, rfl, rfl, h1, by rw [List.length_map, sizeLine_eq]; omega, ?_⟩
          exact ⟨ns ++ [_], _, _, rfl, ⟨num0, num1⟩, by rw [upd_same, List.map_append]; rfl, (SameX.upd (Same.x s1)).same hD, by simp⟩
      · refine ⟨_, rfl, _, rfl, _, rfl, D, _, rfl, rfl, SqL.of h1, fun p hp => ?_⟩
        exact k _ p ns.reverse (s1.trans (same_upd hp)) (s1.free hp) (by rw [upd_same, List.map_reverse])
end KK

set_option Elab.async false
set_option linter.all false
set_option maxRecDepth 100000
set_option maxHeartbeats 1000000
namespace KK
open PySem PySem.Spec L2 L3
def sp__law_pool (K : PySem.W.Frag) (a : Adr) : Sp := fun vs H Q _ => ∃ (p : Addr) (ns : List Int), vs = [.ref p] ∧ H p = some (.lst (ns.map V.int)) ∧ ∀ H' l (ss : List Str) (ns' : List Int), SameX p H H' → H' p = some (.lst (ns'.map V.int)) → H l = none → H' l = some (.lst (ss.map V.str)) → ss.Nodup → (∀ x ∈ ss, isNameS x = true) → ss.length ≤ 5 → Q (.ref l) H'
theorem ok__law_pool {P : Program} {w : World} {K : PySem.W.Frag} {mg : Str → Option Value} {base : Heap} {a : Adr} (T : Txt K mg a) : FnOk P w K mg base CX0 2 a._law_pool a._law_pool_fd ["_law_xs"] (sp__law_pool K a) := by
  have G__law_draw := ok__law_draw (P := P) (w := w) (base := base) T
  refine T.f__law_pool.ok sc__law_pool (fun vs H Q E h => ?_) (fun cdv A outer s H vs Q E hr h => ?_)
  · obtain ⟨p, ns, rfl, _⟩ := h
    rfl
  · obtain ⟨p, ns, rfl, hp, k⟩ := h
    refine ⟨_, (pss_cons (ps_set (i := 1) sc__law_pool.nd rfl (by first | exact Or.inl rfl | exact Or.inr rfl) (pe_lst pa_nil))
     (pss_cons (ps_for PassesOwn.never rfl (pi_range1 rfl T.b_range (pa_cons pe_int pa_nil)) (pg_name (i := 2) sc__law_pool.nd rfl (by first | exact Or.inl rfl | exact Or.inr rfl)) (pss_cons (ps_set (i := 3) sc__law_pool.nd rfl (by first | exact Or.inl rfl | exact Or.inr rfl) pe_str)
     (pss_cons (ps_for PassesOwn.never rfl (pi_range1 rfl T.b_range (pa_cons (pe_op op_add pe_int (pe_op op_mod (pe_call G__law_draw (hr.mono (by decide)) rfl T.g__law_draw T.f__law_draw.kp T.n__law_draw .nil pass0 (pa_cons (pv 0) pa_nil)) pe_int)) pa_nil)) (pg_name (i := 4) sc__law_pool.nd rfl (by first | exact Or.inl rfl | exact Or.inr rfl)) (pss_one (ps_set (i := 3) sc__law_pool.nd rfl (by first | exact Or.inl rfl | exact Or.inr rfl) (pe_op op_add_str (pv 3) (pe_ix ix_str pe_str (pe_op op_mod (pe_call G__law_draw (hr.mono (by decide)) rfl T.g__law_draw T.f__law_draw.kp T.n__law_draw .nil pass0 (pa_cons (pv 0) pa_nil)) pe_int) (fun _ _ => rfl))))))
     (pss_one (ps_if (pt_cmpR (op_notInK (K := K) rfl) (pv 3) (pv 1) (by with_unfolding_all rfl)) (pss_one (ps_expr (pe_bm PySem.F.plainAttrs_list PySem.F.slot_list_append PySem.F.type_list_append mt_append (pv 1) (pa_cons (pv 3) pa_nil)))) pss_nil)))))
     (pss_one (ps_ret (pv 1))))), ?_⟩
    refine ⟨by decide, fun D hD => ?_⟩
    have np : D ≠ p := fun e => by rw [e, hp] at hD; cases hD
    refine ⟨5, rfl, by decide, by decide, ?_⟩
    refine for_range (fun i σ H' => ∃ (z1 z2 z3 : Option V) (ss : List Str) (ns' : List Int), σ = [some (.ref p), some (.ref D), z1, z2, z3] ∧ SameX p H H' ∧ H' p = some (.lst (ns'.map V.int)) ∧ H' D = some (.lst (ss.map V.str)) ∧ ss.Nodup ∧ (∀ x ∈ ss, isNameS x = true) ∧ ss.length ≤ i) ?_ ?_ ?_
    · exact ⟨_, _, _, [], ns, rfl, (SameX.refl H).updN hD, by rw [upd_ne (Ne.symm np)]; exact hp, upd_same, by simp, by simp, by simp⟩
    · rintro i σ H1 hi ⟨z1, z2, z3, ss, ns1, rfl, x1, h1, d1, nd, nm, hl⟩
      refine ⟨_, rfl, p, ns1, rfl, h1, fun H2 n ns2 x2 h2 => ⟨_, _, rfl, rfl, by simp, _, _, rfl, rfl, _, rfl, ?_, ?_, ?_⟩⟩
      · have := Int.emod_nonneg n (show (8 : Int) ≠ 0 by decide); omega
      · have := Int.emod_lt_of_pos n (show (0 : Int) < 8 by decide); omega
      have m0 := Int.emod_nonneg n (show (8 : Int) ≠ 0 by decide)
      have m1 := Int.emod_lt_of_pos n (show (0 : Int) < 8 by decide)
      have d2 := x2 _ _ np d1
      refine for_range (fun j σ H' => ∃ (z3 : Option V) (w : Str) (ns' : List Int), σ = [some (.ref p), some (.ref D), some (.int (0 + i)), some (.str w), z3] ∧ SameX p H H' ∧ H' p = some (.lst (ns'.map V.int)) ∧ H' D = some (.lst (ss.map V.str)) ∧ w.length = j ∧ w.cps.toList.all isLow = true) ?_ ?_ ?_
      · exact ⟨_, _, ns2, rfl, x1.trans x2, h2, d2, rfl, rfl⟩
      · rintro j σ H3 hj ⟨z4, w, ns3, rfl, x3, h3, d3, wl, wa⟩
        refine ⟨_, rfl, _, rfl, p, ns3, rfl, h3, fun H4 n4 ns4 x4 h4 => ⟨_, _, rfl, rfl, by simp, ?_⟩⟩
        obtain ⟨c, hc, lc⟩ := letter_at n4
        refine ⟨_, _, c, rfl, rfl, by decide +kernel, hc, _, _, rfl, rfl, ?_, ?_⟩
        · rw [sizeLine_eq]
          have : Str.length ⟨#[c]⟩ = 1 := rfl
          have hj' : j < (1 + n % 8).toNat := hj
          omega
        · exact ⟨_, _, ns4, rfl, x3.trans x4, h4, x4 _ _ np d3, by rw [str_push_len, wl], str_push_low wa lc⟩
      · rintro σ H3 ⟨z4, w, ns3, rfl, x3, h3, d3, wl, wa⟩
        have wn : isNameS w = true := name_of (by omega) (by omega) wa
        refine ⟨_, rfl, _, rfl, D, _, rfl, .inl (SqL.of d3), rfl, flat_strs ss, _, rfl, ite2 (fun c => ?_) (fun c => ?_)⟩
        · have nin : w ∉ ss := fun e => by
            have := inV_str.mpr e
            simp [this] at c
          refine ⟨_, rfl, .inl ⟨rfl, _, SqL.of d3⟩, _, rfl, D, _, _, rfl, rfl, d3, by rw [List.length_map, sizeLine_eq]; omega, ?_⟩
          refine ⟨_, _, _, ss ++ [w], ns3, rfl, x3.updN hD, by rw [upd_ne (Ne.symm np)]; exact h3, by rw [upd_same, List.map_append]; rfl, nodup_push nd nin, ?_, by simp; omega⟩
          intro x hx
          rcases List.mem_append.mp hx with hx | hx
          · exact nm x hx
          · have : x = w := by simpa using hx
            rw [this]; exact wn
        · exact ⟨_, _, _, ss, ns3, rfl, x3, h3, d3, nd, nm, by omega⟩
    · rintro σ H1 ⟨z1, z2, z3, ss, ns1, rfl, x1, h1, d1, nd, nm, hl⟩
      exact ⟨_, rfl, k _ D ss ns1 x1 h1 hD d1 nd nm hl⟩
end KK

set_option Elab.async false
set_option linter.all false
set_option maxRecDepth 100000
set_option maxHeartbeats 1000000
namespace KK
open PySem PySem.Spec L2 L3
def sp__law_some (K : PySem.W.Frag) (a : Adr) : Sp := fun vs H Q _ => ∃ (p : Addr) (ns : List Int) (q : Addr) (ts : List V) (m : Nat), vs = [.ref p, .ref q, .int (m : Int)] ∧ H p = some (.lst (ns.map V.int)) ∧ H q = some (.lst ts) ∧ q ≠ p ∧ ts.Nodup ∧ ts.length ≤ 1000 ∧ m ≤ 1 ∧ (m = 1 → ts ≠ []) ∧ ∀ H' l (ys : List V) (ns' : List Int), SameX p H H' → H' p = some (.lst (ns'.map V.int)) → H l = none → H' l = some (.lst ys) → ys.Nodup → (∀ y ∈ ys, y ∈ ts) → m ≤ ys.length → ys.length ≤ ts.length → Q (.ref l) H'
theorem ok__law_some {P : Program} {w : World} {K : PySem.W.Frag} {mg : Str → Option Value} {base : Heap} {a : Adr} (T : Txt K mg a) : FnOk P w K mg base CX0 2 a._law_some a._law_some_fd ["_law_xs", "_law_things", "_law_least"] (sp__law_some K a) := by
  have G__law_draw := ok__law_draw (P := P) (w := w) (base := base) T
  refine T.f__law_some.ok sc__law_some (fun vs H Q E h => ?_) (fun cdv A outer s H vs Q E hr h => ?_)
  · obtain ⟨p, ns, q, ts, m, rfl, _⟩ := h
    rfl
  · obtain ⟨p, ns, q, ts, m, rfl, hp, hq, nq, nd, hz, hm, hne, k⟩ := h
    refine ⟨_, (pss_cons (ps_set (i := 3) sc__law_some.nd rfl (by first | exact Or.inl rfl | exact Or.inr rfl) (pe_call G__law_draw (hr.mono (by decide)) rfl T.g__law_draw T.f__law_draw.kp T.n__law_draw .nil pass0 (pa_cons (pv 0) pa_nil)))
     (pss_cons (ps_setComp (i := 4) sc__law_some.nd rfl rfl (Nc := ["_law_k", "_law_thing", "_law_number"]) (ix := [none, none, some 3]) (CompOk.of (by decide +kernel : compChk (defScope s__law_some) ["_law_xs", "_law_things", "_law_least", "_law_number", "_law_found"] ["_law_k", "_law_thing", "_law_number"] [none, none, some 3] _ = true)) rfl (pi_enumK (K := K) rfl rfl T.b_enumerate (pa_cons (pv 1) pa_nil)) (fun _ _ _ _ _ => (pg_tupK (K := K) (n := 2) rfl rfl (pgs_cons (pg_name (i := 0) (show List.Nodup (["_law_k", "_law_thing", "_law_number"] : List Str) by decide +kernel) rfl (by first | exact Or.inl rfl | exact Or.inr rfl)) (pgs_cons (pg_name (i := 1) (show List.Nodup (["_law_k", "_law_thing", "_law_number"] : List Str) by decide +kernel) rfl (by first | exact Or.inl rfl | exact Or.inr rfl)) pgs_nil)))) (fun _ _ _ _ _ => (pts_one (pt_cmpR op_eq (pe_op op_and (pe_op op_shr (pv 2) (pv 0)) pe_int) pe_int (nomark _)))) (fun _ _ _ _ _ => (pv 1)))
     (pss_cons (ps_if (pt_cmpR op_lt (pe_callB (call_lenK (K := K) rfl) rfl T.b_len PyProof.Rows.Boot.«len» (pa_cons (pv 4) pa_nil)) (pv 2) (nomark _)) (pss_one (ps_set (i := 4) sc__law_some.nd rfl (by first | exact Or.inl rfl | exact Or.inr rfl) (pe_lst (pa_cons (pe_ix (ix_listK (K := K) rfl) (pv 1) (pe_op op_mod (pe_call G__law_draw (hr.mono (by decide)) rfl T.g__law_draw T.f__law_draw.kp T.n__law_draw .nil pass0 (pa_cons (pv 0) pa_nil)) (pe_callB (call_lenK (K := K) rfl) rfl T.b_len PyProof.Rows.Boot.«len» (pa_cons (pv 1) pa_nil))) (fun _ _ => rfl)) pa_nil)))) pss_nil)
     (pss_cons (ps_if (pt_cmpR op_eq (pe_op op_and (pe_op op_shr (pv 3) pe_int) pe_int) pe_int (nomark _)) (pss_one (ps_expr (pe_bm0 PySem.F.plainAttrs_list PySem.F.slot_list_reverse PySem.F.type_list_reverse mt_reverse (pv 4)))) pss_nil)
     (pss_one (ps_ret (pv 4))))))), ?_⟩
    refine ⟨_, rfl, p, ns, rfl, hp, fun H1 num ns1 x1 h1 => ?_⟩
    have q1 := x1 _ _ nq hq
    refine ⟨_, rfl, q, ts, rfl, .inl q1, fun D hD => ?_⟩
    have hD0 : H D = none := x1.free (fun e => by rw [e, h1] at hD; cases hD) hD
    refine comp_gen (J := Ite K q) (n := ts.length) (fun i σ H' => ∃ (z1 z2 : Option V) (ys : List V), σ = [z1, z2, some (.int num)] ∧ Same H1 H' ∧ H' D = some (.lst ys) ∧ ys.Sublist (ts.take i)) ?_ ?_ ?_ ?_ ?_
    · exact ⟨_, _, [], rfl, same_upd hD, upd_same, by simp⟩
    · rintro i σ H' hi ⟨z1, z2, ys, rfl, sm, hl, sb⟩
      exact ⟨_, ts[i], SqL.of (sm _ _ q1), by simp [hi]⟩
    · rintro σ H' ⟨z1, z2, ys, rfl, sm, hl, sb⟩
      exact ⟨_, SqL.of (sm _ _ q1), Nat.le_refl _⟩
    · rintro i x σ H' H2 hi ⟨z1, z2, ys, rfl, sm, hl, sb⟩ ⟨pr, v, rfl, hpr, rfl, hx⟩ N N0 hN hN0
      have e := hx _ (SqL.of (sm _ _ q1))
      have s2 := same_upd (o := .tup [.int i, v]) hpr
      refine ⟨pr, [.int i, v], rfl, SqT.of upd_same, rfl, _, _, rfl, _, _, rfl, rfl, ?_⟩
      refine ⟨_, rfl, _, rfl, _, _, rfl, rfl, by simp, _, _, rfl, rfl, rfl, _, rfl, ite2 (fun c => ?_) (fun c => ?_)⟩
      · refine ⟨_, rfl, hN _ _ _ ys (s2 _ _ hl) ?_ ⟨_, _, ys ++ [v], rfl, ?_, upd_same, take_push sb e⟩⟩
        · have := sb.length_le; rw [List.length_take] at this; rw [sizeLine_eq]; omega
        · exact (SameX.upd (Same.x (sm.trans s2))).same hD
      · exact hN0 _ _ ⟨_, _, ys, rfl, sm.trans s2, s2 _ _ hl, take_keep sb⟩
    · rintro σ H2 ⟨z1, z2, ys, rfl, sm, hF, sb⟩
      rw [List.take_length] at sb
      have hx : SameX p H H2 := x1.trans (Same.x sm)
      have hp2 := sm _ _ h1
      have hnd := nd.sublist sb
      have hsub : ∀ y ∈ ys, y ∈ ts := fun y hy => sb.subset hy
      have hle := sb.length_le
      refine ⟨_, rfl, .inl ⟨D, _, rfl, .inl (SqL.of hF), _, rfl, _, _, rfl, rfl, _, rfl, ite2 (fun c => ?_) (fun c => ?_)⟩⟩
      case' refine_2 =>
        have hge : m ≤ ys.length := by have : ¬ ((ys.length : Int) < (m : Int)) := fun z => c (decide_eq_true z); omega
        have hFn := hD0
        have npF := ne_new hp hFn
        clear c
      case' refine_1 =>
        have c' := of_decide_eq_true c
        have m1 : m = 1 := by omega
        obtain ⟨q2, q3⟩ := at_mod (ts := ts) 0 (hne m1)
        refine ⟨_, rfl, _, rfl, p, ns1, rfl, hp2, fun H3 n3 ns3 x3 h3 => ⟨_, rfl, .inl ⟨q, ts, rfl, .inl (SqL.of (x3 _ _ nq (sm _ _ q1))), _, _, rfl, rfl, q2, ?_⟩⟩⟩
        obtain ⟨_, v, hv, hvm⟩ := at_mod (ts := ts) n3 (hne m1)
        refine ⟨q, ts, _, v, rfl, rfl, SqL.of (x3 _ _ nq (sm _ _ q1)), hv, by simp [sizeLine_eq], fun F hF0 => ?_⟩
        have hx3 := hx.trans x3
        have hFn : H F = none := hx3.free (fun e => by rw [e, h3] at hF0; cases hF0) hF0
        have npF := ne_new hp hFn
        clear hp2 hF hnd hsub hle c c'
        have hx : SameX p H (upd H3 F (.lst [v])) := hx3.updN hFn
        have hp2 := updK (o' := .lst [v]) h3 npF
        have hF : (upd H3 F (.lst [v])) F = some (.lst [v]) := upd_same
        have hnd : [v].Nodup := by simp
        have hsub : ∀ y ∈ [v], y ∈ ts := fun y hy => by have : y = v := by simpa using hy
                                                        rw [this]; exact hvm
        have hge : m ≤ [v].length := by simp; omega
        have hle : [v].length ≤ ts.length := by have := List.length_pos_iff.mpr (hne m1); simp; omega
      all_goals
        refine ⟨_, rfl, _, _, rfl, rfl, by simp, _, _, rfl, rfl, rfl, _, rfl, ite2 (fun c => ?_) (fun c => ?_)⟩
        · refine ⟨_, rfl, .inl ⟨rfl, _, SqL.of hF⟩, _, _, rfl, rfl, hF, ?_⟩
          exact ⟨_, rfl, k _ _ _ _ (hx.updN hFn) (updK hp2 npF) hFn upd_same (nodup_rev hnd) (fun y hy => hsub y (List.mem_reverse.mp hy)) (by rw [List.length_reverse]; exact hge) (by rw [List.length_reverse]; exact hle)⟩
        · exact ⟨_, rfl, k _ _ _ _ hx hp2 hFn hF hnd hsub hge hle⟩
end KK

set_option Elab.async false
set_option linter.all false
set_option maxRecDepth 100000
set_option maxHeartbeats 1000000
namespace KK
open PySem PySem.Spec L2 L3
def sp__law_parts (K : PySem.W.Frag) (a : Adr) : Sp := fun vs H Q _ => ∃ (p : Addr) (ns : List Int) (q : Addr) (ss : List Str), vs = [.ref p, .ref q] ∧ H p = some (.lst (ns.map V.int)) ∧ H q = some (.lst (ss.map V.str)) ∧ q ≠ p ∧ ss.Nodup ∧ (∀ x ∈ ss, isNameS x = true) ∧ ss.length ≤ 5 ∧ ∀ H' l v1 v2 v3 v4 d (ns' : List Int), SameX p H H' → H' p = some (.lst (ns'.map V.int)) → H l = none → H' l = some (.tup [v1, v2, v3, v4]) → PartsV (New H H') v1 v2 v3 v4 d → Good d → Q (.ref l) H'
theorem ok__law_parts {P : Program} {w : World} {K : PySem.W.Frag} {mg : Str → Option Value} {base : Heap} {a : Adr} (T : Txt K mg a) : FnOk P w K mg base CX0 3 a._law_parts a._law_parts_fd ["_law_xs", "_law_pool_here"] (sp__law_parts K a) := by
  have G__law_draw := ok__law_draw (P := P) (w := w) (base := base) T
  have G__law_some := ok__law_some (P := P) (w := w) (base := base) T
  refine T.f__law_parts.ok sc__law_parts (fun vs H Q E h => ?_) (fun cdv A outer s H vs Q E hr h => ?_)
  · obtain ⟨p, ns, q, ss, rfl, _⟩ := h
    rfl
  · obtain ⟨p, ns, q, ss, rfl, hp, hq, nq, snd, snm, sl, k⟩ := h
    refine ⟨_, (pss_cons (ps_set (i := 2) sc__law_parts.nd rfl (by first | exact Or.inl rfl | exact Or.inr rfl) (pe_op op_add pe_int (pe_op op_mod (pe_call G__law_draw (hr.mono (by decide)) rfl T.g__law_draw T.f__law_draw.kp T.n__law_draw .nil pass0 (pa_cons (pv 0) pa_nil)) pe_int)))
     (pss_cons (ps_if (pt_cmpR op_eq (pe_op op_mod (pe_call G__law_draw (hr.mono (by decide)) rfl T.g__law_draw T.f__law_draw.kp T.n__law_draw .nil pass0 (pa_cons (pv 0) pa_nil)) pe_int) pe_int (nomark _)) (pss_one (ps_set (i := 2) sc__law_parts.nd rfl (by first | exact Or.inl rfl | exact Or.inr rfl) pe_int)) pss_nil)
     (pss_cons (ps_set (i := 3) sc__law_parts.nd rfl (by first | exact Or.inl rfl | exact Or.inr rfl) (pe_callTy (call_listK (K := K) rfl rfl) rfl T.b_list PyProof.Rows.Boot.«list» (pa_cons (pe_callTy (call_rng) rfl T.b_range PyProof.Rows.Boot.«range» (pa_cons (pv 2) pa_nil)) pa_nil)))
     (pss_cons (ps_setComp (i := 4) sc__law_parts.nd rfl rfl (Nc := ["_law_room", "_law_xs", "_law_pool_here"]) (ix := [none, some 0, some 1]) (CompOk.of (by decide +kernel : compChk (defScope s__law_parts) ["_law_xs", "_law_pool_here", "_law_many", "_law_rooms", "_law_signs", "_law_ways", "_law_fair"] ["_law_room", "_law_xs", "_law_pool_here"] [none, some 0, some 1] _ = true)) rfl (pi_listK (K := K) rfl (pv 3)) (fun _ _ _ _ _ => (pg_name (i := 0) (show List.Nodup (["_law_room", "_law_xs", "_law_pool_here"] : List Str) by decide +kernel) rfl (by first | exact Or.inl rfl | exact Or.inr rfl))) (fun _ _ _ _ _ => pts_nil) (fun _ _ _ _ _ => (pe_call G__law_some (hr.mono (by decide)) rfl T.g__law_some T.f__law_some.kp T.n__law_some .nil pass0 (pa_cons (pv 1) (pa_cons (pv 2) (pa_cons pe_int pa_nil))))))
     (pss_cons (ps_setComp (i := 5) sc__law_parts.nd rfl rfl (Nc := ["_law_room", "_law_xs", "_law_rooms"]) (ix := [none, some 0, some 3]) (CompOk.of (by decide +kernel : compChk (defScope s__law_parts) ["_law_xs", "_law_pool_here", "_law_many", "_law_rooms", "_law_signs", "_law_ways", "_law_fair"] ["_law_room", "_law_xs", "_law_rooms"] [none, some 0, some 3] _ = true)) rfl (pi_listK (K := K) rfl (pv 3)) (fun _ _ _ _ _ => (pg_name (i := 0) (show List.Nodup (["_law_room", "_law_xs", "_law_rooms"] : List Str) by decide +kernel) rfl (by first | exact Or.inl rfl | exact Or.inr rfl))) (fun _ _ _ _ _ => pts_nil) (fun _ _ _ _ _ => (pe_call G__law_some (hr.mono (by decide)) rfl T.g__law_some T.f__law_some.kp T.n__law_some .nil pass0 (pa_cons (pv 1) (pa_cons (pv 2) (pa_cons pe_int pa_nil))))))
     (pss_cons (ps_set (i := 6) sc__law_parts.nd rfl (by first | exact Or.inl rfl | exact Or.inr rfl) (pe_slice (sl_listK (K := K) rfl) (pe_call G__law_some (hr.mono (by decide)) rfl T.g__law_some T.f__law_some.kp T.n__law_some .nil pass0 (pa_cons (pv 0) (pa_cons (pv 1) (pa_cons pe_int pa_nil)))) po_none (po_some pe_int)))
     (pss_one (ps_ret (pe_tup (pa_cons (pv 4) (pa_cons (pv 5) (pa_cons (pe_call G__law_some (hr.mono (by decide)) rfl T.g__law_some T.f__law_some.kp T.n__law_some .nil pass0 (pa_cons (pv 0) (pa_cons (pv 3) (pa_cons pe_int pa_nil)))) (pa_cons (pv 6) pa_nil))))))))))))), ?_⟩
    refine ⟨_, rfl, p, ns, rfl, hp, fun H1 n1 ns1 x1 h1 => ⟨_, _, rfl, rfl, by simp, _, _, rfl, rfl, ?_⟩⟩
    refine ⟨_, rfl, p, ns1, rfl, h1, fun H2 n2 ns2 x2 h2 => ⟨_, _, rfl, rfl, by simp, rfl, _, rfl, ite2 (fun c => ?_) (fun c => ?_)⟩⟩
    case' refine_1 =>
      refine ⟨_, rfl, _, rfl, fun r hr => .inr ⟨r, _, rfl, upd_same, by decide, by decide, fun R hR => ?_⟩⟩
      obtain ⟨f1, f2, f3, f4⟩ := upTo_facts (j := 20) (by decide) (by decide)
      have hRR : (upd (upd H2 r (.rng 0 20)) R (.lst ((L3.upTo 20).map V.int))) R = some (.lst ((L3.upTo 20).map V.int)) := upd_same
      have sR : Same H2 (upd (upd H2 r (.rng 0 20)) R (.lst ((L3.upTo 20).map V.int))) := (same_upd hr).trans (same_upd hR)
      generalize (upd (upd H2 r (.rng 0 20)) R (.lst ((L3.upTo 20).map V.int))) = H3 at hRR sR ⊢
      have hR2 := (same_upd hr).free hR
      clear hR c
      generalize L3.upTo 20 = rs at f1 f2 f3 f4 hRR
    case' refine_2 =>
      have m0 := Int.emod_nonneg n1 (show (6 : Int) ≠ 0 by decide)
      have m1 := Int.emod_lt_of_pos n1 (show (0 : Int) < 6 by decide)
      refine ⟨_, rfl, _, rfl, fun r hr => .inr ⟨r, _, rfl, upd_same, by omega, by omega, fun R hR => ?_⟩⟩
      obtain ⟨f1, f2, f3, f4⟩ := upTo_facts (j := 1 + n1 % 6) (by omega) (by omega)
      have hRR : (upd (upd H2 r (.rng 0 (1 + n1 % 6))) R (.lst ((L3.upTo (1 + n1 % 6)).map V.int))) R = some (.lst ((L3.upTo (1 + n1 % 6)).map V.int)) := upd_same
      have sR : Same H2 (upd (upd H2 r (.rng 0 (1 + n1 % 6))) R (.lst ((L3.upTo (1 + n1 % 6)).map V.int))) := (same_upd hr).trans (same_upd hR)
      generalize (upd (upd H2 r (.rng 0 (1 + n1 % 6))) R (.lst ((L3.upTo (1 + n1 % 6)).map V.int))) = H3 at hRR sR ⊢
      have hR2 := (same_upd hr).free hR
      clear hR c m0 m1
      generalize L3.upTo (1 + n1 % 6) = rs at f1 f2 f3 f4 hRR
    all_goals
      have nRp : R ≠ p := fun e => by rw [e, h2] at hR2; cases hR2
      have x3 : SameX p H H3 := (x1.trans x2).trans (Same.x sR)
      have h3 := sR _ _ h2
      have q3 := x3 _ _ nq hq
      have rne : rs.map V.int ≠ [] := fun e => by have := congrArg List.length e; rw [List.length_map] at this; simp at this; subst this; simp at f2
      have rnd := nodup_map int_inj f1
      have tnd := nodup_map str_inj snd
      -- signs
      refine ⟨_, rfl, R, rfl, ⟨_, SqL.of hRR⟩, fun D hD => ?_⟩
      refine comp_mapX (K := K) hD h3 hRR nRp (by rw [List.length_map, sizeLine_eq]; omega) (fun i v G => ∃ zs : List Str, LS G v zs ∧ zs.Nodup ∧ (∀ x ∈ zs, isNameS x = true) ∧ zs.length ≤ 5) (fun i v _ _ sm ⟨zs, z1, z2⟩ => ⟨zs, LS.mono _ _ _ _ sm z1, z2⟩) ?_ ?_
      · intro i x H4 ns4 N hx x4 h4 hN
        refine ⟨_, rfl, _, rfl, p, ns4, q, ss.map V.str, 0, rfl, h4, x4 _ _ nq q3, nq, tnd, by rw [List.length_map]; omega, by omega, fun e => by omega, fun H5 l ys ns5 x5 h5 hl0 hl ynd ysub yge yle => hN _ _ ns5 x5 h5 ?_⟩
        obtain ⟨zs, rfl, hz⟩ := unmap ysub
        exact ⟨zs, ⟨l, rfl, New.mk hl0 hl⟩, nodup_unmap ynd, fun x hx => snm x (hz x hx), by rw [List.length_map, List.length_map] at yle; omega⟩
      intro H4 sv ns4 hD4 x4 h4 sl4 r4
      obtain ⟨sg, sgl, sgq⟩ := choose_list r4
      rw [List.length_map] at sl4
      have R4 := x4 _ _ nRp hRR
      have q4 := x4 _ _ nq q3
      -- ways
      refine ⟨_, rfl, R, rfl, ⟨_, SqL.of R4⟩, fun E hE => ?_⟩
      refine comp_mapX (K := K) hE h4 R4 nRp (by rw [List.length_map, sizeLine_eq]; omega) (fun i v G => ∃ zs : List Int, LI G v zs ∧ zs.Nodup ∧ zs ≠ [] ∧ (∀ x ∈ zs, 0 ≤ x ∧ x < rs.length) ∧ zs.length ≤ 20) (fun i v _ _ sm ⟨zs, z1, z2⟩ => ⟨zs, LI.mono _ _ _ _ sm z1, z2⟩) ?_ ?_
      · intro i x H5 ns5 N hx x5 h5 hN
        refine ⟨_, rfl, _, rfl, p, ns5, R, rs.map V.int, 1, rfl, h5, x5 _ _ nRp R4, nRp, rnd, by rw [List.length_map]; omega, by omega, fun e => rne, fun H6 l ys ns6 x6 h6 hl0 hl ynd ysub yge yle => hN _ _ ns6 x6 h6 ?_⟩
        obtain ⟨zs, rfl, hz⟩ := unmap ysub
        rw [List.length_map] at yge yle
        rw [List.length_map] at yle
        exact ⟨zs, ⟨l, rfl, New.mk hl0 hl⟩, nodup_unmap ynd, fun e => by rw [e] at yge; simp at yge, fun x hx => f4 x (hz x hx), by omega⟩
      intro H5 wv ns5 hE5 x5 h5 wl5 r5
      obtain ⟨wy, wyl, wyq⟩ := choose_list r5
      rw [List.length_map] at wl5
      have R5 := x5 _ _ nRp R4
      have q5 := x5 _ _ nq q4
      -- fair
      refine ⟨_, rfl, _, rfl, p, ns5, q, ss.map V.str, 0, rfl, h5, q5, nq, tnd, by rw [List.length_map]; omega, by omega, fun e => by omega, fun H6 l6 y6 ns6 x6 h6 hl6 hy6 nd6 sub6 ge6 le6 => ?_⟩
      refine ⟨_, rfl, l6, y6, rfl, SqL.of hy6, fun l7 hl7 => ?_⟩
      rw [cut3]
      have hl70 : H6 l7 = none := hl7
      have s7 := same_upd (o := .lst (y6.take 3)) hl7
      have h7 := s7 _ _ h6
      have x7 := x6.trans (Same.x s7)
      have R7 := x7 _ _ nRp R5
      have e7 : (upd H6 l7 (.lst (y6.take 3))) l7 = some (.lst (y6.take 3)) := upd_same
      generalize upd H6 l7 (.lst (y6.take 3)) = H7 at s7 h7 x7 R7 e7 ⊢
      -- starts and all
      refine ⟨_, rfl, _, rfl, _, rfl, _, rfl, p, ns6, R, rs.map V.int, 1, rfl, h7, R7, nRp, rnd, by rw [List.length_map]; omega, by omega, fun e => rne, fun H8 l8 y8 ns8 x8 h8 hl8 hy8 nd8 sub8 ge8 le8 => ?_⟩
      refine ⟨_, rfl, by simp [sizeLine_eq], fun t ht => ?_⟩
      obtain ⟨fz, rfl, hfz⟩ := unmap sub6
      obtain ⟨tz, rfl, htz⟩ := unmap sub8
      have s9 := same_upd (o := .tup [.ref D, .ref E, .ref l8, .ref l7]) ht
      have h9 := s9 _ _ h8
      have x89 := x8.trans (Same.x s9)
      have e9 : (upd H8 t (.tup [.ref D, .ref E, .ref l8, .ref l7])) t = some (.tup [.ref D, .ref E, .ref l8, .ref l7]) := upd_same
      generalize upd H8 t (.tup [.ref D, .ref E, .ref l8, .ref l7]) = H9 at s9 h9 x89 e9 ⊢
      have xH4 := x3.trans x4
      have xH5 := xH4.trans x5
      have xH7 := xH5.trans x7
      have xH9 := xH7.trans x89
      have ht0 : H t = none := by
        refine (xH7.trans x8).free (fun e => ?_) ht
        rw [e, h8] at ht; cases ht
      have m1 : Same (New H3 H4) (New H H9) := New.monoX x3 h3 ((x5.trans x7).trans x89)
      have m2 : Same (New H4 H5) (New H H9) := New.monoX xH4 h4 (x7.trans x89)
      have nD : D ≠ p := fun e => by rw [e, h3] at hD; cases hD
      have nE : E ≠ p := fun e => by rw [e, h4] at hE; cases hE
      have n7 : l7 ≠ p := fun e => by rw [e, h6] at hl7; cases hl7
      have n8 : l8 ≠ p := fun e => by rw [e, h7] at hl8; cases hl8
      rw [List.length_map] at ge8 le8
      rw [List.length_map] at le8
      refine k _ t (.ref D) (.ref E) (.ref l8) (.ref l7) ⟨sg, wy, tz, fz.take 3⟩ ns8 xH9 h9 ht0 e9 ⟨?_, ?_, ?_, ?_⟩ ?_
      · exact ⟨D, sv, rfl, New.mk (x3.free nD hD) (((x5.trans x7).trans x89) _ _ nD hD4), sgl, fun i v x e1 e2 => LS.mono _ _ _ _ m1 (sgq i v x e1 e2).1⟩
      · exact ⟨E, wv, rfl, New.mk (xH4.free nE hE) ((x7.trans x89) _ _ nE hE5), wyl, fun i v x e1 e2 => LI.mono _ _ _ _ m2 (wyq i v x e1 e2).1⟩
      · exact ⟨l8, rfl, New.mk (xH7.free n8 hl8) (s9 _ _ hy8)⟩
      · exact ⟨l7, rfl, New.mk ((xH5.trans x6).free n7 hl7) (by rw [List.map_take]; exact x89 _ _ n7 e7)⟩
      · have sm : ∀ zs ∈ sg, zs.Nodup ∧ (∀ x ∈ zs, isNameS x = true) ∧ zs.length ≤ 5 := fun zs hz => by
          obtain ⟨i, hi, rfl⟩ := List.getElem_of_mem hz
          exact (sgq i _ _ (List.getElem?_eq_getElem (by omega)) (List.getElem?_eq_getElem hi)).2
        have wm : ∀ zs ∈ wy, zs.Nodup ∧ zs ≠ [] ∧ (∀ x ∈ zs, 0 ≤ x ∧ x < rs.length) ∧ zs.length ≤ 20 := fun zs hz => by
          obtain ⟨i, hi, rfl⟩ := List.getElem_of_mem hz
          exact (wyq i _ _ (List.getElem?_eq_getElem (by omega)) (List.getElem?_eq_getElem hi)).2
        have eL : sg.length = rs.length := by omega
        refine ⟨by show 1 ≤ sg.length; omega, by show sg.length ≤ 20; omega, by show wy.length = sg.length; omega, sm, ?_, ?_, ?_⟩
        · intro zs hz
          show _ ∧ _ ∧ (∀ x ∈ zs, 0 ≤ x ∧ x < (sg.length : Int)) ∧ _
          rw [eL]
          exact wm zs hz
        · show tz.Nodup ∧ tz ≠ [] ∧ (∀ x ∈ tz, 0 ≤ x ∧ x < (sg.length : Int)) ∧ tz.length ≤ 20
          rw [eL]
          exact ⟨nodup_unmap nd8, fun e => by rw [e] at ge8; simp at ge8, fun x hx => f4 x (htz x hx), by omega⟩
        · show (fz.take 3).Nodup ∧ (∀ x ∈ fz.take 3, isNameS x = true) ∧ (fz.take 3).length ≤ 3
          exact ⟨(nodup_unmap nd6).sublist (List.take_sublist _ _), fun x hx => snm x (hfz x ((List.take_sublist _ _).subset hx)), by rw [List.length_take]; omega⟩
end KK

set_option Elab.async false
set_option linter.all false
set_option maxRecDepth 100000
set_option maxHeartbeats 1000000
namespace KK
open PySem PySem.Spec L2 L3
theorem exm_of {K : PySem.W.Frag} {t c : Value} (h1 : PySem.W.subIn K c (.type "BaseException") = some true) (h2 : (t == c) = false) (h3 : PySem.W.kitOne K t c = some true) : PySem.W.exmOne K t c = some true := by
  unfold PySem.W.exmOne
  rw [h1, if_pos (by rfl)]
  unfold PySem.W.kitOne at h3
  rw [h2, if_neg Bool.false_ne_true] at h3
  exact h3
theorem refs5 {a b c d e : Addr} : ∀ v ∈ [V.ref a, V.ref b, V.ref c, V.ref d, V.ref e], ∃ C, v = V.ref C := by
  intro v hv
  simp only [List.mem_cons, List.not_mem_nil, or_false] at hv
  rcases hv with h | h | h | h | h <;> exact ⟨_, h⟩
theorem vals5 {a b c d e : Addr} : Vals [V.ref a, V.ref b, V.ref c, V.ref d, V.ref e] [.ref a, .ref b, .ref c, .ref d, .ref e] := .cons rfl (.cons rfl (.cons rfl (.cons rfl (.cons rfl .nil))))
def sp__law_refused (K : PySem.W.Frag) (a : Adr) : Sp := fun vs H Q _ => ∃ t x y z u, vs = [.ref t] ∧ H t = some (.tup [x, y, z, u]) ∧ KdLL H x ∧ KdLL H y ∧ KdL H z ∧ KdL H u ∧ makesW H x y z u = false ∧ ∀ H', Same H H' → Q (.bl true) H'
theorem ok__law_refused {P : Program} {w : World} {K : PySem.W.Frag} {mg : Str → Option Value} {base : Heap} {a : Adr} (T : Txt K mg a) : FnOk P w K mg base CX0 8 a._law_refused a._law_refused_fd ["_law_parts_here"] (sp__law_refused K a) := by
  have G_World_init := ok_World_init (P := P) (w := w) (base := base) T
  have Z_World_init := no_World_init (P := P) (w := w) (base := base) T
  refine T.f__law_refused.ok sc__law_refused (fun vs H Q E h => ?_) (fun cdv A outer s H vs Q E hr h => ?_)
  · obtain ⟨t, x, y, z, u, rfl, _⟩ := h
    rfl
  · obtain ⟨t, x, y, z, u, rfl, ht, kx, ky, kz, ku, hm, k⟩ := h
    refine ⟨_, (pss_cons (ps_set (i := 1) sc__law_refused.nd rfl (by first | exact Or.inl rfl | exact Or.inr rfl) pe_bl)
     (pss_cons (ps_try (i := 2) rfl rfl sc__law_refused.nd rfl rfl rfl T.g_TimeError (psx_expr (pex_make T.mk_World Z_World_init (hr.mono (by decide)) rfl T.g_World T.n_World_init (pa_cons (pe_ix (ix_tupK (K := K) rfl) (pv 0) pe_int (fun _ _ => rfl)) (pa_cons (pe_ix (ix_tupK (K := K) rfl) (pv 0) pe_int (fun _ _ => rfl)) (pa_cons (pe_ix (ix_tupK (K := K) rfl) (pv 0) pe_int (fun _ _ => rfl)) (pa_cons (pe_ix (ix_tupK (K := K) rfl) (pv 0) pe_int (fun _ _ => rfl)) pa_nil)))))) (fun _ => (pss_cons (ps_set (i := 3) sc__law_refused.nd rfl (by first | exact Or.inl rfl | exact Or.inr rfl) (pe_callB (call_isXT (K := K) rfl (cs := [.ref a.C_BadMachine, .ref a.C_BadSentence, .ref a.C_NoText, .ref a.C_NoWorld, .ref a.C_TooMany]) (ws := [.ref a.C_BadMachine, .ref a.C_BadSentence, .ref a.C_NoText, .ref a.C_NoWorld, .ref a.C_TooMany]) refs5 vals5) rfl T.b_isinstance PyProof.Rows.Boot.«isinstance» (pa_cons (pv 2) (pa_cons (pe_tup (pa_cons (pe_gc (v := .ref a.C_BadMachine) rfl ⟨_, T.g_BadMachine, rfl⟩) (pa_cons (pe_gc (v := .ref a.C_BadSentence) rfl ⟨_, T.g_BadSentence, rfl⟩) (pa_cons (pe_gc (v := .ref a.C_NoText) rfl ⟨_, T.g_NoText, rfl⟩) (pa_cons (pe_gc (v := .ref a.C_NoWorld) rfl ⟨_, T.g_NoWorld, rfl⟩) (pa_cons (pe_gc (v := .ref a.C_TooMany) rfl ⟨_, T.g_TooMany, rfl⟩) pa_nil)))))) pa_nil))))
     (pss_one (ps_set (i := 1) sc__law_refused.nd rfl (by first | exact Or.inl rfl | exact Or.inr rfl) (pe_and (pe_callB (call_isX (K := K) rfl (c := .ref a.C_BadWorld) (.inl ⟨_, rfl⟩)) rfl T.b_isinstance PyProof.Rows.Boot.«isinstance» (pa_cons (pv 2) (pa_cons (pe_gc (v := .ref a.C_BadWorld) rfl ⟨_, T.g_BadWorld, rfl⟩) pa_nil))) (pe_and (pe_callB (call_isX (K := K) rfl (c := .ty "ValueError") (.inr ⟨_, rfl⟩)) rfl T.b_isinstance PyProof.Rows.Boot.«isinstance» (pa_cons (pv 2) (pa_cons (pe_bltn (v := .ty "ValueError") rfl T.b_ValueError PyProof.Rows.Boot.«ValueError» rfl) pa_nil))) (pe_one (pe_not (pv 3))))))))))
     (pss_one (ps_ret (pv 1))))), ?_⟩
    refine ⟨_, rfl, t, _, 0, x, rfl, rfl, SqT.of ht, rfl, _, rfl, t, _, 1, y, rfl, rfl, SqT.of ht, rfl, _, rfl, t, _, 2, z, rfl, rfl, SqT.of ht, rfl, _, rfl, t, _, 3, u, rfl, rfl, SqT.of ht, rfl, fun p dx hp hdx hne => ?_⟩
    have s1 : Same H (upd (upd H dx (.own p)) p (.ins a.C_World dx [])) := (same_upd hdx).trans (same_upd (by rw [upd_ne (Ne.symm hne)]; exact hp))
    refine ⟨p, x, y, z, u, rfl, kx.mono s1, ky.mono s1, kz.mono s1, ku.mono s1, (makesW_same s1 kx ky kz ku).trans hm, fun H2 e s2 => ?_⟩
    refine ⟨e, a.C_BadWorld, rfl, rfl, exm_of T.sb_TimeError T.ne_BadWorld_TimeError T.i1_BadWorld, fun he => ?_⟩
    have s3 : Same H (upd H2 e (XcO e a.C_BadWorld)) := (s1.trans s2).trans (same_upd he)
    generalize hH3 : upd H2 e (XcO e a.C_BadWorld) = H3 at s3 ⊢
    have h3 : H3 e = some (XcO e a.C_BadWorld) := by rw [← hH3, upd_same]
    refine ⟨.ref e, rfl, by rw [sizeLine_eq]; simp, fun tp htp => ⟨e, a.C_BadWorld, tp, false, rfl, same_upd htp _ _ h3, T.k_BadWorld, upd_same, T.i4_BadWorld, ?_⟩⟩
    have h4 := same_upd (o := .tup [.ref a.C_BadMachine, .ref a.C_BadSentence, .ref a.C_NoText, .ref a.C_NoWorld, .ref a.C_TooMany]) htp _ _ h3
    refine ⟨.ref e, rfl, e, a.C_BadWorld, _, true, rfl, h4, T.k_BadWorld, rfl, T.i2_BadWorld, true, rfl, iteT ⟨.ref e, rfl, e, a.C_BadWorld, _, true, rfl, h4, T.k_BadWorld, rfl, T.i3_BadWorld, true, rfl, iteT ⟨.bl false, rfl, false, rfl, ?_⟩⟩⟩
    exact ⟨_, rfl, k _ (s3.trans (same_upd htp))⟩
end KK

set_option Elab.async false
set_option linter.all false
set_option maxRecDepth 100000
set_option maxHeartbeats 1000000
namespace KK
open PySem PySem.Spec L2 L3
def sp__law_put (K : PySem.W.Frag) (a : Adr) : Sp := fun vs H Q _ => ∃ p xs, ∃ (i : Nat) (v : V), vs = [.ref p, .int i, v] ∧ H p = some (.lst xs) ∧ i < xs.length ∧ xs.length ≤ 20 ∧ ∀ H' l, Same H H' → H' l = some (.lst (xs.take i ++ [v] ++ xs.drop (i + 1))) → Q (.ref l) H'
theorem ok__law_put {P : Program} {w : World} {K : PySem.W.Frag} {mg : Str → Option Value} {base : Heap} {a : Adr} (T : Txt K mg a) : FnOk P w K mg base CX0 1 a._law_put a._law_put_fd ["_law_things", "_law_at", "_law_thing"] (sp__law_put K a) := by
  refine T.f__law_put.ok sc__law_put (fun vs H Q E h => ?_) (fun cdv A outer s H vs Q E hr h => ?_)
  · obtain ⟨p, xs, i, v, rfl, _⟩ := h
    rfl
  · obtain ⟨p, xs, i, v, rfl, hp, hi, hz, k⟩ := h
    refine ⟨_, (pss_one (ps_ret (pe_op op_cat (pe_op op_cat (pe_slice (sl_listK (K := K) rfl) (pv 0) po_none (po_some (pv 1))) (pe_lst (pa_cons (pv 2) pa_nil))) (pe_slice (sl_listK (K := K) rfl) (pv 0) (po_some (pe_op op_add (pv 1) pe_int)) po_none)))), ?_⟩
    refine ⟨_, rfl, _, rfl, _, rfl, p, xs, rfl, SqL.of hp, fun p1 h1 => ⟨_, rfl, by rw [sizeLine_eq]; simp, fun p2 h2 => ?_⟩⟩
    have s2 := (same_upd (o := .lst (cutV xs none (some (i : Int)))) h1).trans (same_upd (o := .lst [v]) h2)
    have g1 : (upd (upd H p1 (.lst (cutV xs none (some (i : Int))))) p2 (.lst [v])) p1 = some (.lst (xs.take i)) := by rw [upd_ne (ne_of_none upd_same h2), upd_same, cutV_to _ _ (by omega)]
    refine ⟨p1, p2, xs.take i, [v], rfl, rfl, g1, upd_same, by rw [sizeLine_eq, List.length_take]; simp; omega, fun p3 h3 => ?_⟩
    have s3 := s2.trans (same_upd (o := .lst (xs.take i ++ [v])) h3)
    refine ⟨_, rfl, _, rfl, _, _, rfl, rfl, _, rfl, p, xs, rfl, SqL.of (s3 _ _ hp), fun p4 h4 => ?_⟩
    have g4 := same_upd (o := .lst (cutV xs (some ((i : Int) + 1)) none)) h4 p3 _ upd_same
    refine ⟨p3, p4, _, xs.drop (i + 1), rfl, rfl, g4, by rw [upd_same, show ((i : Int) + 1) = ((i + 1 : Nat) : Int) from rfl, cutV_from _ _ (by omega)], by rw [sizeLine_eq, List.length_append, List.length_take, List.length_drop]; simp; omega, fun p5 h5 => ?_⟩
    exact k _ p5 ((s3.trans (same_upd h4)).trans (same_upd h5)) upd_same
end KK

set_option Elab.async false
set_option linter.all false
set_option maxRecDepth 100000
set_option maxHeartbeats 1000000
namespace KK
open PySem PySem.Spec L2 L3
theorem eight_names {G : Hp} {t1 : Addr} {xs : List V} (h : G t1 = some (.tup xs)) : ∀ w ∈ [V.str "ninelette", .str "", .str "Ab", .str "a1", .str "a b", .int 3, .non, .ref t1], Kd G w ∧ isNameV w = false := by
  intro w hw
  simp only [List.mem_cons, List.not_mem_nil, or_false] at hw
  rcases hw with rfl | rfl | rfl | rfl | rfl | rfl | rfl | rfl
  · exact ⟨.str _ (by decide), by decide⟩
  · exact ⟨.str _ (by decide), by decide⟩
  · exact ⟨.str _ (by decide), by decide⟩
  · exact ⟨.str _ (by decide), by decide⟩
  · exact ⟨.str _ (by decide), by decide⟩
  · exact ⟨.int _, rfl⟩
  · exact ⟨.non, rfl⟩
  · exact ⟨.tup h, rfl⟩
theorem kd_names {G : Hp} {ss : List Str} (hn : ∀ x ∈ ss, isNameS x = true) : ∀ y ∈ ss.map V.str, Kd G y := fun y hy => by
  obtain ⟨z, hz, rfl⟩ := List.mem_map.mp hy
  exact .str z (Nat.le_trans (name_short (hn z hz)) (by decide))
theorem split_bn : ∃ (p0 p1 p2 : Pos) (es : List Expr) (r : List Stmt), defBody s__law_bad_names = .Assign [.Name "_law_some_here" p0] (.List es p1) p2 :: r ∧ r = (defBody s__law_bad_names).drop 1 ∧
    ∀ X, QA X es (tCons (tC (.str "ninelette")) (tCons (tC (.str "")) (tCons (tC (.str "Ab")) (tCons (tC (.str "a1")) (tCons (tC (.str "a b")) (tCons (tC (.int 3)) (tCons (tC .non) (tCons (tTup (tCons (tC (.str "a")) tNil)) (tCons (tLst (tCons (tC (.str "a")) tNil)) tNil))))))))) :=
  ⟨_, _, _, _, _, rfl, rfl, fun X => qa_c pe_str (qa_c pe_str (qa_c pe_str (qa_c pe_str (qa_c pe_str (qa_c pe_int (qa_c pe_non (qa_c (pe_tup (pa_c pe_str pa_nil)) (qa_c (pe_lst (pa_c pe_str pa_nil)) qa_nil))))))))⟩
def sp__law_bad_names (K : PySem.W.Frag) (a : Adr) : Sp := fun vs H Q _ => ∃ (p : Addr) (ss : List Str), vs = [.ref p] ∧ H p = some (.lst (ss.map V.str)) ∧ (∀ x ∈ ss, isNameS x = true) ∧ ss.length ≤ 5 ∧ ∀ H' l ys, Same H H' → H l = none → H' l = some (.lst ys) → ys.length = 14 → (∀ y ∈ ys, BN (New H H') y) → Q (.ref l) H'
theorem ok__law_bad_names {P : Program} {w : World} {K : PySem.W.Frag} {mg : Str → Option Value} {base : Heap} {a : Adr} (T : Txt K mg a) : FnOk P w K mg base CX0 1 a._law_bad_names a._law_bad_names_fd ["_law_names"] (sp__law_bad_names K a) := by
  refine T.f__law_bad_names.ok sc__law_bad_names (fun vs H Q E h => ?_) (fun cdv A outer s H vs Q E hr h => ?_)
  · obtain ⟨p, ss, rfl, _⟩ := h
    rfl
  · obtain ⟨p, ss, rfl, hp, hn, hz, k⟩ := h
    obtain ⟨p0, p1, p2, es, r, hb, hr0, hes⟩ := split_bn
    rw [hb]
    subst hr0
    refine ⟨_, (pss_cons (ps_set (i := 1) sc__law_bad_names.nd rfl (by first | exact Or.inl rfl | exact Or.inr rfl) (pe_lst (hes _).h))
     (pss_cons (ps_setComp (i := 2) sc__law_bad_names.nd rfl rfl (Nc := ["_law_one", "_law_names"]) (ix := [none, some 0]) (CompOk.of (by decide +kernel : compChk (defScope s__law_bad_names) ["_law_names", "_law_some_here", "_law_found"] ["_law_one", "_law_names"] [none, some 0] _ = true)) rfl (pi_listK (K := K) rfl (pe_slice (sl_listK (K := K) rfl) (pv 1) po_none (po_some pe_int))) (fun _ _ _ _ _ => (pg_name (i := 0) (show List.Nodup (["_law_one", "_law_names"] : List Str) by decide +kernel) rfl (by first | exact Or.inl rfl | exact Or.inr rfl))) (fun _ _ _ _ _ => pts_nil) (fun _ _ _ _ _ => (pe_op op_cat (pv 1) (pe_lst (pa_cons (pv 0) pa_nil)))))
     (pss_one (ps_ret (pe_op op_cat (pv 2) (pe_lst (pa_c (pe_lst (pa_c pe_str (pa_c pe_str (pa_c pe_str pa_nil)))) (pa_c (pe_callTy (call_tupleK (K := K) rfl) rfl T.b_tuple PyProof.Rows.Boot.«tuple» (pa_cons (pv 0) pa_nil)) (pa_c pe_str (pa_c pe_non (pa_c pe_d1S (pa_c pe_int pa_nil)))))))))))), ?_⟩
    refine ⟨by rw [sizeLine_eq]; simp, fun t1 h1 => ⟨by rw [sizeLine_eq]; simp, fun t2 h2 => ⟨by rw [sizeLine_eq]; simp, fun L hL => ?_⟩⟩⟩
    have s1 := ((same_upd (o := .tup [.str "a"]) h1).trans (same_upd (o := .lst [.str "a"]) h2)).trans (same_upd (o := .lst [.str "ninelette", .str "", .str "Ab", .str "a1", .str "a b", .int 3, .non, .ref t1, .ref t2]) hL)
    have gt := ((same_upd (o := .lst [.str "a"]) h2).trans (same_upd (o := .lst [.str "ninelette", .str "", .str "Ab", .str "a1", .str "a b", .int 3, .non, .ref t1, .ref t2]) hL)) t1 _ upd_same
    have gL : upd (upd (upd H t1 (.tup [.str "a"])) t2 (.lst [.str "a"])) L (.lst [.str "ninelette", .str "", .str "Ab", .str "a1", .str "a b", .int 3, .non, .ref t1, .ref t2]) L = some (.lst [.str "ninelette", .str "", .str "Ab", .str "a1", .str "a b", .int 3, .non, .ref t1, .ref t2]) := upd_same
    generalize upd (upd (upd H t1 (.tup [.str "a"])) t2 (.lst [.str "a"])) L (.lst [.str "ninelette", .str "", .str "Ab", .str "a1", .str "a b", .int 3, .non, .ref t1, .ref t2]) = H1 at s1 gt gL ⊢
    refine ⟨_, rfl, _, rfl, L, _, rfl, SqL.of gL, fun S hS => ⟨S, rfl, ⟨_, SqL.of upd_same⟩, fun D hD => ?_⟩⟩
    have eS : cutV [V.str "ninelette", .str "", .str "Ab", .str "a1", .str "a b", .int 3, .non, .ref t1, .ref t2] none (some 8) = [V.str "ninelette", .str "", .str "Ab", .str "a1", .str "a b", .int 3, .non, .ref t1] := rfl
    rw [eS] at hD ⊢
    have sS := same_upd (o := .lst [V.str "ninelette", .str "", .str "Ab", .str "a1", .str "a b", .int 3, .non, .ref t1]) hS
    have gS : upd H1 S (.lst [V.str "ninelette", .str "", .str "Ab", .str "a1", .str "a b", .int 3, .non, .ref t1]) S = some (.lst [V.str "ninelette", .str "", .str "Ab", .str "a1", .str "a b", .int 3, .non, .ref t1]) := upd_same
    generalize upd H1 S (.lst [V.str "ninelette", .str "", .str "Ab", .str "a1", .str "a b", .int 3, .non, .ref t1]) = H2 at sS gS hD ⊢
    refine comp_mapH (K := K) hD (SqL.of gS) (by rw [sizeLine_eq]; simp) (fun i v G => BN (New H G) v) (fun i v _ _ sm q => q.mono (New.mono (.refl H) sm)) ?_ ?_
    · intro i w H3 N hx sm fr hN
      have g3 := sm _ _ (sS _ _ gt)
      have nt : t1 ≠ D := ne_new (sS _ _ gt) hD
      refine ⟨_, rfl, _, rfl, by rw [sizeLine_eq]; simp, fun l hl => ?_⟩
      refine ⟨p, l, _, _, rfl, rfl, same_upd hl _ _ (sm _ _ (sS _ _ (s1 _ _ hp))), upd_same, by rw [sizeLine_eq]; simp; omega, fun r hr => ?_⟩
      have s4 := (same_upd (o := .lst [w]) hl).trans (same_upd (o := .lst (ss.map V.str ++ [w])) hr)
      obtain ⟨kw, nw⟩ := eight_names (G := New H (hide D (upd (upd H3 l (.lst [w])) r (.lst (ss.map V.str ++ [w]))))) (New.mk h1 (hide_mk nt (s4 _ _ g3))) w (List.mem_of_getElem? hx)
      refine hN _ _ s4 (bn_lst (New.mk ((s1.trans (sS.trans sm)).free ((same_upd (o := .lst [w]) hl).free hr)) (hide_mk (fr r ((same_upd (o := .lst [w]) hl).free hr)) upd_same)) (by simp; omega) (fun y hy => ?_) ?_)
      · rcases List.mem_append.mp hy with hy | hy
        · exact kd_names hn y hy
        · cases List.mem_singleton.mp hy
          exact kw
      · rw [all_no (List.mem_append_right _ (.head _)) nw, Bool.false_and]
    intro H3 ws hD3 s3 lw r3
    -- the others
    refine ⟨_, rfl, by rw [sizeLine_eq]; simp, fun q1 hq1 => ?_⟩
    have t4 := same_upd (o := .lst [.str "a", .str "b", .str "a"]) hq1
    have e4 : (upd H3 q1 (.lst [.str "a", .str "b", .str "a"])) q1 = some (.lst [.str "a", .str "b", .str "a"]) := upd_same
    generalize upd H3 q1 (.lst [.str "a", .str "b", .str "a"]) = H4 at t4 e4 ⊢
    have sp4 : Same H H4 := s1.trans (sS.trans (s3.trans t4))
    refine ⟨_, rfl, p, _, rfl, .inl ⟨SqL.of (sp4 _ _ hp), fun q2 hq2 => ?_⟩⟩
    have t5 := same_upd (o := .tup (ss.map V.str)) hq2
    have e5 : (upd H4 q2 (.tup (ss.map V.str))) q2 = some (.tup (ss.map V.str)) := upd_same
    generalize upd H4 q2 (.tup (ss.map V.str)) = H5 at t5 e5 ⊢
    intro q3 hq3
    have t6 := same_upd (o := .dK [(.inr "a", .int 1)]) hq3
    have e6 : (upd H5 q3 (.dK [(.inr "a", .int 1)])) q3 = some (.dK [(.inr "a", .int 1)]) := upd_same
    generalize upd H5 q3 (.dK [(.inr "a", .int 1)]) = H6 at t6 e6 ⊢
    refine ⟨by rw [sizeLine_eq]; simp, fun q4 hq4 => ?_⟩
    have t7 := same_upd (o := .lst [.ref q1, .ref q2, .str "ab", .non, .ref q3, .int 7]) hq4
    have e7 : (upd H6 q4 (.lst [.ref q1, .ref q2, .str "ab", .non, .ref q3, .int 7])) q4 = some (.lst [.ref q1, .ref q2, .str "ab", .non, .ref q3, .int 7]) := upd_same
    generalize upd H6 q4 (.lst [.ref q1, .ref q2, .str "ab", .non, .ref q3, .int 7]) = H7 at t7 e7 ⊢
    have t37 : Same H3 H7 := t4.trans (t5.trans (t6.trans t7))
    have lw8 : ws.length = 8 := lw
    refine ⟨D, q4, _, _, rfl, rfl, t37 _ _ hD3, e7, by rw [sizeLine_eq]; simp; omega, fun q5 hq5 => ?_⟩
    have t8 := same_upd (o := .lst (ws ++ [.ref q1, .ref q2, .str "ab", .non, .ref q3, .int 7])) hq5
    have e8 : (upd H7 q5 (.lst (ws ++ [.ref q1, .ref q2, .str "ab", .non, .ref q3, .int 7]))) q5 = some (.lst (ws ++ [.ref q1, .ref q2, .str "ab", .non, .ref q3, .int 7])) := upd_same
    generalize upd H7 q5 (.lst (ws ++ [.ref q1, .ref q2, .str "ab", .non, .ref q3, .int 7])) = H8 at t8 e8 ⊢
    have sp3 : Same H H3 := s1.trans (sS.trans s3)
    refine k H8 q5 _ (sp4.trans (t5.trans (t6.trans (t7.trans t8)))) ((sp4.trans (t5.trans (t6.trans t7))).free hq5) e8 (by simp; omega) fun y hy => ?_
    rcases List.mem_append.mp hy with hy | hy
    · obtain ⟨j, hj, rfl⟩ := List.getElem_of_mem hy
      exact (r3 j _ (List.getElem?_eq_getElem hj)).mono (New.mono (.refl H) (hide_sub.trans (t37.trans t8)))
    simp only [List.mem_cons, List.not_mem_nil, or_false] at hy
    rcases hy with rfl | rfl | rfl | rfl | rfl | rfl
    · refine bn_lst (New.mk (sp3.free hq1) ((t5.trans (t6.trans (t7.trans t8))) _ _ e4)) (by simp) (fun y hy => ?_) (by decide)
      simp only [List.mem_cons, List.not_mem_nil, or_false] at hy
      rcases hy with rfl | rfl | rfl
      · exact .str _ (by decide)
      · exact .str _ (by decide)
      · exact .str _ (by decide)
    · have e := New.mk (sp4.free hq2) ((t6.trans (t7.trans t8)) _ _ e5)
      exact bn_of (.tup e) (lstOf_no e (fun _ z => by cases z))
    · exact bn_of (.str _ (by decide)) rfl
    · exact bn_of .non rfl
    · have e := New.mk ((sp4.trans t5).free hq3) ((t7.trans t8) _ _ e6)
      exact bn_of (.dK e) (lstOf_no e (fun _ z => by cases z))
    · exact bn_of (.int _) rfl
end KK

set_option Elab.async false
set_option linter.all false
set_option maxRecDepth 100000
set_option maxHeartbeats 1000000
namespace KK
open PySem PySem.Spec L2 L3
theorem six_rooms {G : Hp} {t1 : Addr} {xs : List V} {n : Int} (h : G t1 = some (.tup xs)) : ∀ w ∈ [V.int n, .int (-1), .bl true, .str "0", .non, .ref t1], Kd G w ∧ isRoomV n w = false := by
  intro w hw
  simp only [List.mem_cons, List.not_mem_nil, or_false] at hw
  rcases hw with rfl | rfl | rfl | rfl | rfl | rfl
  · exact ⟨.int _, by simp [isRoomV]⟩
  · exact ⟨.int _, by simp [isRoomV]⟩
  · exact ⟨.bl _, rfl⟩
  · exact ⟨.str _ (by decide), rfl⟩
  · exact ⟨.non, rfl⟩
  · exact ⟨.tup h, rfl⟩
theorem kd_ints {G : Hp} (ns : List Int) : ∀ y ∈ ns.map V.int, Kd G y := fun y hy => by
  obtain ⟨z, _, rfl⟩ := List.mem_map.mp hy
  exact .int z
theorem cut1 (xs : List V) (h : xs ≠ []) : cutV xs none (some 1) = xs.take 1 := by
  have hl := List.length_pos_iff.mpr h
  have := cutV_to xs 1 hl
  exact this
theorem dup1 {xs : List V} (h : xs ≠ []) : ¬ (xs ++ xs.take 1).Nodup := by
  cases xs with
  | nil => exact absurd rfl h
  | cons x r =>
    intro hn
    rw [List.nodup_append] at hn
    exact hn.2.2 x (.head _) x (by simp) rfl
def sp__law_bad_rooms (K : PySem.W.Frag) (a : Adr) : Sp := fun vs H Q _ => ∃ (p : Addr) (ns : List Int) (n : Int), vs = [.ref p, .int n] ∧ H p = some (.lst (ns.map V.int)) ∧ ns ≠ [] ∧ ns.length ≤ 20 ∧ ∀ H' l ys, Same H H' → H l = none → H' l = some (.lst ys) → ys.length = 13 → (∀ y ∈ ys, BR n (New H H') y) → Q (.ref l) H'
theorem ok__law_bad_rooms {P : Program} {w : World} {K : PySem.W.Frag} {mg : Str → Option Value} {base : Heap} {a : Adr} (T : Txt K mg a) : FnOk P w K mg base CX0 1 a._law_bad_rooms a._law_bad_rooms_fd ["_law_rooms", "_law_many"] (sp__law_bad_rooms K a) := by
  refine T.f__law_bad_rooms.ok sc__law_bad_rooms (fun vs H Q E h => ?_) (fun cdv A outer s H vs Q E hr h => ?_)
  · obtain ⟨p, ns, n, rfl, _⟩ := h
    rfl
  · obtain ⟨p, ns, n, rfl, hp, hne, hz, k⟩ := h
    refine ⟨_, (pss_cons (ps_set (i := 2) sc__law_bad_rooms.nd rfl (by first | exact Or.inl rfl | exact Or.inr rfl) (pe_lst (pa_c (pv 1) (pa_c (pe_un un_neg pe_int) (pa_c pe_bl (pa_c pe_str (pa_c pe_non (pa_c (pe_tup (pa_cons pe_int pa_nil)) pa_nil))))))))
     (pss_cons (ps_setComp (i := 3) sc__law_bad_rooms.nd rfl rfl (Nc := ["_law_one", "_law_rooms"]) (ix := [none, some 0]) (CompOk.of (by decide +kernel : compChk (defScope s__law_bad_rooms) ["_law_rooms", "_law_many", "_law_some_here", "_law_found"] ["_law_one", "_law_rooms"] [none, some 0] _ = true)) rfl (pi_listK (K := K) rfl (pv 2)) (fun _ _ _ _ _ => (pg_name (i := 0) (show List.Nodup (["_law_one", "_law_rooms"] : List Str) by decide +kernel) rfl (by first | exact Or.inl rfl | exact Or.inr rfl))) (fun _ _ _ _ _ => pts_nil) (fun _ _ _ _ _ => (pe_op op_cat (pv 1) (pe_lst (pa_cons (pv 0) pa_nil)))))
     (pss_one (ps_ret (pe_op op_cat (pv 3) (pe_lst (pa_c (pe_op op_cat (pv 0) (pe_slice (sl_listK (K := K) rfl) (pv 0) po_none (po_some pe_int))) (pa_c (pe_lst pa_nil) (pa_c (pe_callTy (call_tupleK (K := K) rfl) rfl T.b_tuple PyProof.Rows.Boot.«tuple» (pa_cons (pv 0) pa_nil)) (pa_c pe_str (pa_c pe_non (pa_c pe_d1I (pa_c pe_int pa_nil))))))))))))), ?_⟩
    have hne' : ns.map V.int ≠ [] := fun e => hne (List.map_eq_nil_iff.mp e)
    refine ⟨_, rfl, 1, rfl, by rw [sizeLine_eq]; simp, fun t1 h1 => ⟨by rw [sizeLine_eq]; simp, fun L hL => ?_⟩⟩
    have s1 := (same_upd (o := .tup [.int 0]) h1).trans (same_upd (o := .lst [V.int n, .int (-1), .bl true, .str "0", .non, .ref t1]) hL)
    have gt := (same_upd (o := .lst [V.int n, .int (-1), .bl true, .str "0", .non, .ref t1]) hL) t1 _ upd_same
    have gL : upd (upd H t1 (.tup [.int 0])) L (.lst [V.int n, .int (-1), .bl true, .str "0", .non, .ref t1]) L = some (.lst [V.int n, .int (-1), .bl true, .str "0", .non, .ref t1]) := upd_same
    generalize upd (upd H t1 (.tup [.int 0])) L (.lst [V.int n, .int (-1), .bl true, .str "0", .non, .ref t1]) = H2 at s1 gt gL ⊢
    refine ⟨_, rfl, L, rfl, ⟨_, SqL.of gL⟩, fun D hD => ?_⟩
    refine comp_mapH (K := K) hD (SqL.of gL) (by rw [sizeLine_eq]; simp) (fun i v G => BR n (New H G) v) (fun i v _ _ sm q => q.mono (New.mono (.refl H) sm)) ?_ ?_
    · intro i w H3 N hx sm fr hN
      have g3 := sm _ _ gt
      have nt : t1 ≠ D := ne_new gt hD
      refine ⟨_, rfl, _, rfl, by rw [sizeLine_eq]; simp, fun l hl => ?_⟩
      refine ⟨p, l, _, _, rfl, rfl, same_upd hl _ _ (sm _ _ (s1 _ _ hp)), upd_same, by rw [sizeLine_eq]; simp; omega, fun r hr => ?_⟩
      have s4 := (same_upd (o := .lst [w]) hl).trans (same_upd (o := .lst (ns.map V.int ++ [w])) hr)
      obtain ⟨kw, nw⟩ := six_rooms (G := New H (hide D (upd (upd H3 l (.lst [w])) r (.lst (ns.map V.int ++ [w]))))) (New.mk h1 (hide_mk nt (s4 _ _ g3))) w (List.mem_of_getElem? hx)
      refine hN _ _ s4 (br_lst (New.mk ((s1.trans sm).free ((same_upd (o := .lst [w]) hl).free hr)) (hide_mk (fr r ((same_upd (o := .lst [w]) hl).free hr)) upd_same)) (by simp; omega) (fun y hy => ?_) ?_)
      · rcases List.mem_append.mp hy with hy | hy
        · exact kd_ints ns y hy
        · cases List.mem_singleton.mp hy
          exact kw
      · rw [all_no (List.mem_append_right _ (.head _)) nw, Bool.false_and, Bool.false_and]
    intro H3 ws hD3 s3 lw r3
    have sp3 : Same H H3 := s1.trans s3
    -- the others
    refine ⟨_, rfl, _, rfl, _, rfl, _, rfl, p, _, rfl, SqL.of (sp3 _ _ hp), fun q0 hq0 => ?_⟩
    rw [cut1 _ hne']
    have t4 := same_upd (o := .lst ((ns.map V.int).take 1)) hq0
    have e4 : (upd H3 q0 (.lst ((ns.map V.int).take 1))) q0 = some (.lst ((ns.map V.int).take 1)) := upd_same
    generalize upd H3 q0 (.lst ((ns.map V.int).take 1)) = H4 at t4 e4 ⊢
    have sp4 := sp3.trans t4
    refine ⟨p, q0, _, _, rfl, rfl, sp4 _ _ hp, e4, by rw [sizeLine_eq, List.length_take]; simp; omega, fun q1 hq1 => ?_⟩
    have t5 := same_upd (o := .lst (ns.map V.int ++ (ns.map V.int).take 1)) hq1
    have e5 : (upd H4 q1 (.lst (ns.map V.int ++ (ns.map V.int).take 1))) q1 = some (.lst (ns.map V.int ++ (ns.map V.int).take 1)) := upd_same
    generalize upd H4 q1 (.lst (ns.map V.int ++ (ns.map V.int).take 1)) = H5 at t5 e5 ⊢
    refine ⟨by rw [sizeLine_eq]; simp, fun q2 hq2 => ?_⟩
    have t6 := same_upd (o := .lst []) hq2
    have e6 : (upd H5 q2 (.lst [])) q2 = some (.lst []) := upd_same
    generalize upd H5 q2 (.lst []) = H6 at t6 e6 ⊢
    have sp6 := sp4.trans (t5.trans t6)
    refine ⟨_, rfl, p, _, rfl, .inl ⟨SqL.of (sp6 _ _ hp), fun q3 hq3 => ?_⟩⟩
    have t7 := same_upd (o := .tup (ns.map V.int)) hq3
    have e7 : (upd H6 q3 (.tup (ns.map V.int))) q3 = some (.tup (ns.map V.int)) := upd_same
    generalize upd H6 q3 (.tup (ns.map V.int)) = H7 at t7 e7 ⊢
    intro q4 hq4
    have t8 := same_upd (o := .dK [(.inl 0, .int 1)]) hq4
    have e8 : (upd H7 q4 (.dK [(.inl 0, .int 1)])) q4 = some (.dK [(.inl 0, .int 1)]) := upd_same
    generalize upd H7 q4 (.dK [(.inl 0, .int 1)]) = H8 at t8 e8 ⊢
    refine ⟨by rw [sizeLine_eq]; simp, fun q5 hq5 => ?_⟩
    have t9 := same_upd (o := .lst [.ref q1, .ref q2, .ref q3, .str "0", .non, .ref q4, .int 0]) hq5
    have e9 : (upd H8 q5 (.lst [.ref q1, .ref q2, .ref q3, .str "0", .non, .ref q4, .int 0])) q5 = some (.lst [.ref q1, .ref q2, .ref q3, .str "0", .non, .ref q4, .int 0]) := upd_same
    generalize upd H8 q5 (.lst [.ref q1, .ref q2, .ref q3, .str "0", .non, .ref q4, .int 0]) = H9 at t9 e9 ⊢
    have t39 : Same H3 H9 := t4.trans (t5.trans (t6.trans (t7.trans (t8.trans t9))))
    have lw6 : ws.length = 6 := lw
    refine ⟨D, q5, _, _, rfl, rfl, t39 _ _ hD3, e9, by rw [sizeLine_eq]; simp; omega, fun q6 hq6 => ?_⟩
    have t10 := same_upd (o := .lst (ws ++ [.ref q1, .ref q2, .ref q3, .str "0", .non, .ref q4, .int 0])) hq6
    have e10 : (upd H9 q6 (.lst (ws ++ [.ref q1, .ref q2, .ref q3, .str "0", .non, .ref q4, .int 0]))) q6 = some (.lst (ws ++ [.ref q1, .ref q2, .ref q3, .str "0", .non, .ref q4, .int 0])) := upd_same
    generalize upd H9 q6 (.lst (ws ++ [.ref q1, .ref q2, .ref q3, .str "0", .non, .ref q4, .int 0])) = H10 at t10 e10 ⊢
    refine k H10 q6 _ (sp3.trans (t39.trans t10)) ((sp3.trans t39).free hq6) e10 (by simp; omega) fun y hy => ?_
    rcases List.mem_append.mp hy with hy | hy
    · obtain ⟨j, hj, rfl⟩ := List.getElem_of_mem hy
      exact (r3 j _ (List.getElem?_eq_getElem hj)).mono (New.mono (.refl H) (hide_sub.trans (t39.trans t10)))
    simp only [List.mem_cons, List.not_mem_nil, or_false] at hy
    have t610 : Same H6 H10 := t7.trans (t8.trans (t9.trans t10))
    rcases hy with rfl | rfl | rfl | rfl | rfl | rfl | rfl
    · refine br_lst (New.mk (sp4.free hq1) ((t6.trans t610) _ _ e5)) (by simp; omega) (fun y hy => ?_) (by rw [decide_eq_false (dup1 hne'), Bool.and_false])
      rcases List.mem_append.mp hy with hy | hy
      · exact kd_ints ns y hy
      · exact kd_ints ns y (List.mem_of_mem_take hy)
    · exact br_lst (New.mk ((sp4.trans t5).free hq2) (t610 _ _ e6)) (by simp) (fun y hy => by cases hy) rfl
    · have e := New.mk (sp6.free hq3) ((t8.trans (t9.trans t10)) _ _ e7)
      exact br_of (.tup e) (lstOf_no e (fun _ z => by cases z))
    · exact br_of (.str _ (by decide)) rfl
    · exact br_of .non rfl
    · have e := New.mk ((sp6.trans t7).free hq4) ((t9.trans t10) _ _ e8)
      exact br_of (.dK e) (lstOf_no e (fun _ z => by cases z))
    · exact br_of (.int _) rfl
end KK

set_option Elab.async false
set_option linter.all false
set_option maxRecDepth 100000
set_option maxHeartbeats 8000000
namespace KK
open PySem PySem.Spec L2 L3
theorem mod_nat (n : Int) {m : Nat} (h : 0 < m) : ∃ j : Nat, n % (m : Int) = (j : Nat) ∧ j < m := by
  have h0 := Int.emod_nonneg n (show (m : Int) ≠ 0 by omega)
  have h1 := Int.emod_lt_of_pos n (show (0 : Int) < (m : Int) by omega)
  obtain ⟨j, e⟩ := Int.eq_ofNat_of_zero_le h0
  exact ⟨j, e, by omega⟩
theorem ls_hid {p : Addr} {H : Hp} {v : V} {ss : List Str} (h : LS (hide p H) v ss) : ∃ c, v = .ref c ∧ c ≠ p ∧ H c = some (.lst (ss.map V.str)) := by
  obtain ⟨c, e, g⟩ := h
  obtain ⟨n, g⟩ := hide_some g
  exact ⟨c, e, n, g⟩
theorem li_hid {p : Addr} {H : Hp} {v : V} {ss : List Int} (h : LI (hide p H) v ss) : ∃ c, v = .ref c ∧ c ≠ p ∧ H c = some (.lst (ss.map V.int)) := by
  obtain ⟨c, e, g⟩ := h
  obtain ⟨n, g⟩ := hide_some g
  exact ⟨c, e, n, g⟩
theorem cut_init (xs : List V) (h : 0 < xs.length) : cutV xs none (some (-1)) = xs.take (xs.length - 1) := by
  unfold cutV
  have e1 : HT.sIx xs.length 0 none = 0 := rfl
  have e2 : HT.sIx xs.length xs.length (some (-1)) = xs.length - 1 := by unfold HT.sIx; simp; omega
  rw [e1, e2]
  simp
def Bad4 (H : Hp) (r : Addr) : Prop := ∃ x y z u, H r = some (.tup [x, y, z, u]) ∧ KdLL H x ∧ KdLL H y ∧ KdL H z ∧ KdL H u ∧ makesW H x y z u = false
def sp__law_spoilt (K : PySem.W.Frag) (a : Adr) : Sp := fun vs H Q _ => ∃ (p : Addr) (ns : List Int) (t : Addr) (v1 v2 v3 v4 : V) (d : WD), vs = [.ref p, .ref t] ∧ H p = some (.lst (ns.map V.int)) ∧ H t = some (.tup [v1, v2, v3, v4]) ∧ PartsV (hide p H) v1 v2 v3 v4 d ∧ Good d ∧ ∀ H' r (ns' : List Int), SameX p H H' → H' p = some (.lst (ns'.map V.int)) → Bad4 H' r → Q (.ref r) H'
theorem ok__law_spoilt {P : Program} {w : World} {K : PySem.W.Frag} {mg : Str → Option Value} {base : Heap} {a : Adr} (T : Txt K mg a) : FnOk P w K mg base CX0 2 a._law_spoilt a._law_spoilt_fd ["_law_xs", "_law_parts_here"] (sp__law_spoilt K a) := by
  have G__law_draw := ok__law_draw (P := P) (w := w) (base := base) T
  have G__law_put := ok__law_put (P := P) (w := w) (base := base) T
  have G__law_bad_names := ok__law_bad_names (P := P) (w := w) (base := base) T
  have G__law_bad_rooms := ok__law_bad_rooms (P := P) (w := w) (base := base) T
  refine T.f__law_spoilt.ok sc__law_spoilt (fun vs H Q E h => ?_) (fun cdv A outer s H vs Q E hr h => ?_)
  · obtain ⟨p, ns, t, v1, v2, v3, v4, d, rfl, _⟩ := h
    rfl
  · obtain ⟨p, ns, t, v1, v2, v3, v4, d, rfl, hp, ht, pz, gd, k⟩ := h
    refine ⟨_, (pss_cons (ps_asg (pv 1) (pg_tupK (K := K) (n := 4) rfl rfl (pgs_cons (pg_name (i := 2) sc__law_spoilt.nd rfl (by first | exact Or.inl rfl | exact Or.inr rfl)) (pgs_cons (pg_name (i := 3) sc__law_spoilt.nd rfl (by first | exact Or.inl rfl | exact Or.inr rfl)) (pgs_cons (pg_name (i := 4) sc__law_spoilt.nd rfl (by first | exact Or.inl rfl | exact Or.inr rfl)) (pgs_cons (pg_name (i := 5) sc__law_spoilt.nd rfl (by first | exact Or.inl rfl | exact Or.inr rfl)) pgs_nil))))))
     (pss_cons (ps_set (i := 6) sc__law_spoilt.nd rfl (by first | exact Or.inl rfl | exact Or.inr rfl) (pe_callB (call_lenK (K := K) rfl) rfl T.b_len PyProof.Rows.Boot.«len» (pa_cons (pv 2) pa_nil)))
     (pss_cons (ps_set (i := 7) sc__law_spoilt.nd rfl (by first | exact Or.inl rfl | exact Or.inr rfl) (pe_op op_mod (pe_call G__law_draw (hr.mono (by decide)) rfl T.g__law_draw T.f__law_draw.kp T.n__law_draw .nil pass0 (pa_cons (pv 0) pa_nil)) (pv 6)))
     (pss_cons (ps_set (i := 8) sc__law_spoilt.nd rfl (by first | exact Or.inl rfl | exact Or.inr rfl) (pe_op op_mod (pe_call G__law_draw (hr.mono (by decide)) rfl T.g__law_draw T.f__law_draw.kp T.n__law_draw .nil pass0 (pa_cons (pv 0) pa_nil)) pe_int))
     (pss_cons (ps_set (i := 9) sc__law_spoilt.nd rfl (by first | exact Or.inl rfl | exact Or.inr rfl) (pe_call G__law_bad_rooms (hr.mono (by decide)) rfl T.g__law_bad_rooms T.f__law_bad_rooms.kp T.n__law_bad_rooms .nil pass0 (pa_cons (pv 4) (pa_cons (pv 6) pa_nil))))
     (pss_cons (ps_set (i := 10) sc__law_spoilt.nd rfl (by first | exact Or.inl rfl | exact Or.inr rfl) (pe_ix (ix_listK (K := K) rfl) (pv 9) (pe_op op_mod (pe_call G__law_draw (hr.mono (by decide)) rfl T.g__law_draw T.f__law_draw.kp T.n__law_draw .nil pass0 (pa_cons (pv 0) pa_nil)) (pe_callB (call_lenK (K := K) rfl) rfl T.b_len PyProof.Rows.Boot.«len» (pa_cons (pv 9) pa_nil))) (fun _ _ => rfl)))
     (pss_cons (ps_if (pt_cmpR op_eq (pv 8) pe_int (nomark _)) (pss_cons (ps_set (i := 11) sc__law_spoilt.nd rfl (by first | exact Or.inl rfl | exact Or.inr rfl) (pe_call G__law_bad_names (hr.mono (by decide)) rfl T.g__law_bad_names T.f__law_bad_names.kp T.n__law_bad_names .nil pass0 (pa_cons (pe_comp (Nc := ["_law_name"]) (ix := [none]) (CompOk.of (by decide +kernel : compChk (defScope s__law_spoilt) ["_law_xs", "_law_parts_here", "_law_signs", "_law_ways", "_law_starts", "_law_fair", "_law_many", "_law_at", "_law_way", "_law_some_here", "_law_bad", "_law_names", "_law_rooms", "_law_lists"] ["_law_name"] [none] _ = true)) rfl (pi_listK (K := K) rfl (pe_ix (ix_listK (K := K) rfl) (pv 2) (pv 7) (fun _ _ => rfl))) (fun _ _ _ _ _ => (pg_name (i := 0) (show List.Nodup (["_law_name"] : List Str) by decide +kernel) rfl (by first | exact Or.inl rfl | exact Or.inr rfl))) (fun _ _ _ _ _ => (pts_one (pt_cmpR (op_notInK (K := K) rfl) (pv 0) (pe_lst (pa_cons pe_str (pa_cons pe_str pa_nil))) (by with_unfolding_all rfl)))) (fun _ _ _ _ _ => (pv 0))) pa_nil)))
     (pss_one (ps_ret (pe_tup (pa_c (pe_call G__law_put (hr.mono (by decide)) rfl T.g__law_put T.f__law_put.kp T.n__law_put .nil pass0 (pa_c (pv 2) (pa_c (pv 7) (pa_c (pe_ix (ix_listK (K := K) rfl) (pv 11) (pe_op op_mod (pe_call G__law_draw (hr.mono (by decide)) rfl T.g__law_draw T.f__law_draw.kp T.n__law_draw .nil pass0 (pa_cons (pv 0) pa_nil)) (pe_callB (call_lenK (K := K) rfl) rfl T.b_len PyProof.Rows.Boot.«len» (pa_cons (pv 11) pa_nil))) (fun _ _ => rfl)) pa_nil)))) (pa_c (pv 3) (pa_c (pv 4) (pa_c (pv 5) pa_nil)))))))) pss_nil)
     (pss_cons (ps_if (pt_cmpR op_eq (pv 8) pe_int (nomark _)) (pss_cons (ps_set (i := 12) sc__law_spoilt.nd rfl (by first | exact Or.inl rfl | exact Or.inr rfl) (pe_call G__law_bad_rooms (hr.mono (by decide)) rfl T.g__law_bad_rooms T.f__law_bad_rooms.kp T.n__law_bad_rooms .nil pass0 (pa_cons (pe_ix (ix_listK (K := K) rfl) (pv 3) (pv 7) (fun _ _ => rfl)) (pa_cons (pv 6) pa_nil))))
     (pss_one (ps_ret (pe_tup (pa_c (pv 2) (pa_c (pe_call G__law_put (hr.mono (by decide)) rfl T.g__law_put T.f__law_put.kp T.n__law_put .nil pass0 (pa_c (pv 3) (pa_c (pv 7) (pa_c (pe_ix (ix_listK (K := K) rfl) (pv 12) (pe_op op_mod (pe_call G__law_draw (hr.mono (by decide)) rfl T.g__law_draw T.f__law_draw.kp T.n__law_draw .nil pass0 (pa_cons (pv 0) pa_nil)) (pe_callB (call_lenK (K := K) rfl) rfl T.b_len PyProof.Rows.Boot.«len» (pa_cons (pv 12) pa_nil))) (fun _ _ => rfl)) pa_nil)))) (pa_c (pv 4) (pa_c (pv 5) pa_nil)))))))) pss_nil)
     (pss_cons (ps_if (pt_cmpR op_eq (pv 8) pe_int (nomark _)) (pss_one (ps_ret (pe_tup (pa_c (pv 2) (pa_c (pv 3) (pa_c (pv 10) (pa_c (pv 5) pa_nil))))))) pss_nil)
     (pss_cons (ps_if (pt_cmpR op_eq (pv 8) pe_int (nomark _)) (pss_cons (ps_set (i := 11) sc__law_spoilt.nd rfl (by first | exact Or.inl rfl | exact Or.inr rfl) (pe_op op_cat (pe_call G__law_bad_names (hr.mono (by decide)) rfl T.g__law_bad_names T.f__law_bad_names.kp T.n__law_bad_names .nil pass0 (pa_cons (pe_lst pa_nil) pa_nil)) (pe_lst (pa_cons (pe_lst (pa_c pe_str (pa_c pe_str (pa_c pe_str (pa_c pe_str pa_nil))))) pa_nil))))
     (pss_one (ps_ret (pe_tup (pa_c (pv 2) (pa_c (pv 3) (pa_c (pv 4) (pa_c (pe_ix (ix_listK (K := K) rfl) (pv 11) (pe_op op_mod (pe_call G__law_draw (hr.mono (by decide)) rfl T.g__law_draw T.f__law_draw.kp T.n__law_draw .nil pass0 (pa_cons (pv 0) pa_nil)) (pe_callB (call_lenK (K := K) rfl) rfl T.b_len PyProof.Rows.Boot.«len» (pa_cons (pv 11) pa_nil))) (fun _ _ => rfl)) pa_nil)))))))) pss_nil)
     (pss_cons (ps_if (pt_cmpR op_eq (pv 8) pe_int (nomark _)) (pss_cons (ps_set (i := 13) sc__law_spoilt.nd rfl (by first | exact Or.inl rfl | exact Or.inr rfl) (pe_lst (pa_c (pe_op op_cat (pv 2) (pe_lst (pa_cons (pe_lst pa_nil) pa_nil))) (pa_c (pe_slice (sl_listK (K := K) rfl) (pv 2) po_none (po_some (pe_un un_neg pe_int))) (pa_c (pe_callTy (call_tupleK (K := K) rfl) rfl T.b_tuple PyProof.Rows.Boot.«tuple» (pa_cons (pv 2) pa_nil)) (pa_c pe_non (pa_c (pe_lst pa_nil) pa_nil)))))))
     (pss_one (ps_ret (pe_tup (pa_c (pe_ix (ix_listK (K := K) rfl) (pv 13) (pe_op op_mod (pe_call G__law_draw (hr.mono (by decide)) rfl T.g__law_draw T.f__law_draw.kp T.n__law_draw .nil pass0 (pa_cons (pv 0) pa_nil)) pe_int) (fun _ _ => rfl)) (pa_c (pv 3) (pa_c (pv 4) (pa_c (pv 5) pa_nil)))))))) pss_nil)
     (pss_cons (ps_set (i := 13) sc__law_spoilt.nd rfl (by first | exact Or.inl rfl | exact Or.inr rfl) (pe_lst (pa_c (pe_op op_cat (pv 3) (pe_lst (pa_cons (pe_lst (pa_cons pe_int pa_nil)) pa_nil))) (pa_c (pe_slice (sl_listK (K := K) rfl) (pv 3) po_none (po_some (pe_un un_neg pe_int))) (pa_c (pe_callTy (call_tupleK (K := K) rfl) rfl T.b_tuple PyProof.Rows.Boot.«tuple» (pa_cons (pv 3) pa_nil)) (pa_c pe_non (pa_c pe_str pa_nil)))))))
     (pss_one (ps_ret (pe_tup (pa_c (pv 2) (pa_c (pe_ix (ix_listK (K := K) rfl) (pv 13) (pe_op op_mod (pe_call G__law_draw (hr.mono (by decide)) rfl T.g__law_draw T.f__law_draw.kp T.n__law_draw .nil pass0 (pa_cons (pv 0) pa_nil)) pe_int) (fun _ _ => rfl)) (pa_c (pv 4) (pa_c (pv 5) pa_nil))))))))))))))))))), ?_⟩
    refine ⟨_, rfl, t, _, rfl, SqT.of ht, rfl, _, _, rfl, _, _, rfl, _, _, rfl, _, _, rfl, rfl, ?_⟩
    have g1 := gd.n1
    have g20 := gd.n20
    have gwl := gd.wl
    obtain ⟨b1, y1, e1, gb1, l1, q1⟩ := id pz.s
    obtain ⟨b2, y2, e2, gb2, l2, q2⟩ := id pz.w
    obtain ⟨b3, e3, n3, gb3⟩ := li_hid pz.st
    obtain ⟨b4, e4, n4, gb4⟩ := ls_hid pz.f
    subst e1 e2 e3 e4
    obtain ⟨n1, gb1⟩ := hide_some gb1
    obtain ⟨n2, gb2⟩ := hide_some gb2
    have ym : 0 < y1.length := by omega
    -- many, at, way
    refine ⟨_, rfl, .inl ⟨b1, _, rfl, .inl (SqL.of gb1), ?_⟩⟩
    refine ⟨_, rfl, p, ns, rfl, hp, fun H1 m1 ns1 x1 h1 => ⟨_, rfl, _, _, rfl, rfl, by omega, ?_⟩⟩
    obtain ⟨j, ej, hj⟩ := mod_nat m1 ym
    refine ⟨_, rfl, p, ns1, rfl, h1, fun H2 m2 ns2 x2 h2 => ⟨_, _, rfl, rfl, by simp, ?_⟩⟩
    have x02 := x1.trans x2
    refine ⟨_, rfl, _, rfl, b3, d.starts, _, rfl, x02 _ _ n3 gb3, gd.stn.2.1, gd.stn.2.2.2, fun H3 S bs s3 S0 eS bl br => ?_⟩
    have nS : S ≠ p := fun e => by rw [e, h2] at S0; cases S0
    refine ⟨_, rfl, _, rfl, p, ns2, rfl, s3 _ _ h2, fun H4 m4 ns4 x4 h4 => ?_⟩
    have eS4 := x4 _ _ nS eS
    obtain ⟨p4, bv, hv, hvm⟩ := at_mod (ts := bs) m4 (fun e => by rw [e] at bl; cases bl)
    refine ⟨_, rfl, .inl ⟨S, bs, rfl, .inl (SqL.of eS4), _, _, rfl, rfl, p4, S, bs, _, bv, rfl, rfl, SqL.of eS4, hv, ?_⟩⟩
    have X4 : SameX p H H4 := x02.trans ((Same.x s3).trans x4)
    have bb : BR (y1.length : Nat) (hide p H4) bv := ((br bv hvm).mono (New.hidden h2)).mono x4.hide
    have pz4 := pz.mono X4.hide
    clear eS4 eS S0 nS hv hvm p4 br bl s3 x4 x02 x2 h1 h2 x1
    show tSeq _ _ _ [some (.ref p), some (.ref t), some (.ref b1), some (.ref b2), some (.ref b3), some (.ref b4), some (.int (y1.length : Nat)), some (.int (m1 % ((y1.length : Nat) : Int))), some (.int (m2 % 6)), some (.ref S), some bv, none, none, none] H4
    have tl4 : ∀ (q : Addr) (o : HO), H4 q = none → (upd H4 q o) p = some (.lst (ns4.map V.int)) := fun q o e => updK h4 (ne_new h4 e)
    have hj1 : j < d.signs.length := by omega
    have hj2 : j < d.ways.length := by omega
    have hj3 : j < y2.length := by omega
    -- a room's signs
    refine ⟨_, rfl, rfl, _, rfl, ite2 (fun c0 => ?c0) (fun c0 => ?_)⟩
    case c0 =>
      obtain ⟨c, ec, nc, gc⟩ := ls_hid (LS.mono _ _ _ _ X4.hide (q1 j _ _ (List.getElem?_eq_getElem hj) (List.getElem?_eq_getElem hj1)))
      have hs := gd.sn _ (List.getElem_mem hj1)
      have aj : atI y1 (m1 % (y1.length : Int)) = some (.ref c) := by rw [ej]; exact atI_nat (by rw [List.getElem?_eq_getElem hj, ec])
      refine ⟨_, rfl, _, rfl, b1, y1, _, _, rfl, rfl, SqL.of (X4 _ _ n1 gb1), aj, c, rfl, ⟨_, SqL.of gc⟩, fun D hD => ?_⟩
      refine comp_gen (n := d.signs[j].length) (fun i σ H' => ∃ (z : Option V) (zs : List Str), σ = [z] ∧ Same H4 H' ∧ H' D = some (.lst (zs.map V.str)) ∧ zs.Sublist ((d.signs[j]).take i)) ?_ ?_ ?_ ?_ ?_
      · exact ⟨_, [], rfl, same_upd hD, upd_same, by simp⟩
      · rintro i σ H' hi ⟨z, zs, rfl, sm, hl, sb⟩
        exact ⟨_, _, SqL.of (sm _ _ gc), by rw [List.getElem?_map, List.getElem?_eq_getElem hi]; rfl⟩
      · rintro σ H' ⟨z, zs, rfl, sm, hl, sb⟩
        exact ⟨_, SqL.of (sm _ _ gc), by rw [List.length_map]; exact Nat.le_refl _⟩
      · rintro i x σ H' H2 hi ⟨z, zs, rfl, sm, hl, sb⟩ ⟨rfl, hx⟩ N N0 hN hN0
        have e := hx _ (SqL.of (sm _ _ gc))
        rw [List.getElem?_map, List.getElem?_eq_getElem hi] at e
        have e' : x = .str (d.signs[j])[i] := (Option.some.inj e).symm
        subst e'
        refine ⟨_, rfl, by rw [sizeLine_eq]; simp, fun q hq => ?_⟩
        have s5 := same_upd (o := .lst [.str "a", .str "b"]) hq
        refine ⟨q, _, rfl, .inl (SqL.of upd_same), rfl, rfl, _, rfl, ite2 (fun c => ?_) (fun c => ?_)⟩
        · refine ⟨_, rfl, hN _ _ _ _ (s5 _ _ hl) ?_ ⟨_, zs ++ [(d.signs[j])[i]], rfl, (SameX.upd (Same.x (sm.trans s5))).same hD, by rw [upd_same, List.map_append]; rfl, take_push sb (List.getElem?_eq_getElem hi)⟩⟩
          have := sb.length_le
          rw [List.length_take] at this
          rw [List.length_map, sizeLine_eq]; omega
        · exact hN0 _ _ ⟨_, zs, rfl, sm.trans s5, s5 _ _ hl, take_keep sb⟩
      rintro σ H5 ⟨z, zs, rfl, s5, hl, sb⟩
      rw [List.take_length] at sb
      refine ⟨D, zs, rfl, hl, fun x hx => hs.2.1 x (sb.subset hx), by have := sb.length_le; omega, fun H6 N6 ys s6 N60 eN yl bn => ?_⟩
      have h5 := s5 _ _ h4
      have nN : N6 ≠ p := fun e => by rw [e, h5] at N60; cases N60
      refine ⟨_, rfl, _, rfl, _, rfl, _, rfl, p, ns4, rfl, s6 _ _ h5, fun H7 m7 ns7 x7 h7 => ?_⟩
      have eN7 := x7 _ _ nN eN
      obtain ⟨p7, v, hv, hvm⟩ := at_mod (ts := ys) m7 (fun e => by rw [e] at yl; cases yl)
      have X7 : SameX p H H7 := X4.trans ((Same.x (s5.trans s6)).trans x7)
      refine ⟨_, rfl, .inl ⟨N6, ys, rfl, .inl (SqL.of eN7), _, _, rfl, rfl, p7, N6, ys, _, v, rfl, rfl, SqL.of eN7, hv, ?_⟩⟩
      refine ⟨b1, y1, j, v, congrArg (fun z => [V.ref b1, V.int z, v]) ej, X7 _ _ n1 gb1, hj, by omega, fun H8 l s8 el => ?_⟩
      refine ⟨_, rfl, _, rfl, _, rfl, by rw [sizeLine_eq]; simp, fun r hr => ?_⟩
      have s9 := same_upd (o := .tup [.ref l, .ref b2, .ref b3, .ref b4]) hr
      have e9 : (upd H8 r (.tup [.ref l, .ref b2, .ref b3, .ref b4])) r = some (.tup [.ref l, .ref b2, .ref b3, .ref b4]) := upd_same
      generalize upd H8 r (.tup [.ref l, .ref b2, .ref b3, .ref b4]) = H9 at s9 e9 ⊢
      have X9 : SameX p H7 H9 := Same.x (s8.trans s9)
      have bv9 : BN H9 v := (((bn v hvm).mono (New.hidden h5)).mono (x7.trans X9).hide).mono hide_sub
      obtain ⟨k1, k2, k3, k4⟩ := ((pz.mono (X7.trans X9).hide).mono hide_sub).kd gd
      have el9 := s9 _ _ el
      have kk := (k1.2 y1 (lstOf_ref ((X7.trans X9) _ _ n1 gb1))).2
      refine k H9 r ns7 (X7.trans X9) ((s8.trans s9) _ _ h7) ⟨_, _, _, _, e9, .of_lst el9 ?_ (fun y hy => ?_), k2, k3, k4, makesW_no (.inl ⟨_, v, lstOf_ref el9, by simp, bv9.2⟩)⟩
      · simp [List.length_take, List.length_drop]; omega
      · rcases List.mem_append.mp hy with hy | hy
        · rcases List.mem_append.mp hy with hy | hy
          · exact kk y (List.mem_of_mem_take hy)
          · cases List.mem_singleton.mp hy
            exact bv9.1
        · exact kk y (List.mem_of_mem_drop hy)
    -- a room's ways
    refine ⟨_, rfl, rfl, _, rfl, ite2 (fun c1 => ?c1) (fun c1 => ?_)⟩
    case c1 =>
      obtain ⟨c, ec, nc, gc⟩ := li_hid (LI.mono _ _ _ _ X4.hide (q2 j _ _ (List.getElem?_eq_getElem hj3) (List.getElem?_eq_getElem hj2)))
      have hs := gd.wn _ (List.getElem_mem hj2)
      have aj : atI y2 (m1 % (y1.length : Int)) = some (.ref c) := by rw [ej]; exact atI_nat (by rw [List.getElem?_eq_getElem hj3, ec])
      refine ⟨_, rfl, _, rfl, b2, y2, _, _, rfl, rfl, SqL.of (X4 _ _ n2 gb2), aj, _, rfl, c, d.ways[j], _, rfl, gc, hs.2.1, hs.2.2.2, fun H6 N6 ys s6 N60 eN yl br => ?_⟩
      have nN : N6 ≠ p := fun e => by rw [e, h4] at N60; cases N60
      refine ⟨_, rfl, _, rfl, _, rfl, _, rfl, _, rfl, p, ns4, rfl, s6 _ _ h4, fun H7 m7 ns7 x7 h7 => ?_⟩
      have eN7 := x7 _ _ nN eN
      obtain ⟨p7, v, hv, hvm⟩ := at_mod (ts := ys) m7 (fun e => by rw [e] at yl; cases yl)
      have X7 : SameX p H H7 := X4.trans ((Same.x s6).trans x7)
      refine ⟨_, rfl, .inl ⟨N6, ys, rfl, .inl (SqL.of eN7), _, _, rfl, rfl, p7, N6, ys, _, v, rfl, rfl, SqL.of eN7, hv, ?_⟩⟩
      refine ⟨b2, y2, j, v, congrArg (fun z => [V.ref b2, V.int z, v]) ej, X7 _ _ n2 gb2, hj3, by omega, fun H8 l s8 el => ?_⟩
      refine ⟨_, rfl, _, rfl, by rw [sizeLine_eq]; simp, fun r hr => ?_⟩
      have s9 := same_upd (o := .tup [.ref b1, .ref l, .ref b3, .ref b4]) hr
      have e9 : (upd H8 r (.tup [.ref b1, .ref l, .ref b3, .ref b4])) r = some (.tup [.ref b1, .ref l, .ref b3, .ref b4]) := upd_same
      generalize upd H8 r (.tup [.ref b1, .ref l, .ref b3, .ref b4]) = H9 at s9 e9 ⊢
      have X9 : SameX p H7 H9 := Same.x (s8.trans s9)
      have bv9 : BR (y1.length : Nat) H9 v := (((br v hvm).mono (New.hidden h4)).mono (x7.trans X9).hide).mono hide_sub
      obtain ⟨k1, k2, k3, k4⟩ := ((pz.mono (X7.trans X9).hide).mono hide_sub).kd gd
      have el9 := s9 _ _ el
      have kk := (k2.2 y2 (lstOf_ref ((X7.trans X9) _ _ n2 gb2))).2
      refine k H9 r ns7 (X7.trans X9) ((s8.trans s9) _ _ h7) ⟨_, _, _, _, e9, k1, .of_lst el9 ?_ (fun y hy => ?_), k3, k4, makesW_no (.inr (.inl ⟨y1, _, v, lstOf_ref ((X7.trans X9) _ _ n1 gb1), lstOf_ref el9, by simp, bv9.2⟩))⟩
      · simp [List.length_take, List.length_drop]; omega
      · rcases List.mem_append.mp hy with hy | hy
        · rcases List.mem_append.mp hy with hy | hy
          · exact kk y (List.mem_of_mem_take hy)
          · cases List.mem_singleton.mp hy
            exact bv9.1
        · exact kk y (List.mem_of_mem_drop hy)
    -- the starts
    refine ⟨_, rfl, rfl, _, rfl, ite2 (fun c2 => ?c2) (fun c2 => ?_)⟩
    case c2 =>
      refine ⟨_, rfl, _, rfl, _, rfl, _, rfl, by rw [sizeLine_eq]; simp, fun r hr => ?_⟩
      have s9 := same_upd (o := .tup [.ref b1, .ref b2, bv, .ref b4]) hr
      have e9 : (upd H4 r (.tup [.ref b1, .ref b2, bv, .ref b4])) r = some (.tup [.ref b1, .ref b2, bv, .ref b4]) := upd_same
      generalize upd H4 r (.tup [.ref b1, .ref b2, bv, .ref b4]) = H9 at s9 e9 ⊢
      have X9 : SameX p H H9 := X4.trans (Same.x s9)
      have bv9 : BR (y1.length : Nat) H9 bv := (bb.mono (Same.x (D := p) s9).hide).mono hide_sub
      obtain ⟨k1, k2, k3, k4⟩ := ((pz.mono X9.hide).mono hide_sub).kd gd
      exact k H9 r ns4 X9 (s9 _ _ h4) ⟨_, _, _, _, e9, k1, k2, bv9.1, k4, makesW_no (.inr (.inr (.inl ⟨y1, lstOf_ref (X9 _ _ n1 gb1), bv9.2⟩)))⟩
    -- the fair signs
    refine ⟨_, rfl, rfl, _, rfl, ite2 (fun c3 => ?c3) (fun c3 => ?_)⟩
    case c3 =>
      refine ⟨by rw [sizeLine_eq]; simp, fun q hq => ?_⟩
      have s5 := same_upd (o := .lst []) hq
      have e5 : (upd H4 q (.lst [])) q = some (.lst (([] : List Str).map V.str)) := by rw [upd_same]; rfl
      generalize upd H4 q (.lst []) = H5 at s5 e5 ⊢
      have h5 := s5 _ _ h4
      refine ⟨q, [], rfl, e5, (fun x hx => by cases hx), by simp, fun H6 N6 ys s6 N60 eN yl bn => ?_⟩
      refine ⟨by rw [sizeLine_eq]; simp, fun c hc => ?_⟩
      have s7 := same_upd (o := .lst [.str "a", .str "b", .str "c", .str "d"]) hc
      have e7 : (upd H6 c (.lst [.str "a", .str "b", .str "c", .str "d"])) c = some (.lst [.str "a", .str "b", .str "c", .str "d"]) := upd_same
      generalize upd H6 c (.lst [.str "a", .str "b", .str "c", .str "d"]) = H7 at s7 e7 ⊢
      refine ⟨by rw [sizeLine_eq]; simp, fun e he => ?_⟩
      have s8 := same_upd (o := .lst [.ref c]) he
      have e8 : (upd H7 e (.lst [.ref c])) e = some (.lst [.ref c]) := upd_same
      generalize upd H7 e (.lst [.ref c]) = H8 at s8 e8 ⊢
      refine ⟨N6, e, _, _, rfl, rfl, (s7.trans s8) _ _ eN, e8, by rw [sizeLine_eq]; simp; omega, fun f hf => ?_⟩
      have s9 := same_upd (o := .lst (ys ++ [.ref c])) hf
      have e9 : (upd H8 f (.lst (ys ++ [.ref c]))) f = some (.lst (ys ++ [.ref c])) := upd_same
      generalize upd H8 f (.lst (ys ++ [.ref c])) = H9 at s9 e9 ⊢
      have s69 : Same H6 H9 := s7.trans (s8.trans s9)
      have h6 := s6 _ _ h5
      have h9 := s69 _ _ h6
      have nf : f ≠ p := fun z => by rw [z, (s7.trans s8) _ _ h6] at hf; cases hf
      have nc : c ≠ p := fun z => by rw [z, h6] at hc; cases hc
      refine ⟨_, rfl, _, rfl, _, rfl, _, rfl, _, rfl, p, ns4, rfl, h9, fun H10 m7 ns7 x7 h7 => ?_⟩
      have eN7 := x7 _ _ nf e9
      obtain ⟨p7, v, hv, hvm⟩ := at_mod (ts := ys ++ [.ref c]) m7 (by simp)
      have X4' : SameX p H4 H10 := (Same.x (s5.trans (s6.trans s69))).trans x7
      have X7 : SameX p H H10 := X4.trans X4'
      refine ⟨_, rfl, .inl ⟨f, _, rfl, .inl (SqL.of eN7), _, _, rfl, rfl, p7, f, _, _, v, rfl, rfl, SqL.of eN7, hv, by rw [sizeLine_eq]; simp, fun r hr => ?_⟩⟩
      have s11 := same_upd (o := .tup [.ref b1, .ref b2, .ref b3, v]) hr
      have e11 : (upd H10 r (.tup [.ref b1, .ref b2, .ref b3, v])) r = some (.tup [.ref b1, .ref b2, .ref b3, v]) := upd_same
      generalize upd H10 r (.tup [.ref b1, .ref b2, .ref b3, v]) = H11 at s11 e11 ⊢
      have X11 : SameX p H10 H11 := Same.x s11
      obtain ⟨k1, k2, k3, k4⟩ := ((pz.mono (X7.trans X11).hide).mono hide_sub).kd gd
      have fin : KdL H11 v ∧ (areNames H11 v = false ∨ few3 (lstOf H11 v) = false) := by
        rcases List.mem_append.mp hvm with hm | hm
        · have bv : BN H11 v := (((bn v hm).mono (New.hidden h5)).mono (((Same.x (D := p) s69).trans x7).trans X11).hide).mono hide_sub
          exact ⟨bv.1, .inl bv.2⟩
        · cases List.mem_singleton.mp hm
          have ec := s11 _ _ (x7 _ _ nc ((s8.trans s9) _ _ e7))
          refine ⟨kdl_lst ec (by simp) (fun y hy => ?_), .inr (by rw [lstOf_ref ec]; rfl)⟩
          simp only [List.mem_cons, List.not_mem_nil, or_false] at hy
          rcases hy with rfl | rfl | rfl | rfl
          · exact .str _ (by decide)
          · exact .str _ (by decide)
          · exact .str _ (by decide)
          · exact .str _ (by decide)
      refine k H11 r ns7 (X7.trans X11) (s11 _ _ h7) ⟨_, _, _, _, e11, k1, k2, k3, fin.1, makesW_no (.inr (.inr (.inr ?_)))⟩
      rcases fin.2 with b | b
      · exact .inl b
      · exact .inr (.inl b)
    -- too many, too few
    refine ⟨_, rfl, rfl, _, rfl, ite2 (fun c4 => ?c4) (fun c4 => ?_)⟩
    case c4 =>
      have B4 := X4 _ _ n1 gb1
      refine ⟨_, rfl, by rw [sizeLine_eq]; simp, fun a1 ha1 => ?_⟩
      have s5 := same_upd (o := .lst []) ha1
      have e5 : (upd H4 a1 (.lst [])) a1 = some (.lst []) := upd_same
      generalize upd H4 a1 (.lst []) = H5 at s5 e5 ⊢
      refine ⟨by rw [sizeLine_eq]; simp, fun a2 ha2 => ?_⟩
      have s6 := same_upd (o := .lst [.ref a1]) ha2
      have e6 : (upd H5 a2 (.lst [.ref a1])) a2 = some (.lst [.ref a1]) := upd_same
      generalize upd H5 a2 (.lst [.ref a1]) = H6 at s6 e6 ⊢
      refine ⟨b1, a2, _, _, rfl, rfl, (s5.trans s6) _ _ B4, e6, by rw [sizeLine_eq]; simp; omega, fun a3 ha3 => ?_⟩
      have s7 := same_upd (o := .lst (y1 ++ [.ref a1])) ha3
      have e7 : (upd H6 a3 (.lst (y1 ++ [.ref a1]))) a3 = some (.lst (y1 ++ [.ref a1])) := upd_same
      generalize upd H6 a3 (.lst (y1 ++ [.ref a1])) = H7 at s7 e7 ⊢
      have s47 : Same H4 H7 := s5.trans (s6.trans s7)
      refine ⟨_, rfl, 1, rfl, _, rfl, b1, y1, rfl, SqL.of (s47 _ _ B4), fun a4 ha4 => ?_⟩
      rw [cut_init y1 ym]
      have s8 := same_upd (o := .lst (y1.take (y1.length - 1))) ha4
      have e8 : (upd H7 a4 (.lst (y1.take (y1.length - 1)))) a4 = some (.lst (y1.take (y1.length - 1))) := upd_same
      generalize upd H7 a4 (.lst (y1.take (y1.length - 1))) = H8 at s8 e8 ⊢
      refine ⟨_, rfl, b1, _, rfl, .inl ⟨SqL.of ((s47.trans s8) _ _ B4), fun a5 ha5 => ?_⟩⟩
      have s9 := same_upd (o := .tup y1) ha5
      have e9 : (upd H8 a5 (.tup y1)) a5 = some (.tup y1) := upd_same
      generalize upd H8 a5 (.tup y1) = H9 at s9 e9 ⊢
      refine ⟨by rw [sizeLine_eq]; simp, fun a6 ha6 => ?_⟩
      have s10 := same_upd (o := .lst []) ha6
      have e10 : (upd H9 a6 (.lst [])) a6 = some (.lst []) := upd_same
      generalize upd H9 a6 (.lst []) = H10 at s10 e10 ⊢
      refine ⟨by rw [sizeLine_eq]; simp, fun a7 ha7 => ?_⟩
      have s11 := same_upd (o := .lst [.ref a3, .ref a4, .ref a5, .non, .ref a6]) ha7
      have e11 : (upd H10 a7 (.lst [.ref a3, .ref a4, .ref a5, .non, .ref a6])) a7 = some (.lst [.ref a3, .ref a4, .ref a5, .non, .ref a6]) := upd_same
      generalize upd H10 a7 (.lst [.ref a3, .ref a4, .ref a5, .non, .ref a6]) = H11 at s11 e11 ⊢
      have s811 : Same H8 H11 := s9.trans (s10.trans s11)
      have s411 : Same H4 H11 := s47.trans (s8.trans s811)
      have h11 := s411 _ _ h4
      have na : ∀ {b : Addr} {G : Hp}, Same H4 G → G b = none → b ≠ p := fun {b G} sg e z => by rw [z, sg _ _ h4] at e; cases e
      refine ⟨_, rfl, _, rfl, p, ns4, rfl, h11, fun H12 m7 ns7 x7 h7 => ?_⟩
      have n7 : a7 ≠ p := na (s47.trans (s8.trans (s9.trans s10))) ha7
      obtain ⟨p7, v, hv, hvm⟩ := at_mod (ts := [.ref a3, .ref a4, .ref a5, .non, .ref a6]) m7 (by simp)
      refine ⟨_, _, rfl, rfl, by simp, a7, _, _, v, rfl, rfl, SqL.of (x7 _ _ n7 e11), hv, ?_⟩
      refine ⟨_, rfl, _, rfl, _, rfl, by rw [sizeLine_eq]; simp, fun r hr => ?_⟩
      have s13 := same_upd (o := .tup [v, .ref b2, .ref b3, .ref b4]) hr
      have e13 : (upd H12 r (.tup [v, .ref b2, .ref b3, .ref b4])) r = some (.tup [v, .ref b2, .ref b3, .ref b4]) := upd_same
      generalize upd H12 r (.tup [v, .ref b2, .ref b3, .ref b4]) = H13 at s13 e13 ⊢
      have X13 : SameX p H4 H13 := ((Same.x s411).trans x7).trans (Same.x s13)
      have Z13 : ∀ {b : Addr} {o : HO} {G : Hp}, Same G H11 → b ≠ p → G b = some o → H13 b = some o := fun {b o G} sg n e => s13 _ _ (x7 _ _ n (sg _ _ e))
      obtain ⟨k1, k2, k3, k4⟩ := ((pz.mono (X4.trans X13).hide).mono hide_sub).kd gd
      have kk := (k1.2 y1 (lstOf_ref ((X4.trans X13) _ _ n1 gb1))).2
      have ly := lstOf_ref ((X4.trans X13) _ _ n2 gb2)
      refine k H13 r ns7 (X4.trans X13) (s13 _ _ h7) ⟨_, _, _, _, e13, ?_, k2, k3, k4, makesW_no (.inr (.inr (.inr (.inr (.inr ?_)))))⟩
      · simp only [List.mem_cons, List.not_mem_nil, or_false] at hvm
        rcases hvm with rfl | rfl | rfl | rfl | rfl
        · refine .of_lst (Z13 (s8.trans s811) (na (s5.trans s6) ha3) e7) (by simp; omega) (fun y hy => ?_)
          rcases List.mem_append.mp hy with hy | hy
          · exact kk y hy
          · cases List.mem_singleton.mp hy
            exact kdl_lst (Z13 (s6.trans (s7.trans (s8.trans s811))) (na (.refl _) ha1) e5) (by simp) (fun y hy => by cases hy)
        · exact .of_lst (Z13 s811 (na s47 ha4) e8) (by rw [List.length_take]; omega) (fun y hy => kk y (List.mem_of_mem_take hy))
        · have e := Z13 (s10.trans s11) (na (s47.trans s8) ha5) e9
          exact kdll_of (.tup e) (lstOf_no e (fun _ z => by cases z))
        · exact kdll_of .non rfl
        · exact .of_lst (Z13 s11 (na (s47.trans (s8.trans s9)) ha6) e10) (by simp) (fun y hy => by cases hy)
      · simp only [List.mem_cons, List.not_mem_nil, or_false] at hvm
        rcases hvm with rfl | rfl | rfl | rfl | rfl
        · exact .inr (.inr ⟨_, _, lstOf_ref (Z13 (s8.trans s811) (na (s5.trans s6) ha3) e7), ly, .inl (by simp; omega)⟩)
        · exact .inr (.inr ⟨_, _, lstOf_ref (Z13 s811 (na s47 ha4) e8), ly, .inl (by rw [List.length_take]; omega)⟩)
        · have e := Z13 (s10.trans s11) (na (s47.trans s8) ha5) e9
          exact .inl (lstOf_no e (fun _ z => by cases z))
        · exact .inl rfl
        · exact .inr (.inr ⟨_, _, lstOf_ref (Z13 s11 (na (s47.trans (s8.trans s9)) ha6) e10), ly, .inr (.inl rfl)⟩)
    -- the ways
    have B4 := X4 _ _ n2 gb2
    have ym2 : 0 < y2.length := by omega
    refine ⟨_, rfl, by rw [sizeLine_eq]; simp, fun a1 ha1 => ?_⟩
    have s5 := same_upd (o := .lst [.int 0]) ha1
    have e5 : (upd H4 a1 (.lst [.int 0])) a1 = some (.lst [.int 0]) := upd_same
    generalize upd H4 a1 (.lst [.int 0]) = H5 at s5 e5 ⊢
    refine ⟨by rw [sizeLine_eq]; simp, fun a2 ha2 => ?_⟩
    have s6 := same_upd (o := .lst [.ref a1]) ha2
    have e6 : (upd H5 a2 (.lst [.ref a1])) a2 = some (.lst [.ref a1]) := upd_same
    generalize upd H5 a2 (.lst [.ref a1]) = H6 at s6 e6 ⊢
    refine ⟨b2, a2, _, _, rfl, rfl, (s5.trans s6) _ _ B4, e6, by rw [sizeLine_eq]; simp; omega, fun a3 ha3 => ?_⟩
    have s7 := same_upd (o := .lst (y2 ++ [.ref a1])) ha3
    have e7 : (upd H6 a3 (.lst (y2 ++ [.ref a1]))) a3 = some (.lst (y2 ++ [.ref a1])) := upd_same
    generalize upd H6 a3 (.lst (y2 ++ [.ref a1])) = H7 at s7 e7 ⊢
    have s47 : Same H4 H7 := s5.trans (s6.trans s7)
    refine ⟨_, rfl, 1, rfl, _, rfl, b2, y2, rfl, SqL.of (s47 _ _ B4), fun a4 ha4 => ?_⟩
    rw [cut_init y2 ym2]
    have s8 := same_upd (o := .lst (y2.take (y2.length - 1))) ha4
    have e8 : (upd H7 a4 (.lst (y2.take (y2.length - 1)))) a4 = some (.lst (y2.take (y2.length - 1))) := upd_same
    generalize upd H7 a4 (.lst (y2.take (y2.length - 1))) = H8 at s8 e8 ⊢
    refine ⟨_, rfl, b2, _, rfl, .inl ⟨SqL.of ((s47.trans s8) _ _ B4), fun a5 ha5 => ?_⟩⟩
    have s9 := same_upd (o := .tup y2) ha5
    have e9 : (upd H8 a5 (.tup y2)) a5 = some (.tup y2) := upd_same
    generalize upd H8 a5 (.tup y2) = H9 at s9 e9 ⊢
    refine ⟨by rw [sizeLine_eq]; simp, fun a7 ha7 => ?_⟩
    have s11 := same_upd (o := .lst [.ref a3, .ref a4, .ref a5, .non, .str "0"]) ha7
    have e11 : (upd H9 a7 (.lst [.ref a3, .ref a4, .ref a5, .non, .str "0"])) a7 = some (.lst [.ref a3, .ref a4, .ref a5, .non, .str "0"]) := upd_same
    generalize upd H9 a7 (.lst [.ref a3, .ref a4, .ref a5, .non, .str "0"]) = H11 at s11 e11 ⊢
    have s811 : Same H8 H11 := s9.trans s11
    have s411 : Same H4 H11 := s47.trans (s8.trans s811)
    have h11 := s411 _ _ h4
    have na : ∀ {b : Addr} {G : Hp}, Same H4 G → G b = none → b ≠ p := fun {b G} sg e z => by rw [z, sg _ _ h4] at e; cases e
    refine ⟨_, rfl, _, rfl, _, rfl, p, ns4, rfl, h11, fun H12 m7 ns7 x7 h7 => ?_⟩
    have n7 : a7 ≠ p := na (s47.trans (s8.trans s9)) ha7
    obtain ⟨p7, v, hv, hvm⟩ := at_mod (ts := [.ref a3, .ref a4, .ref a5, .non, .str "0"]) m7 (by simp)
    refine ⟨_, _, rfl, rfl, by simp, a7, _, _, v, rfl, rfl, SqL.of (x7 _ _ n7 e11), hv, ?_⟩
    refine ⟨_, rfl, _, rfl, by rw [sizeLine_eq]; simp, fun r hr => ?_⟩
    have s13 := same_upd (o := .tup [.ref b1, v, .ref b3, .ref b4]) hr
    have e13 : (upd H12 r (.tup [.ref b1, v, .ref b3, .ref b4])) r = some (.tup [.ref b1, v, .ref b3, .ref b4]) := upd_same
    generalize upd H12 r (.tup [.ref b1, v, .ref b3, .ref b4]) = H13 at s13 e13 ⊢
    have X13 : SameX p H4 H13 := ((Same.x s411).trans x7).trans (Same.x s13)
    have Z13 : ∀ {b : Addr} {o : HO} {G : Hp}, Same G H11 → b ≠ p → G b = some o → H13 b = some o := fun {b o G} sg n e => s13 _ _ (x7 _ _ n (sg _ _ e))
    obtain ⟨k1, k2, k3, k4⟩ := ((pz.mono (X4.trans X13).hide).mono hide_sub).kd gd
    have kk := (k2.2 y2 (lstOf_ref ((X4.trans X13) _ _ n2 gb2))).2
    have ly := lstOf_ref ((X4.trans X13) _ _ n1 gb1)
    refine k H13 r ns7 (X4.trans X13) (s13 _ _ h7) ⟨_, _, _, _, e13, k1, ?_, k3, k4, makesW_no (.inr (.inr (.inr (.inr (.inr ?_)))))⟩
    · simp only [List.mem_cons, List.not_mem_nil, or_false] at hvm
      rcases hvm with rfl | rfl | rfl | rfl | rfl
      · refine .of_lst (Z13 (s8.trans s811) (na (s5.trans s6) ha3) e7) (by simp; omega) (fun y hy => ?_)
        rcases List.mem_append.mp hy with hy | hy
        · exact kk y hy
        · cases List.mem_singleton.mp hy
          exact kdl_lst (Z13 (s6.trans (s7.trans (s8.trans s811))) (na (.refl _) ha1) e5) (by simp) (fun y hy => by cases List.mem_singleton.mp hy; exact .int _)
      · exact .of_lst (Z13 s811 (na s47 ha4) e8) (by rw [List.length_take]; omega) (fun y hy => kk y (List.mem_of_mem_take hy))
      · have e := Z13 s11 (na (s47.trans s8) ha5) e9
        exact kdll_of (.tup e) (lstOf_no e (fun _ z => by cases z))
      · exact kdll_of .non rfl
      · exact kdll_of (.str _ (by decide)) rfl
    · simp only [List.mem_cons, List.not_mem_nil, or_false] at hvm
      rcases hvm with rfl | rfl | rfl | rfl | rfl
      · exact .inr (.inr ⟨_, _, ly, lstOf_ref (Z13 (s8.trans s811) (na (s5.trans s6) ha3) e7), .inl (by simp; omega)⟩)
      · exact .inr (.inr ⟨_, _, ly, lstOf_ref (Z13 s811 (na s47 ha4) e8), .inl (by rw [List.length_take]; omega)⟩)
      · have e := Z13 s11 (na (s47.trans s8) ha5) e9
        exact .inr (.inl (lstOf_no e (fun _ z => by cases z)))
      · exact .inr (.inl rfl)
      · exact .inr (.inl rfl)
end KK

set_option Elab.async false
set_option linter.all false
set_option maxRecDepth 100000
set_option maxHeartbeats 8000000
namespace KK
open PySem PySem.Spec L2 L3
theorem good_great : Good ⟨List.replicate 20 [], List.replicate 20 [0], [19], (["a", "b", "c"] : List Str)⟩ := by
  refine ⟨by decide, by decide, by decide, fun ss hs => ?_, fun ns hs => ?_, ⟨by decide, by decide, fun x hx => ?_, by decide⟩, ⟨by decide +kernel, fun x hx => ?_, by decide⟩⟩
  · cases (List.mem_replicate.mp hs).2
    exact ⟨.nil, (fun x hx => by cases hx), by decide⟩
  · cases (List.mem_replicate.mp hs).2
    exact ⟨by simp, by simp, fun x hx => by cases List.mem_singleton.mp hx; exact ⟨by decide, by decide⟩, by decide⟩
  · cases List.mem_singleton.mp hx
    exact ⟨by decide, by decide⟩
  · simp only [List.mem_cons, List.not_mem_nil, or_false] at hx
    rcases hx with rfl | rfl | rfl <;> decide +kernel
def sp_law (K : PySem.W.Frag) (a : Adr) : Sp := fun vs H Q _ => ∃ (p : Addr) (ns : List Int), vs = [.ref p] ∧ SqL K H p (ns.map V.int) ∧ ns.length ≤ 63 ∧ ∀ H', Q (.bl true) H'
theorem ok_law {P : Program} {w : World} {K : PySem.W.Frag} {mg : Str → Option Value} {base : Heap} {a : Adr} (T : Txt K mg a) : FnOk P w K mg base CX0 9 a.law a.law_fd ["_law_script"] (sp_law K a) := by
  have G_World_init := ok_World_init (P := P) (w := w) (base := base) T
  have G_World_many := ok_World_many (P := P) (w := w) (base := base) T
  have G__law_cell_at := ok__law_cell_at (P := P) (w := w) (base := base) T
  have G__law_stream := ok__law_stream (P := P) (w := w) (base := base) T
  have G__law_pool := ok__law_pool (P := P) (w := w) (base := base) T
  have G__law_parts := ok__law_parts (P := P) (w := w) (base := base) T
  have G__law_refused := ok__law_refused (P := P) (w := w) (base := base) T
  have G__law_spoilt := ok__law_spoilt (P := P) (w := w) (base := base) T
  refine T.f_law.ok sc_law (fun vs H Q E h => ?_) (fun cdv A outer s H vs Q E hr h => ?_)
  · obtain ⟨p, ns, rfl, _⟩ := h
    rfl
  · obtain ⟨p, ns, rfl, hq, hz, k⟩ := h
    refine ⟨_, (pss_cons (ps_set (i := 1) sc_law.nd rfl (by first | exact Or.inl rfl | exact Or.inr rfl) (pe_call G__law_stream (hr.mono (by decide)) rfl T.g__law_stream T.f__law_stream.kp T.n__law_stream .nil pass0 (pa_cons (pe_call G__law_cell_at (hr.mono (by decide)) rfl T.g__law_cell_at T.f__law_cell_at.kp T.n__law_cell_at .nil pass0 (pa_cons (pv 0) (pa_cons pe_int pa_nil))) (pa_cons pe_int pa_nil))))
     (pss_cons (ps_set (i := 2) sc_law.nd rfl (by first | exact Or.inl rfl | exact Or.inr rfl) (pe_call G__law_parts (hr.mono (by decide)) rfl T.g__law_parts T.f__law_parts.kp T.n__law_parts .nil pass0 (pa_cons (pv 1) (pa_cons (pe_call G__law_pool (hr.mono (by decide)) rfl T.g__law_pool T.f__law_pool.kp T.n__law_pool .nil pass0 (pa_cons (pv 1) pa_nil)) pa_nil))))
     (pss_cons (ps_if (pt_cmpR op_ne (pe_meth0 (pe_make T.mk_World G_World_init (hr.mono (by decide)) rfl T.g_World T.n_World_init .nil pass0 (pa_c (pe_ix (ix_tupK (K := K) rfl) (pv 2) pe_int (fun _ _ => rfl)) (pa_c (pe_ix (ix_tupK (K := K) rfl) (pv 2) pe_int (fun _ _ => rfl)) (pa_c (pe_ix (ix_tupK (K := K) rfl) (pv 2) pe_int (fun _ _ => rfl)) (pa_c (pe_ix (ix_tupK (K := K) rfl) (pv 2) pe_int (fun _ _ => rfl)) pa_nil))))) T.cl_World T.m_World_many G_World_many (hr.mono (by decide)) T.n_World_many .nil pass0) (pe_callB (call_lenK (K := K) rfl) rfl T.b_len PyProof.Rows.Boot.«len» (pa_cons (pe_ix (ix_tupK (K := K) rfl) (pv 2) pe_int (fun _ _ => rfl)) pa_nil)) (nomark _)) (pss_one (ps_ret pe_bl)) pss_nil)
     (pss_cons (ps_set (i := 3) sc_law.nd rfl (by first | exact Or.inl rfl | exact Or.inr rfl) (pe_call G__law_stream (hr.mono (by decide)) rfl T.g__law_stream T.f__law_stream.kp T.n__law_stream .nil pass0 (pa_cons (pe_call G__law_cell_at (hr.mono (by decide)) rfl T.g__law_cell_at T.f__law_cell_at.kp T.n__law_cell_at .nil pass0 (pa_cons (pv 0) (pa_cons pe_int pa_nil))) (pa_cons pe_int pa_nil))))
     (pss_cons (ps_for PassesOwn.never rfl (pi_range1 rfl T.b_range (pa_cons pe_int pa_nil)) (pg_name (i := 4) sc_law.nd rfl (by first | exact Or.inl rfl | exact Or.inr rfl)) (pss_cons (ps_set (i := 5) sc_law.nd rfl (by first | exact Or.inl rfl | exact Or.inr rfl) (pe_call G__law_spoilt (hr.mono (by decide)) rfl T.g__law_spoilt T.f__law_spoilt.kp T.n__law_spoilt .nil pass0 (pa_cons (pv 3) (pa_cons (pv 2) pa_nil))))
     (pss_one (ps_if (pt_not (pt_val (pe_call G__law_refused (hr.mono (by decide)) rfl T.g__law_refused T.f__law_refused.kp T.n__law_refused .nil pass0 (pa_cons (pv 5) pa_nil)))) (pss_one (ps_ret pe_bl)) pss_nil))))
     (pss_cons (ps_if (PW.pt (pw_or (pt_not (pt_val (pe_call G__law_refused (hr.mono (by decide)) rfl T.g__law_refused T.f__law_refused.kp T.n__law_refused .nil pass0 (pa_cons (pe_tup (pa_c (pe_lst pa_nil) (pa_c (pe_lst pa_nil) (pa_c (pe_lst (pa_cons pe_int pa_nil)) (pa_c (pe_lst pa_nil) pa_nil))))) pa_nil)))) (pw_or1 (pt_not (pt_val (pe_call G__law_refused (hr.mono (by decide)) rfl T.g__law_refused T.f__law_refused.kp T.n__law_refused .nil pass0 (pa_cons (pe_tup (pa_c (pe_lst pa_nil) (pa_c (pe_lst pa_nil) (pa_c (pe_lst pa_nil) (pa_c (pe_lst pa_nil) pa_nil))))) pa_nil))))))) (pss_one (ps_ret pe_bl)) pss_nil)
     (pss_cons (ps_setComp (i := 6) sc_law.nd rfl rfl (Nc := ["_law_room"]) (ix := [none]) (CompOk.of (by decide +kernel : compChk (defScope s_law) ["_law_script", "_law_xs", "_law_parts_here", "_law_ys", "_law_turn", "_law_spoilt_here", "_law_great"] ["_law_room"] [none] _ = true)) rfl (pi_range1 rfl T.b_range (pa_cons pe_int pa_nil)) (fun _ _ _ _ _ => (pg_name (i := 0) (show List.Nodup (["_law_room"] : List Str) by decide +kernel) rfl (by first | exact Or.inl rfl | exact Or.inr rfl))) (fun _ _ _ _ _ => pts_nil) (fun _ _ _ _ _ => (pe_lst pa_nil)))
     (pss_cons (ps_if (pt_not (pt_val (pe_call G__law_refused (hr.mono (by decide)) rfl T.g__law_refused T.f__law_refused.kp T.n__law_refused .nil pass0 (pa_cons (pe_tup (pa_c (pv 6) (pa_c (pe_comp (Nc := ["_law_room"]) (ix := [none]) (CompOk.of (by decide +kernel : compChk (defScope s_law) ["_law_script", "_law_xs", "_law_parts_here", "_law_ys", "_law_turn", "_law_spoilt_here", "_law_great"] ["_law_room"] [none] _ = true)) rfl (pi_listK (K := K) rfl (pv 6)) (fun _ _ _ _ _ => (pg_name (i := 0) (show List.Nodup (["_law_room"] : List Str) by decide +kernel) rfl (by first | exact Or.inl rfl | exact Or.inr rfl))) (fun _ _ _ _ _ => pts_nil) (fun _ _ _ _ _ => (pe_lst (pa_cons pe_int pa_nil)))) (pa_c (pe_lst (pa_cons pe_int pa_nil)) (pa_c (pe_lst pa_nil) pa_nil))))) pa_nil)))) (pss_one (ps_ret pe_bl)) pss_nil)
     (pss_one (ps_ret (pe_cmpR op_eq (pe_meth0 (pe_make T.mk_World G_World_init (hr.mono (by decide)) rfl T.g_World T.n_World_init .nil pass0 (pa_c (pe_slice (sl_listK (K := K) rfl) (pv 6) (po_some pe_int) po_none) (pa_c (pe_comp (Nc := ["_law_room"]) (ix := [none]) (CompOk.of (by decide +kernel : compChk (defScope s_law) ["_law_script", "_law_xs", "_law_parts_here", "_law_ys", "_law_turn", "_law_spoilt_here", "_law_great"] ["_law_room"] [none] _ = true)) rfl (pi_listK (K := K) rfl (pe_slice (sl_listK (K := K) rfl) (pv 6) (po_some pe_int) po_none)) (fun _ _ _ _ _ => (pg_name (i := 0) (show List.Nodup (["_law_room"] : List Str) by decide +kernel) rfl (by first | exact Or.inl rfl | exact Or.inr rfl))) (fun _ _ _ _ _ => pts_nil) (fun _ _ _ _ _ => (pe_lst (pa_cons pe_int pa_nil)))) (pa_c (pe_lst (pa_cons pe_int pa_nil)) (pa_c (pe_lst (pa_c pe_str (pa_c pe_str (pa_c pe_str pa_nil)))) pa_nil))))) T.cl_World T.m_World_many G_World_many (hr.mono (by decide)) T.n_World_many .nil pass0) pe_int (nomark _)))))))))))), ?_⟩
    refine ⟨_, rfl, p, ns, 0, rfl, hq, fun n0 => ⟨n0, 130, rfl, by decide, fun H1 x ns1 s1 x0 h1 => ?_⟩⟩
    refine ⟨_, rfl, _, rfl, x, ns1, rfl, h1, fun H2 q ss ns2 x2 h2 q0 q2 snd snm sl => ?_⟩
    have nq : q ≠ x := fun e => by rw [e, h1] at q0; cases q0
    refine ⟨x, ns2, q, ss, rfl, h2, q2, nq, snd, snm, sl, fun H3 t v1 v2 v3 v4 d ns3 x3 h3 t0 t3 pp0 gd => ?_⟩
    have pp : PartsV H3 v1 v2 v3 v4 d := pp0.mono New.sub
    have S3 : Same H H3 := (((Same.x s1).trans x2).trans x3).same x0
    clear pp0 t0 q2 h2 x2 h1 q0 nq snd snm sl x3 s1 h3
    -- the world
    refine ⟨_, rfl, t, _, _, _, rfl, rfl, SqT.of t3, atI_nat (j := 0) rfl, _, rfl, t, _, _, _, rfl, rfl, SqT.of t3, atI_nat (j := 1) rfl, _, rfl, t, _, _, _, rfl, rfl, SqT.of t3, atI_nat (j := 2) rfl, _, rfl, t, _, _, _, rfl, rfl, SqT.of t3, atI_nat (j := 3) rfl, ?_⟩
    intro w dw nw ndw new
    have sm : Same H3 (upd (upd H3 dw (.own w)) w (.ins a.C_World dw [])) := (same_upd ndw).trans (same_upd (by rw [upd_ne (Ne.symm new)]; exact nw))
    refine ⟨w, dw, _, _, _, _, d, rfl, upd_same, pp.mono sm, gd, fun H4 x4 wa => ⟨rfl, ?_⟩⟩
    have s4 : Same H3 H4 := fun b o e => x4 b o (ne_of_none e nw) (sm b o e)
    have p4 := pp.mono s4
    have t4 := s4 _ _ t3
    have S4 := S3.trans s4
    obtain ⟨dx, fs, hw, lk⟩ := at_many wa
    obtain ⟨b1, y1, e1, g1, l1, q1⟩ := id p4.s
    subst e1
    refine ⟨w, dx, fs, rfl, hw, lk, w, d, rfl, wa, _, rfl, t, _, _, _, rfl, rfl, SqT.of t4, atI_nat (j := 0) rfl, .inl ⟨b1, y1, rfl, .inl (SqL.of g1), rfl, _, rfl, iteNS (congrArg V.int (by rw [l1])) ?_⟩⟩
    clear sm x4 nw ndw new pp t3 s4 wa hw lk q1 g1 l1 S3
    -- the turns
    refine ⟨_, rfl, p, ns, 1, rfl, S4.seq hq, fun n1 => ⟨n1, 10, rfl, by decide, fun H5 y ms s5 y0 h5 => ?_⟩⟩
    have hid5 : Same H4 (hide y H5) := fun b o e => hide_mk (ne_new e y0) (s5 _ _ e)
    have p5 := p4.mono hid5
    have nt : t ≠ y := ne_new t4 y0
    have t5 := s5 _ _ t4
    refine ⟨3, rfl, by decide, by decide, ?_⟩
    refine for_range (fun i σ H' => ∃ (z1 z2 : Option V) (ms' : List Int), σ = [some (.ref p), some (.ref x), some (.ref t), some (.ref y), z1, z2, none] ∧ SameX y H5 H' ∧ H' y = some (.lst (ms'.map V.int))) ?_ ?_ ?_
    · exact ⟨_, _, ms, rfl, .refl _, h5⟩
    · rintro i σ H6 hi ⟨z1, z2, ms', rfl, x6, h6⟩
      refine ⟨_, rfl, _, rfl, y, ms', t, _, _, _, _, d, rfl, h6, x6 _ _ nt t5, p5.mono x6.hide, gd, fun H7 r ms7 x7 h7 bad => ?_⟩
      obtain ⟨a1, a2, a3, a4, er, k1, k2, k3, k4, mk⟩ := bad
      refine ⟨_, rfl, r, a1, a2, a3, a4, rfl, er, k1, k2, k3, k4, mk, fun H8 s8 => ⟨_, rfl, iteF ?_⟩⟩
      exact ⟨_, _, ms7, rfl, (x6.trans x7).trans (Same.x s8), s8 _ _ h7⟩
    rintro σ H6 ⟨z1, z2, ms', rfl, x6, h6⟩
    clear p5 hid5 t5 nt x6 h6 h5 s5 y0 p4 t4
    -- no rooms
    refine ⟨by rw [sizeLine_eq]; simp, fun a1 ha1 => ?_⟩
    have s1 := same_upd (o := .lst []) ha1
    have e1 : (upd H6 a1 (.lst [])) a1 = some (.lst []) := upd_same
    generalize upd H6 a1 (.lst []) = G1 at s1 e1 ⊢
    refine ⟨by rw [sizeLine_eq]; simp, fun a2 ha2 => ?_⟩
    have s2 := same_upd (o := .lst []) ha2
    have e2 : (upd G1 a2 (.lst [])) a2 = some (.lst []) := upd_same
    generalize upd G1 a2 (.lst []) = G2 at s2 e2 ⊢
    refine ⟨by rw [sizeLine_eq]; simp, fun a3 ha3 => ?_⟩
    have s3 := same_upd (o := .lst [.int 0]) ha3
    have e3 : (upd G2 a3 (.lst [.int 0])) a3 = some (.lst [.int 0]) := upd_same
    generalize upd G2 a3 (.lst [.int 0]) = G3 at s3 e3 ⊢
    refine ⟨by rw [sizeLine_eq]; simp, fun a4 ha4 => ?_⟩
    have s4 := same_upd (o := .lst []) ha4
    have e4 : (upd G3 a4 (.lst [])) a4 = some (.lst []) := upd_same
    generalize upd G3 a4 (.lst []) = G4 at s4 e4 ⊢
    refine ⟨by rw [sizeLine_eq]; simp, fun r hr => ?_⟩
    have s5 := same_upd (o := .tup [.ref a1, .ref a2, .ref a3, .ref a4]) hr
    have e5 : (upd G4 r (.tup [.ref a1, .ref a2, .ref a3, .ref a4])) r = some (.tup [.ref a1, .ref a2, .ref a3, .ref a4]) := upd_same
    generalize upd G4 r (.tup [.ref a1, .ref a2, .ref a3, .ref a4]) = G5 at s5 e5 ⊢
    have s35 := s4.trans s5
    have s25 := s3.trans s35
    have f1 := (s2.trans s25) _ _ e1
    have f2 := s25 _ _ e2
    refine ⟨r, _, _, _, _, rfl, e5, .of_lst f1 (by simp) (fun y hy => by cases hy), .of_lst f2 (by simp) (fun y hy => by cases hy), kdl_lst (s35 _ _ e3) (by simp) (fun y hy => by cases List.mem_singleton.mp hy; exact .int _), kdl_lst (s5 _ _ e4) (by simp) (fun y hy => by cases hy), makesW_no (.inr (.inr (.inr (.inr (.inr (.inr (.inr ⟨_, _, lstOf_ref f1, lstOf_ref f2, .inr (.inl rfl)⟩))))))), fun H7 s7 => ⟨_, rfl, iteF ?_⟩⟩
    clear s35 s25 f1 f2 s1 s2 s3 s4 s5 e1 e2 e3 e4 e5 ha1 ha2 ha3 ha4 hr
    refine ⟨by rw [sizeLine_eq]; simp, fun b1 ha1 => ?_⟩
    have s1 := same_upd (o := .lst []) ha1
    have e1 : (upd H7 b1 (.lst [])) b1 = some (.lst []) := upd_same
    generalize upd H7 b1 (.lst []) = G1 at s1 e1 ⊢
    refine ⟨by rw [sizeLine_eq]; simp, fun b2 ha2 => ?_⟩
    have s2 := same_upd (o := .lst []) ha2
    have e2 : (upd G1 b2 (.lst [])) b2 = some (.lst []) := upd_same
    generalize upd G1 b2 (.lst []) = G2 at s2 e2 ⊢
    refine ⟨by rw [sizeLine_eq]; simp, fun b3 ha3 => ?_⟩
    have s3 := same_upd (o := .lst []) ha3
    have e3 : (upd G2 b3 (.lst [])) b3 = some (.lst []) := upd_same
    generalize upd G2 b3 (.lst []) = G3 at s3 e3 ⊢
    refine ⟨by rw [sizeLine_eq]; simp, fun b4 ha4 => ?_⟩
    have s4 := same_upd (o := .lst []) ha4
    have e4 : (upd G3 b4 (.lst [])) b4 = some (.lst []) := upd_same
    generalize upd G3 b4 (.lst []) = G4 at s4 e4 ⊢
    refine ⟨by rw [sizeLine_eq]; simp, fun r hr => ?_⟩
    have s5 := same_upd (o := .tup [.ref b1, .ref b2, .ref b3, .ref b4]) hr
    have e5 : (upd G4 r (.tup [.ref b1, .ref b2, .ref b3, .ref b4])) r = some (.tup [.ref b1, .ref b2, .ref b3, .ref b4]) := upd_same
    generalize upd G4 r (.tup [.ref b1, .ref b2, .ref b3, .ref b4]) = G5 at s5 e5 ⊢
    have s35 := s4.trans s5
    have s25 := s3.trans s35
    have f1 := (s2.trans s25) _ _ e1
    have f2 := s25 _ _ e2
    refine ⟨r, _, _, _, _, rfl, e5, .of_lst f1 (by simp) (fun y hy => by cases hy), .of_lst f2 (by simp) (fun y hy => by cases hy), kdl_lst (s35 _ _ e3) (by simp) (fun y hy => by cases hy), kdl_lst (s5 _ _ e4) (by simp) (fun y hy => by cases hy), makesW_no (.inr (.inr (.inr (.inr (.inr (.inr (.inr ⟨_, _, lstOf_ref f1, lstOf_ref f2, .inr (.inl rfl)⟩))))))), fun H8 s8 => ⟨_, rfl, iteF ?_⟩⟩
    clear s35 s25 f1 f2 s1 s2 s3 s4 s5 e1 e2 e3 e4 e5 ha1 ha2 ha3 ha4 hr
    -- twenty-one
    refine ⟨21, rfl, by decide, by decide, fun D hD => ?_⟩
    refine comp_gen (n := 21) (fun i σ H' => ∃ (z : Option V) (gs : List V), σ = [z] ∧ Same H8 H' ∧ H' D = some (.lst gs) ∧ gs.length = i ∧ ∀ v ∈ gs, ∃ c, v = .ref c ∧ c ≠ D ∧ H' c = some (.lst [])) ?_ ?_ ?_ ?_ ?_
    · exact ⟨_, [], rfl, same_upd hD, upd_same, rfl, (fun v hv => by cases hv)⟩
    · rintro i σ H' hi _
      exact hi
    · rintro σ H' _
      exact Nat.le_refl _
    · rintro i xx σ H' H2 hi ⟨z, gs, rfl, sm, hl, ln, hv⟩ ⟨rfl, rfl⟩ N N0 hN hN0
      refine ⟨by rw [sizeLine_eq]; simp, fun c hc => ?_⟩
      have nc : c ≠ D := fun e => by rw [e, hl] at hc; cases hc
      refine hN _ _ _ gs (same_upd hc _ _ hl) (by rw [sizeLine_eq]; omega) ⟨_, gs ++ [.ref c], rfl, (SameX.upd (Same.x (sm.trans (same_upd hc)))).same hD, upd_same, by simp [ln], fun v hv' => ?_⟩
      rcases List.mem_append.mp hv' with h | h
      · obtain ⟨c', rfl, nc', e⟩ := hv v h
        exact ⟨c', rfl, nc', by rw [upd_ne nc']; exact same_upd hc _ _ e⟩
      · cases List.mem_singleton.mp h
        exact ⟨c, rfl, nc, by rw [upd_ne nc, upd_same]⟩
    rintro σ H9 ⟨z, gs, rfl, s9, gl, ln, gv⟩
    refine ⟨_, rfl, _, rfl, D, rfl, ⟨_, SqL.of gl⟩, fun E hE => ?_⟩
    refine comp_map (K := K) hE (SqL.of gl) (by rw [sizeLine_eq]; omega) (fun i v G => LI G v [0]) (fun i v _ _ sm q => LI.mono _ _ _ _ sm q) ?_ ?_
    · intro i xx H2 N hx sm hN
      exact ⟨by rw [sizeLine_eq]; simp, fun c hc => hN _ _ (same_upd hc) ⟨c, rfl, New.mk hc upd_same⟩⟩
    intro H10 wv hE10 s10 wl r10
    refine ⟨by rw [sizeLine_eq]; simp, fun a3 ha3 => ?_⟩
    have s11 := same_upd (o := .lst [.int 0]) ha3
    have e11 : (upd H10 a3 (.lst [.int 0])) a3 = some (.lst [.int 0]) := upd_same
    generalize upd H10 a3 (.lst [.int 0]) = H11 at s11 e11 ⊢
    refine ⟨by rw [sizeLine_eq]; simp, fun a4 ha4 => ?_⟩
    have s12 := same_upd (o := .lst []) ha4
    have e12 : (upd H11 a4 (.lst [])) a4 = some (.lst []) := upd_same
    generalize upd H11 a4 (.lst []) = H12 at s12 e12 ⊢
    refine ⟨by rw [sizeLine_eq]; simp, fun r hr => ?_⟩
    have s13 := same_upd (o := .tup [.ref D, .ref E, .ref a3, .ref a4]) hr
    have e13 : (upd H12 r (.tup [.ref D, .ref E, .ref a3, .ref a4])) r = some (.tup [.ref D, .ref E, .ref a3, .ref a4]) := upd_same
    generalize upd H12 r (.tup [.ref D, .ref E, .ref a3, .ref a4]) = H13 at s13 e13 ⊢
    have t10 : Same H10 H13 := s11.trans (s12.trans s13)
    have t9 := s10.trans t10
    have fD := t9 _ _ gl
    have fE := t10 _ _ hE10
    refine ⟨r, _, _, _, _, rfl, e13, .of_lst fD (by omega) (fun v hv => ?_), .of_lst fE (by omega) (fun v hv => ?_), kdl_lst ((s12.trans s13) _ _ e11) (by simp) (fun y hy => by cases List.mem_singleton.mp hy; exact .int _), kdl_lst (s13 _ _ e12) (by simp) (fun y hy => by cases hy), makesW_no (.inr (.inr (.inr (.inr (.inr (.inr (.inr ⟨_, _, lstOf_ref fD, lstOf_ref fE, .inr (.inr (by omega))⟩))))))), fun H14 s14 => ⟨_, rfl, iteF ?_⟩⟩
    · obtain ⟨c, rfl, _, ec⟩ := gv v hv
      exact kdl_lst (t9 _ _ ec) (by simp) (fun y hy => by cases hy)
    · obtain ⟨j, hj, rfl⟩ := List.getElem_of_mem hv
      exact (LI.mono _ _ _ _ (New.sub.trans t10) (r10 j _ (List.getElem?_eq_getElem hj))).kd (by simp)
    have u9 := t9.trans s14
    have gl14 := u9 _ _ gl
    have gv14 : ∀ v ∈ gs, LS H14 v [] := fun v hv => by
      obtain ⟨c, rfl, _, ec⟩ := gv v hv
      exact ⟨c, rfl, u9 _ _ ec⟩
    clear fD fE t9 t10 e11 e12 e13 s11 s12 s13 r10 wl hE10 s10 gv ha3 ha4 hr hE hD gl s9 u9 s14
    -- twenty
    refine ⟨_, rfl, _, rfl, D, gs, rfl, SqL.of gl14, fun c1 hc1 => ?_⟩
    rw [cut_tail]
    have s1 := same_upd (o := .lst (gs.drop 1)) hc1
    have e1 : (upd H14 c1 (.lst (gs.drop 1))) c1 = some (.lst (gs.drop 1)) := upd_same
    generalize upd H14 c1 (.lst (gs.drop 1)) = G1 at s1 e1 ⊢
    refine ⟨_, rfl, _, rfl, D, gs, rfl, SqL.of (s1 _ _ gl14), fun c2 hc2 => ?_⟩
    rw [cut_tail]
    have s2 := same_upd (o := .lst (gs.drop 1)) hc2
    have e2 : (upd G1 c2 (.lst (gs.drop 1))) c2 = some (.lst (gs.drop 1)) := upd_same
    generalize upd G1 c2 (.lst (gs.drop 1)) = G2 at s2 e2 ⊢
    refine ⟨c2, rfl, ⟨_, SqL.of e2⟩, fun F hF => ?_⟩
    refine comp_map (K := K) hF (SqL.of e2) (by rw [sizeLine_eq, List.length_drop]; omega) (fun i v G => LI G v [0]) (fun i v _ _ sm q => LI.mono _ _ _ _ sm q) ?_ ?_
    · intro i xx H2 N hx sm hN
      exact ⟨by rw [sizeLine_eq]; simp, fun c hc => hN _ _ (same_upd hc) ⟨c, rfl, New.mk hc upd_same⟩⟩
    intro G3 wv3 hF3 s3 wl3 r3
    rw [List.length_drop] at wl3
    refine ⟨by rw [sizeLine_eq]; simp, fun a3 ha3 => ?_⟩
    have s4 := same_upd (o := .lst [.int 19]) ha3
    have e4 : (upd G3 a3 (.lst [.int 19])) a3 = some (.lst (([19] : List Int).map V.int)) := by rw [upd_same]; rfl
    generalize upd G3 a3 (.lst [.int 19]) = G4 at s4 e4 ⊢
    refine ⟨by rw [sizeLine_eq]; simp, fun a4 ha4 => ?_⟩
    have s5 := same_upd (o := .lst [.str "a", .str "b", .str "c"]) ha4
    have e5 : (upd G4 a4 (.lst [.str "a", .str "b", .str "c"])) a4 = some (.lst ((["a", "b", "c"] : List Str).map V.str)) := by rw [upd_same]; rfl
    generalize upd G4 a4 (.lst [.str "a", .str "b", .str "c"]) = G5 at s5 e5 ⊢
    intro w dw nw ndw new
    have pzz : PartsV G5 (.ref c1) (.ref F) (.ref a3) (.ref a4) ⟨List.replicate 20 [], List.replicate 20 [0], [19], (["a", "b", "c"] : List Str)⟩ := by
      have u35 : Same G3 G5 := s4.trans s5
      have u15 : Same G1 G5 := s2.trans (s3.trans u35)
      refine ⟨⟨c1, _, rfl, u15 _ _ e1, by rw [List.length_drop]; simp; omega, fun i v x h1 h2 => ?_⟩, ⟨F, wv3, rfl, u35 _ _ hF3, by rw [wl3]; simp; omega, fun i v x h1 h2 => ?_⟩, ⟨a3, rfl, s5 _ _ e4⟩, ⟨a4, rfl, e5⟩⟩
      · have hx := (List.mem_replicate.mp (List.mem_of_getElem? h2)).2
        subst hx
        exact LS.mono _ _ _ _ (s1.trans u15) (gv14 v (List.mem_of_mem_drop (List.mem_of_getElem? h1)))
      · have hx := (List.mem_replicate.mp (List.mem_of_getElem? h2)).2
        subst hx
        exact LI.mono _ _ _ _ (New.sub.trans u35) (r3 i v h1)
    have sm : Same G5 (upd (upd G5 dw (.own w)) w (.ins a.C_World dw [])) := (same_upd ndw).trans (same_upd (by rw [upd_ne (Ne.symm new)]; exact nw))
    refine ⟨w, dw, _, _, _, _, _, rfl, upd_same, pzz.mono sm, good_great, fun G6 x6 wa => ⟨rfl, ?_⟩⟩
    obtain ⟨dx, fs, hw, lk⟩ := at_many wa
    refine ⟨w, dx, fs, rfl, hw, lk, w, _, rfl, wa, rfl, ?_⟩
    have e20 : decide (V.int (((List.replicate 20 ([] : List Str)).length : Nat) : Int) = V.int 20) = true := decide_eq_true rfl
    show Q (V.bl (decide (V.int (((List.replicate 20 ([] : List Str)).length : Nat) : Int) = V.int 20))) G6
    rw [e20]
    exact k _
end KK

set_option Elab.async false
set_option linter.all false
set_option maxRecDepth 100000
set_option maxHeartbeats 4000000
namespace KK
open PySem PySem.Spec L2 L3
def spL (K : PySem.W.Frag) : Sp := fun vs H Q _ => ∃ (p : Addr) (ns : List Int), vs = [.ref p] ∧ SqL K H p (ns.map V.int) ∧ ns.length ≤ 63 ∧ ∀ H', Q (.bl true) H'
theorem all_mk {l : PySem.W.OpenLaw} {w : World} {K : PySem.W.Frag} {h : Heap} {mg : Str → Option Value} {fa : Addr} (X : K.In h) (G : h.Ns mainGlobals mg) (hfa : mg "law" = some (.ref fa))
    {f0 f1 f2 f3 f4 f5 f6 f7 f8 f9 f10 f11 f12 f13 f14 f15 f16 f17 f18 f19 f20 f21 f22 f23 f24 f25 : Addr}
    {C_World C_TimeError C_BadWorld C_BadSentence C_BadMachine C_TooMany C_NoText C_NoWorld : Addr}
    {od0 an0 od1 an1 od2 an2 od3 an3 od4 an4 od5 an5 od6 an6 od7 an7 od8 an8 od9 an9 od10 an10 od11 an11 od12 an12 od13 an13 od14 an14 od15 an15 od16 an16 od17 an17 od18 an18 od19 an19 od20 an20 od21 an21 od22 an22 od23 an23 od24 an24 od25 an25 : Option Addr}
    {sl0 sl1 sl2 sl3 sl4 sl5 sl6 sl7 sl8 sl9 sl10 sl11 sl12 sl13 sl14 sl15 sl16 sl17 sl18 sl19 sl20 sl21 sl22 sl23 sl24 sl25 : Array (Option Value)}
    {oc0 kV0 dc0 pm0 cd0 ct0 oc1 kV1 dc1 pm1 cd1 ct1 oc2 kV2 dc2 pm2 cd2 ct2 oc3 kV3 dc3 pm3 cd3 ct3 oc4 kV4 dc4 pm4 cd4 ct4 oc5 kV5 dc5 pm5 cd5 ct5 oc6 kV6 dc6 pm6 cd6 ct6 oc7 kV7 dc7 pm7 cd7 ct7 oc8 kV8 dc8 pm8 cd8 ct8 oc9 kV9 dc9 pm9 cd9 ct9 oc10 kV10 dc10 pm10 cd10 ct10 oc11 kV11 dc11 pm11 cd11 ct11 oc12 kV12 dc12 pm12 cd12 ct12 oc13 kV13 dc13 pm13 cd13 ct13 oc14 kV14 dc14 pm14 cd14 ct14 oc15 kV15 dc15 pm15 cd15 ct15 oc16 kV16 dc16 pm16 cd16 ct16 oc17 kV17 dc17 pm17 cd17 ct17 oc18 kV18 dc18 pm18 cd18 ct18 oc19 kV19 dc19 pm19 cd19 ct19 oc20 kV20 dc20 pm20 cd20 ct20 oc21 kV21 dc21 pm21 cd21 ct21 oc22 kV22 dc22 pm22 cd22 ct22 oc23 kV23 dc23 pm23 cd23 ct23 oc24 kV24 dc24 pm24 cd24 ct24 oc25 kV25 dc25 pm25 cd25 ct25 : Value}
    {tk_LETTERS tk_MOST_LETTERS tk_MOST_ROOMS tk_MOST_FAIR : Tok}
    (aC_World : PySem.W.nsIn K mainGlobals "World" = some (some (.ref C_World)))
    (aC_TimeError : PySem.W.nsIn K mainGlobals "TimeError" = some (some (.ref C_TimeError)))
    (aC_BadWorld : PySem.W.nsIn K mainGlobals "BadWorld" = some (some (.ref C_BadWorld)))
    (aC_BadSentence : PySem.W.nsIn K mainGlobals "BadSentence" = some (some (.ref C_BadSentence)))
    (aC_BadMachine : PySem.W.nsIn K mainGlobals "BadMachine" = some (some (.ref C_BadMachine)))
    (aC_TooMany : PySem.W.nsIn K mainGlobals "TooMany" = some (some (.ref C_TooMany)))
    (aC_NoText : PySem.W.nsIn K mainGlobals "NoText" = some (some (.ref C_NoText)))
    (aC_NoWorld : PySem.W.nsIn K mainGlobals "NoWorld" = some (some (.ref C_NoWorld)))
    (a0 : PySem.W.nsIn K mainGlobals "_wall" = some (some (.ref f0)))
    (l0 : K.lookup f0 = some ⟨oc0, od0, .func (PySem.W.fnOf "_wall" "_wall" (defArgs s__wall) (defBody s__wall) (defScope s__wall) .none kV0 dc0 pm0 an0 cd0 ct0), sl0⟩)
    (c0 : PySem.W.codeIn K cd0 "_wall" = true)
    (k0 : PySem.W.keepIn K (.ref f0) = true)
    (a1 : PySem.W.nsIn K mainGlobals "is_whole" = some (some (.ref f1)))
    (l1 : K.lookup f1 = some ⟨oc1, od1, .func (PySem.W.fnOf "is_whole" "is_whole" (defArgs s_is_whole) (defBody s_is_whole) (defScope s_is_whole) .none kV1 dc1 pm1 an1 cd1 ct1), sl1⟩)
    (c1 : PySem.W.codeIn K cd1 "is_whole" = true)
    (k1 : PySem.W.keepIn K (.ref f1) = true)
    (a2 : PySem.W.nsIn K mainGlobals "is_name" = some (some (.ref f2)))
    (l2 : K.lookup f2 = some ⟨oc2, od2, .func (PySem.W.fnOf "is_name" "is_name" (defArgs s_is_name) (defBody s_is_name) (defScope s_is_name) .none kV2 dc2 pm2 an2 cd2 ct2), sl2⟩)
    (c2 : PySem.W.codeIn K cd2 "is_name" = true)
    (k2 : PySem.W.keepIn K (.ref f2) = true)
    (a3 : PySem.W.nsIn K mainGlobals "is_room" = some (some (.ref f3)))
    (l3 : K.lookup f3 = some ⟨oc3, od3, .func (PySem.W.fnOf "is_room" "is_room" (defArgs s_is_room) (defBody s_is_room) (defScope s_is_room) .none kV3 dc3 pm3 an3 cd3 ct3), sl3⟩)
    (c3 : PySem.W.codeIn K cd3 "is_room" = true)
    (k3 : PySem.W.keepIn K (.ref f3) = true)
    (a4 : PySem.W.nsIn K mainGlobals "are_names" = some (some (.ref f4)))
    (l4 : K.lookup f4 = some ⟨oc4, od4, .func (PySem.W.fnOf "are_names" "are_names" (defArgs s_are_names) (defBody s_are_names) (defScope s_are_names) .none kV4 dc4 pm4 an4 cd4 ct4), sl4⟩)
    (c4 : PySem.W.codeIn K cd4 "are_names" = true)
    (k4 : PySem.W.keepIn K (.ref f4) = true)
    (a5 : PySem.W.nsIn K mainGlobals "are_rooms" = some (some (.ref f5)))
    (l5 : K.lookup f5 = some ⟨oc5, od5, .func (PySem.W.fnOf "are_rooms" "are_rooms" (defArgs s_are_rooms) (defBody s_are_rooms) (defScope s_are_rooms) .none kV5 dc5 pm5 an5 cd5 ct5), sl5⟩)
    (c5 : PySem.W.codeIn K cd5 "are_rooms" = true)
    (k5 : PySem.W.keepIn K (.ref f5) = true)
    (a6 : PySem.W.findIn K (.ref C_World) "__init__" = some (some (.ref f6)))
    (i6 : PySem.W.isFn K (.ref f6) = true)
    (l6 : K.lookup f6 = some ⟨oc6, od6, .func (PySem.W.fnOf "__init__" "World.__init__" (defArgs s_World_init) (defBody s_World_init) (defScope s_World_init) .none kV6 dc6 pm6 an6 cd6 ct6), sl6⟩)
    (c6 : PySem.W.codeIn K cd6 "World.__init__" = true)
    (k6 : PySem.W.keepIn K (.ref f6) = true)
    (a7 : PySem.W.findIn K (.ref C_World) "many" = some (some (.ref f7)))
    (i7 : PySem.W.isFn K (.ref f7) = true)
    (l7 : K.lookup f7 = some ⟨oc7, od7, .func (PySem.W.fnOf "many" "World.many" (defArgs s_World_many) (defBody s_World_many) (defScope s_World_many) .none kV7 dc7 pm7 an7 cd7 ct7), sl7⟩)
    (c7 : PySem.W.codeIn K cd7 "World.many" = true)
    (k7 : PySem.W.keepIn K (.ref f7) = true)
    (a8 : PySem.W.findIn K (.ref C_World) "signs_of" = some (some (.ref f8)))
    (i8 : PySem.W.isFn K (.ref f8) = true)
    (l8 : K.lookup f8 = some ⟨oc8, od8, .func (PySem.W.fnOf "signs_of" "World.signs_of" (defArgs s_World_signs_of) (defBody s_World_signs_of) (defScope s_World_signs_of) .none kV8 dc8 pm8 an8 cd8 ct8), sl8⟩)
    (c8 : PySem.W.codeIn K cd8 "World.signs_of" = true)
    (k8 : PySem.W.keepIn K (.ref f8) = true)
    (a9 : PySem.W.findIn K (.ref C_World) "ways_on" = some (some (.ref f9)))
    (i9 : PySem.W.isFn K (.ref f9) = true)
    (l9 : K.lookup f9 = some ⟨oc9, od9, .func (PySem.W.fnOf "ways_on" "World.ways_on" (defArgs s_World_ways_on) (defBody s_World_ways_on) (defScope s_World_ways_on) .none kV9 dc9 pm9 an9 cd9 ct9), sl9⟩)
    (c9 : PySem.W.codeIn K cd9 "World.ways_on" = true)
    (k9 : PySem.W.keepIn K (.ref f9) = true)
    (a10 : PySem.W.findIn K (.ref C_World) "begins" = some (some (.ref f10)))
    (i10 : PySem.W.isFn K (.ref f10) = true)
    (l10 : K.lookup f10 = some ⟨oc10, od10, .func (PySem.W.fnOf "begins" "World.begins" (defArgs s_World_begins) (defBody s_World_begins) (defScope s_World_begins) .none kV10 dc10 pm10 an10 cd10 ct10), sl10⟩)
    (c10 : PySem.W.codeIn K cd10 "World.begins" = true)
    (k10 : PySem.W.keepIn K (.ref f10) = true)
    (a11 : PySem.W.findIn K (.ref C_World) "fair_signs" = some (some (.ref f11)))
    (i11 : PySem.W.isFn K (.ref f11) = true)
    (l11 : K.lookup f11 = some ⟨oc11, od11, .func (PySem.W.fnOf "fair_signs" "World.fair_signs" (defArgs s_World_fair_signs) (defBody s_World_fair_signs) (defScope s_World_fair_signs) .none kV11 dc11 pm11 an11 cd11 ct11), sl11⟩)
    (c11 : PySem.W.codeIn K cd11 "World.fair_signs" = true)
    (k11 : PySem.W.keepIn K (.ref f11) = true)
    (a12 : PySem.W.nsIn K mainGlobals "makes_world" = some (some (.ref f12)))
    (l12 : K.lookup f12 = some ⟨oc12, od12, .func (PySem.W.fnOf "makes_world" "makes_world" (defArgs s_makes_world) (defBody s_makes_world) (defScope s_makes_world) .none kV12 dc12 pm12 an12 cd12 ct12), sl12⟩)
    (c12 : PySem.W.codeIn K cd12 "makes_world" = true)
    (k12 : PySem.W.keepIn K (.ref f12) = true)
    (a13 : PySem.W.nsIn K mainGlobals "are_some_rooms" = some (some (.ref f13)))
    (l13 : K.lookup f13 = some ⟨oc13, od13, .func (PySem.W.fnOf "are_some_rooms" "are_some_rooms" (defArgs s_are_some_rooms) (defBody s_are_some_rooms) (defScope s_are_some_rooms) .none kV13 dc13 pm13 an13 cd13 ct13), sl13⟩)
    (c13 : PySem.W.codeIn K cd13 "are_some_rooms" = true)
    (k13 : PySem.W.keepIn K (.ref f13) = true)
    (a14 : PySem.W.nsIn K mainGlobals "_law_cell_at" = some (some (.ref f14)))
    (l14 : K.lookup f14 = some ⟨oc14, od14, .func (PySem.W.fnOf "_law_cell_at" "_law_cell_at" (defArgs s__law_cell_at) (defBody s__law_cell_at) (defScope s__law_cell_at) .none kV14 dc14 pm14 an14 cd14 ct14), sl14⟩)
    (c14 : PySem.W.codeIn K cd14 "_law_cell_at" = true)
    (k14 : PySem.W.keepIn K (.ref f14) = true)
    (a15 : PySem.W.nsIn K mainGlobals "_law_stream" = some (some (.ref f15)))
    (l15 : K.lookup f15 = some ⟨oc15, od15, .func (PySem.W.fnOf "_law_stream" "_law_stream" (defArgs s__law_stream) (defBody s__law_stream) (defScope s__law_stream) .none kV15 dc15 pm15 an15 cd15 ct15), sl15⟩)
    (c15 : PySem.W.codeIn K cd15 "_law_stream" = true)
    (k15 : PySem.W.keepIn K (.ref f15) = true)
    (a16 : PySem.W.nsIn K mainGlobals "_law_draw" = some (some (.ref f16)))
    (l16 : K.lookup f16 = some ⟨oc16, od16, .func (PySem.W.fnOf "_law_draw" "_law_draw" (defArgs s__law_draw) (defBody s__law_draw) (defScope s__law_draw) .none kV16 dc16 pm16 an16 cd16 ct16), sl16⟩)
    (c16 : PySem.W.codeIn K cd16 "_law_draw" = true)
    (k16 : PySem.W.keepIn K (.ref f16) = true)
    (a17 : PySem.W.nsIn K mainGlobals "_law_pool" = some (some (.ref f17)))
    (l17 : K.lookup f17 = some ⟨oc17, od17, .func (PySem.W.fnOf "_law_pool" "_law_pool" (defArgs s__law_pool) (defBody s__law_pool) (defScope s__law_pool) .none kV17 dc17 pm17 an17 cd17 ct17), sl17⟩)
    (c17 : PySem.W.codeIn K cd17 "_law_pool" = true)
    (k17 : PySem.W.keepIn K (.ref f17) = true)
    (a18 : PySem.W.nsIn K mainGlobals "_law_some" = some (some (.ref f18)))
    (l18 : K.lookup f18 = some ⟨oc18, od18, .func (PySem.W.fnOf "_law_some" "_law_some" (defArgs s__law_some) (defBody s__law_some) (defScope s__law_some) .none kV18 dc18 pm18 an18 cd18 ct18), sl18⟩)
    (c18 : PySem.W.codeIn K cd18 "_law_some" = true)
    (k18 : PySem.W.keepIn K (.ref f18) = true)
    (a19 : PySem.W.nsIn K mainGlobals "_law_parts" = some (some (.ref f19)))
    (l19 : K.lookup f19 = some ⟨oc19, od19, .func (PySem.W.fnOf "_law_parts" "_law_parts" (defArgs s__law_parts) (defBody s__law_parts) (defScope s__law_parts) .none kV19 dc19 pm19 an19 cd19 ct19), sl19⟩)
    (c19 : PySem.W.codeIn K cd19 "_law_parts" = true)
    (k19 : PySem.W.keepIn K (.ref f19) = true)
    (a20 : PySem.W.nsIn K mainGlobals "_law_refused" = some (some (.ref f20)))
    (l20 : K.lookup f20 = some ⟨oc20, od20, .func (PySem.W.fnOf "_law_refused" "_law_refused" (defArgs s__law_refused) (defBody s__law_refused) (defScope s__law_refused) .none kV20 dc20 pm20 an20 cd20 ct20), sl20⟩)
    (c20 : PySem.W.codeIn K cd20 "_law_refused" = true)
    (k20 : PySem.W.keepIn K (.ref f20) = true)
    (a21 : PySem.W.nsIn K mainGlobals "_law_put" = some (some (.ref f21)))
    (l21 : K.lookup f21 = some ⟨oc21, od21, .func (PySem.W.fnOf "_law_put" "_law_put" (defArgs s__law_put) (defBody s__law_put) (defScope s__law_put) .none kV21 dc21 pm21 an21 cd21 ct21), sl21⟩)
    (c21 : PySem.W.codeIn K cd21 "_law_put" = true)
    (k21 : PySem.W.keepIn K (.ref f21) = true)
    (a22 : PySem.W.nsIn K mainGlobals "_law_bad_names" = some (some (.ref f22)))
    (l22 : K.lookup f22 = some ⟨oc22, od22, .func (PySem.W.fnOf "_law_bad_names" "_law_bad_names" (defArgs s__law_bad_names) (defBody s__law_bad_names) (defScope s__law_bad_names) .none kV22 dc22 pm22 an22 cd22 ct22), sl22⟩)
    (c22 : PySem.W.codeIn K cd22 "_law_bad_names" = true)
    (k22 : PySem.W.keepIn K (.ref f22) = true)
    (a23 : PySem.W.nsIn K mainGlobals "_law_bad_rooms" = some (some (.ref f23)))
    (l23 : K.lookup f23 = some ⟨oc23, od23, .func (PySem.W.fnOf "_law_bad_rooms" "_law_bad_rooms" (defArgs s__law_bad_rooms) (defBody s__law_bad_rooms) (defScope s__law_bad_rooms) .none kV23 dc23 pm23 an23 cd23 ct23), sl23⟩)
    (c23 : PySem.W.codeIn K cd23 "_law_bad_rooms" = true)
    (k23 : PySem.W.keepIn K (.ref f23) = true)
    (a24 : PySem.W.nsIn K mainGlobals "_law_spoilt" = some (some (.ref f24)))
    (l24 : K.lookup f24 = some ⟨oc24, od24, .func (PySem.W.fnOf "_law_spoilt" "_law_spoilt" (defArgs s__law_spoilt) (defBody s__law_spoilt) (defScope s__law_spoilt) .none kV24 dc24 pm24 an24 cd24 ct24), sl24⟩)
    (c24 : PySem.W.codeIn K cd24 "_law_spoilt" = true)
    (k24 : PySem.W.keepIn K (.ref f24) = true)
    (a25 : PySem.W.nsIn K mainGlobals "law" = some (some (.ref f25)))
    (l25 : K.lookup f25 = some ⟨oc25, od25, .func (PySem.W.fnOf "law" "law" (defArgs s_law) (defBody s_law) (defScope s_law) .none kV25 dc25 pm25 an25 cd25 ct25), sl25⟩)
    (c25 : PySem.W.codeIn K cd25 "law" = true)
    (k25 : PySem.W.keepIn K (.ref f25) = true)
    (pg_World : PySem.W.plainGet K C_World Str.empty = true)
    (hd_World : PySem.W.hasDictIn K C_World = true)
    (po_World : PySem.W.plainOver K C_World = true)
    (sa_World : PySem.W.findIn K (.ref C_World) "__setattr__" = some (some (.builtin "object.__setattr__")))
    (mk_World : PySem.W.makesIn K C_World = true)
    (kc_World : PySem.W.keepIn K (.ref C_World) = true)
    (t1_World : PySem.W.findIn K (.ref C_World) "__class__" = some (some (.builtin "object.__class__")))
    (t2_World : PySem.W.specialIn K (.builtin "object.__class__") "__get__" = some (some (.builtin "getset_descriptor.__get__")))
    (t3_World : PySem.W.takesIn K (.builtin "object.__class__") = some true)
    (t4_World : PySem.W.mroIn K C_World (.type "object") = some true)
    (n_World_room_signs : PySem.W.findIn K (.ref C_World) "room_signs" = some none)
    (n_World_room_ways : PySem.W.findIn K (.ref C_World) "room_ways" = some none)
    (n_World_start_rooms : PySem.W.findIn K (.ref C_World) "start_rooms" = some none)
    (n_World_fair_names : PySem.W.findIn K (.ref C_World) "fair_names" = some none)
    (z_ValueError : PySem.W.nsIn K mainGlobals "ValueError" = some none)
    (z_all : PySem.W.nsIn K mainGlobals "all" = some none)
    (z_len : PySem.W.nsIn K mainGlobals "len" = some none)
    (z_range : PySem.W.nsIn K mainGlobals "range" = some none)
    (z_list : PySem.W.nsIn K mainGlobals "list" = some none)
    (z_isinstance : PySem.W.nsIn K mainGlobals "isinstance" = some none)
    (z_int : PySem.W.nsIn K mainGlobals "int" = some none)
    (z_tuple : PySem.W.nsIn K mainGlobals "tuple" = some none)
    (z_bool : PySem.W.nsIn K mainGlobals "bool" = some none)
    (z_str : PySem.W.nsIn K mainGlobals "str" = some none)
    (z_set : PySem.W.nsIn K mainGlobals "set" = some none)
    (z_sorted : PySem.W.nsIn K mainGlobals "sorted" = some none)
    (z_enumerate : PySem.W.nsIn K mainGlobals "enumerate" = some none)
    (x_LETTERS : PySem.W.nsIn K mainGlobals "LETTERS" = some (some (.str "abcdefghijklmnopqrstuvwxyz" tk_LETTERS)))
    (x_MOST_LETTERS : PySem.W.nsIn K mainGlobals "MOST_LETTERS" = some (some (.int 8 tk_MOST_LETTERS)))
    (x_MOST_ROOMS : PySem.W.nsIn K mainGlobals "MOST_ROOMS" = some (some (.int 20 tk_MOST_ROOMS)))
    (x_MOST_FAIR : PySem.W.nsIn K mainGlobals "MOST_FAIR" = some (some (.int 3 tk_MOST_FAIR)))
    (xc_TimeError : PySem.W.excIn K C_TimeError [.type "ValueError", .type "Exception", .type "BaseException", .type "object"] "ValueError.__new__" = true)
    (xc_BadWorld : PySem.W.excIn K C_BadWorld [.type "ValueError", .type "Exception", .type "BaseException", .type "object"] "ValueError.__new__" = true)
    (xc_BadSentence : PySem.W.excIn K C_BadSentence [.type "ValueError", .type "Exception", .type "BaseException", .type "object"] "ValueError.__new__" = true)
    (xc_BadMachine : PySem.W.excIn K C_BadMachine [.type "ValueError", .type "Exception", .type "BaseException", .type "object"] "ValueError.__new__" = true)
    (xc_TooMany : PySem.W.excIn K C_TooMany [.type "ValueError", .type "Exception", .type "BaseException", .type "object"] "ValueError.__new__" = true)
    (xc_NoText : PySem.W.excIn K C_NoText [.type "ValueError", .type "Exception", .type "BaseException", .type "object"] "ValueError.__new__" = true)
    (xc_NoWorld : PySem.W.excIn K C_NoWorld [.type "ValueError", .type "Exception", .type "BaseException", .type "object"] "ValueError.__new__" = true)
    (xgt : PySem.W.specialIn K (.builtin "object.__class__") "__get__" = some (some (.builtin "getset_descriptor.__get__")))
    (xtk : PySem.W.takesIn K (.builtin "object.__class__") = some true)
    (xga_BadWorld : PySem.W.findIn K (.ref C_BadWorld) "__getattribute__" = some (some (.builtin "BaseException.__getattribute__")))
    (xgh_BadWorld : PySem.W.findIn K (.ref C_BadWorld) "__getattr__" = some none)
    (xob_BadWorld : PySem.W.mroIn K C_BadWorld (.type "object") = some true)
    (xbe_BadWorld : PySem.W.mroIn K C_BadWorld (.type "BaseException") = some true)
    (xcl_BadWorld : PySem.W.findIn K (.ref C_BadWorld) "__class__" = some (some (.builtin "object.__class__")))
    (xhd_BadWorld : PySem.W.hasDictIn K C_BadWorld = true)
    (sb_TimeError : PySem.W.subIn K (.ref C_TimeError) (.type "BaseException") = some true)
    (ne_BadWorld_TimeError : (Value.ref C_BadWorld == Value.ref C_TimeError) = false)
    (i1_BadWorld : PySem.W.kitOne K (.ref C_BadWorld) (.ref C_TimeError) = some true)
    (i2_BadWorld : PySem.W.kitOne K (.ref C_BadWorld) (.ref C_BadWorld) = some true)
    (i3_BadWorld : PySem.W.kitOne K (.ref C_BadWorld) (.type "ValueError") = some true)
    (i4_BadWorld : PySem.W.kitAny K (.ref C_BadWorld) [.ref C_BadMachine, .ref C_BadSentence, .ref C_NoText, .ref C_NoWorld, .ref C_TooMany] = some false) :
    ∃ fd : FuncData, (∀ (s : Shared) (v : Value), BindsTo s fd ⟨[v], []⟩ [("_law_script", v)]) ∧ ∀ base : Heap, K.In base → base.Ns mainGlobals mg → FnOk l.prog w K mg base CX0 9 fa fd ["_law_script"] (spL K) := by
  have e := hfa.symm.trans (PySem.W.mg_of X G a25)
  cases e
  have T : Txt K mg { _wall := f0, _wall_fd := PySem.W.fnOf "_wall" "_wall" (defArgs s__wall) (defBody s__wall) (defScope s__wall) .none kV0 dc0 pm0 an0 cd0 ct0, is_whole := f1, is_whole_fd := PySem.W.fnOf "is_whole" "is_whole" (defArgs s_is_whole) (defBody s_is_whole) (defScope s_is_whole) .none kV1 dc1 pm1 an1 cd1 ct1, is_name := f2, is_name_fd := PySem.W.fnOf "is_name" "is_name" (defArgs s_is_name) (defBody s_is_name) (defScope s_is_name) .none kV2 dc2 pm2 an2 cd2 ct2, is_room := f3, is_room_fd := PySem.W.fnOf "is_room" "is_room" (defArgs s_is_room) (defBody s_is_room) (defScope s_is_room) .none kV3 dc3 pm3 an3 cd3 ct3, are_names := f4, are_names_fd := PySem.W.fnOf "are_names" "are_names" (defArgs s_are_names) (defBody s_are_names) (defScope s_are_names) .none kV4 dc4 pm4 an4 cd4 ct4, are_rooms := f5, are_rooms_fd := PySem.W.fnOf "are_rooms" "are_rooms" (defArgs s_are_rooms) (defBody s_are_rooms) (defScope s_are_rooms) .none kV5 dc5 pm5 an5 cd5 ct5, World_init := f6, World_init_fd := PySem.W.fnOf "__init__" "World.__init__" (defArgs s_World_init) (defBody s_World_init) (defScope s_World_init) .none kV6 dc6 pm6 an6 cd6 ct6, World_many := f7, World_many_fd := PySem.W.fnOf "many" "World.many" (defArgs s_World_many) (defBody s_World_many) (defScope s_World_many) .none kV7 dc7 pm7 an7 cd7 ct7, World_signs_of := f8, World_signs_of_fd := PySem.W.fnOf "signs_of" "World.signs_of" (defArgs s_World_signs_of) (defBody s_World_signs_of) (defScope s_World_signs_of) .none kV8 dc8 pm8 an8 cd8 ct8, World_ways_on := f9, World_ways_on_fd := PySem.W.fnOf "ways_on" "World.ways_on" (defArgs s_World_ways_on) (defBody s_World_ways_on) (defScope s_World_ways_on) .none kV9 dc9 pm9 an9 cd9 ct9, World_begins := f10, World_begins_fd := PySem.W.fnOf "begins" "World.begins" (defArgs s_World_begins) (defBody s_World_begins) (defScope s_World_begins) .none kV10 dc10 pm10 an10 cd10 ct10, World_fair_signs := f11, World_fair_signs_fd := PySem.W.fnOf "fair_signs" "World.fair_signs" (defArgs s_World_fair_signs) (defBody s_World_fair_signs) (defScope s_World_fair_signs) .none kV11 dc11 pm11 an11 cd11 ct11, makes_world := f12, makes_world_fd := PySem.W.fnOf "makes_world" "makes_world" (defArgs s_makes_world) (defBody s_makes_world) (defScope s_makes_world) .none kV12 dc12 pm12 an12 cd12 ct12, are_some_rooms := f13, are_some_rooms_fd := PySem.W.fnOf "are_some_rooms" "are_some_rooms" (defArgs s_are_some_rooms) (defBody s_are_some_rooms) (defScope s_are_some_rooms) .none kV13 dc13 pm13 an13 cd13 ct13, _law_cell_at := f14, _law_cell_at_fd := PySem.W.fnOf "_law_cell_at" "_law_cell_at" (defArgs s__law_cell_at) (defBody s__law_cell_at) (defScope s__law_cell_at) .none kV14 dc14 pm14 an14 cd14 ct14, _law_stream := f15, _law_stream_fd := PySem.W.fnOf "_law_stream" "_law_stream" (defArgs s__law_stream) (defBody s__law_stream) (defScope s__law_stream) .none kV15 dc15 pm15 an15 cd15 ct15, _law_draw := f16, _law_draw_fd := PySem.W.fnOf "_law_draw" "_law_draw" (defArgs s__law_draw) (defBody s__law_draw) (defScope s__law_draw) .none kV16 dc16 pm16 an16 cd16 ct16, _law_pool := f17, _law_pool_fd := PySem.W.fnOf "_law_pool" "_law_pool" (defArgs s__law_pool) (defBody s__law_pool) (defScope s__law_pool) .none kV17 dc17 pm17 an17 cd17 ct17, _law_some := f18, _law_some_fd := PySem.W.fnOf "_law_some" "_law_some" (defArgs s__law_some) (defBody s__law_some) (defScope s__law_some) .none kV18 dc18 pm18 an18 cd18 ct18, _law_parts := f19, _law_parts_fd := PySem.W.fnOf "_law_parts" "_law_parts" (defArgs s__law_parts) (defBody s__law_parts) (defScope s__law_parts) .none kV19 dc19 pm19 an19 cd19 ct19, _law_refused := f20, _law_refused_fd := PySem.W.fnOf "_law_refused" "_law_refused" (defArgs s__law_refused) (defBody s__law_refused) (defScope s__law_refused) .none kV20 dc20 pm20 an20 cd20 ct20, _law_put := f21, _law_put_fd := PySem.W.fnOf "_law_put" "_law_put" (defArgs s__law_put) (defBody s__law_put) (defScope s__law_put) .none kV21 dc21 pm21 an21 cd21 ct21, _law_bad_names := f22, _law_bad_names_fd := PySem.W.fnOf "_law_bad_names" "_law_bad_names" (defArgs s__law_bad_names) (defBody s__law_bad_names) (defScope s__law_bad_names) .none kV22 dc22 pm22 an22 cd22 ct22, _law_bad_rooms := f23, _law_bad_rooms_fd := PySem.W.fnOf "_law_bad_rooms" "_law_bad_rooms" (defArgs s__law_bad_rooms) (defBody s__law_bad_rooms) (defScope s__law_bad_rooms) .none kV23 dc23 pm23 an23 cd23 ct23, _law_spoilt := f24, _law_spoilt_fd := PySem.W.fnOf "_law_spoilt" "_law_spoilt" (defArgs s__law_spoilt) (defBody s__law_spoilt) (defScope s__law_spoilt) .none kV24 dc24 pm24 an24 cd24 ct24, law := fa, law_fd := PySem.W.fnOf "law" "law" (defArgs s_law) (defBody s_law) (defScope s_law) .none kV25 dc25 pm25 an25 cd25 ct25, C_TimeError := C_TimeError, C_BadWorld := C_BadWorld, C_BadSentence := C_BadSentence, C_BadMachine := C_BadMachine, C_TooMany := C_TooMany, C_NoText := C_NoText, C_NoWorld := C_NoWorld, C_World := C_World } := {
    f__wall := fun_mk (st := s__wall) l0 c0 k0,
    n__wall := (fun_mk (st := s__wall) l0 c0 k0).binds (ps := ["k"]) (fun _ _ _ _ _ _ us hl => match us, hl with | [_], _ => rfl),
    g__wall := PySem.W.mg_of X G a0,
    f_is_whole := fun_mk (st := s_is_whole) l1 c1 k1,
    n_is_whole := (fun_mk (st := s_is_whole) l1 c1 k1).binds (ps := ["thing"]) (fun _ _ _ _ _ _ us hl => match us, hl with | [_], _ => rfl),
    g_is_whole := PySem.W.mg_of X G a1,
    f_is_name := fun_mk (st := s_is_name) l2 c2 k2,
    n_is_name := (fun_mk (st := s_is_name) l2 c2 k2).binds (ps := ["thing"]) (fun _ _ _ _ _ _ us hl => match us, hl with | [_], _ => rfl),
    g_is_name := PySem.W.mg_of X G a2,
    f_is_room := fun_mk (st := s_is_room) l3 c3 k3,
    n_is_room := (fun_mk (st := s_is_room) l3 c3 k3).binds (ps := ["thing", "many"]) (fun _ _ _ _ _ _ us hl => match us, hl with | [_, _], _ => rfl),
    g_is_room := PySem.W.mg_of X G a3,
    f_are_names := fun_mk (st := s_are_names) l4 c4 k4,
    n_are_names := (fun_mk (st := s_are_names) l4 c4 k4).binds (ps := ["thing"]) (fun _ _ _ _ _ _ us hl => match us, hl with | [_], _ => rfl),
    g_are_names := PySem.W.mg_of X G a4,
    f_are_rooms := fun_mk (st := s_are_rooms) l5 c5 k5,
    n_are_rooms := (fun_mk (st := s_are_rooms) l5 c5 k5).binds (ps := ["thing", "many"]) (fun _ _ _ _ _ _ us hl => match us, hl with | [_, _], _ => rfl),
    g_are_rooms := PySem.W.mg_of X G a5,
    f_World_init := fun_mk (st := s_World_init) l6 c6 k6,
    n_World_init := (fun_mk (st := s_World_init) l6 c6 k6).binds (ps := ["self", "signs", "ways", "starts", "fair"]) (fun _ _ _ _ _ _ us hl => match us, hl with | [_, _, _, _, _], _ => rfl),
    m_World_init := ⟨a6, i6, k6⟩,
    f_World_many := fun_mk (st := s_World_many) l7 c7 k7,
    n_World_many := (fun_mk (st := s_World_many) l7 c7 k7).binds (ps := ["self"]) (fun _ _ _ _ _ _ us hl => match us, hl with | [_], _ => rfl),
    m_World_many := ⟨a7, i7, k7⟩,
    f_World_signs_of := fun_mk (st := s_World_signs_of) l8 c8 k8,
    n_World_signs_of := (fun_mk (st := s_World_signs_of) l8 c8 k8).binds (ps := ["self", "room"]) (fun _ _ _ _ _ _ us hl => match us, hl with | [_, _], _ => rfl),
    m_World_signs_of := ⟨a8, i8, k8⟩,
    f_World_ways_on := fun_mk (st := s_World_ways_on) l9 c9 k9,
    n_World_ways_on := (fun_mk (st := s_World_ways_on) l9 c9 k9).binds (ps := ["self", "room"]) (fun _ _ _ _ _ _ us hl => match us, hl with | [_, _], _ => rfl),
    m_World_ways_on := ⟨a9, i9, k9⟩,
    f_World_begins := fun_mk (st := s_World_begins) l10 c10 k10,
    n_World_begins := (fun_mk (st := s_World_begins) l10 c10 k10).binds (ps := ["self"]) (fun _ _ _ _ _ _ us hl => match us, hl with | [_], _ => rfl),
    m_World_begins := ⟨a10, i10, k10⟩,
    f_World_fair_signs := fun_mk (st := s_World_fair_signs) l11 c11 k11,
    n_World_fair_signs := (fun_mk (st := s_World_fair_signs) l11 c11 k11).binds (ps := ["self"]) (fun _ _ _ _ _ _ us hl => match us, hl with | [_], _ => rfl),
    m_World_fair_signs := ⟨a11, i11, k11⟩,
    f_makes_world := fun_mk (st := s_makes_world) l12 c12 k12,
    n_makes_world := (fun_mk (st := s_makes_world) l12 c12 k12).binds (ps := ["signs", "ways", "starts", "fair"]) (fun _ _ _ _ _ _ us hl => match us, hl with | [_, _, _, _], _ => rfl),
    g_makes_world := PySem.W.mg_of X G a12,
    f_are_some_rooms := fun_mk (st := s_are_some_rooms) l13 c13 k13,
    n_are_some_rooms := (fun_mk (st := s_are_some_rooms) l13 c13 k13).binds (ps := ["thing", "many"]) (fun _ _ _ _ _ _ us hl => match us, hl with | [_, _], _ => rfl),
    g_are_some_rooms := PySem.W.mg_of X G a13,
    f__law_cell_at := fun_mk (st := s__law_cell_at) l14 c14 k14,
    n__law_cell_at := (fun_mk (st := s__law_cell_at) l14 c14 k14).binds (ps := ["_law_script", "_law_k"]) (fun _ _ _ _ _ _ us hl => match us, hl with | [_, _], _ => rfl),
    g__law_cell_at := PySem.W.mg_of X G a14,
    f__law_stream := fun_mk (st := s__law_stream) l15 c15 k15,
    n__law_stream := (fun_mk (st := s__law_stream) l15 c15 k15).binds (ps := ["_law_cell", "_law_many"]) (fun _ _ _ _ _ _ us hl => match us, hl with | [_, _], _ => rfl),
    g__law_stream := PySem.W.mg_of X G a15,
    f__law_draw := fun_mk (st := s__law_draw) l16 c16 k16,
    n__law_draw := (fun_mk (st := s__law_draw) l16 c16 k16).binds (ps := ["_law_xs"]) (fun _ _ _ _ _ _ us hl => match us, hl with | [_], _ => rfl),
    g__law_draw := PySem.W.mg_of X G a16,
    f__law_pool := fun_mk (st := s__law_pool) l17 c17 k17,
    n__law_pool := (fun_mk (st := s__law_pool) l17 c17 k17).binds (ps := ["_law_xs"]) (fun _ _ _ _ _ _ us hl => match us, hl with | [_], _ => rfl),
    g__law_pool := PySem.W.mg_of X G a17,
    f__law_some := fun_mk (st := s__law_some) l18 c18 k18,
    n__law_some := (fun_mk (st := s__law_some) l18 c18 k18).binds (ps := ["_law_xs", "_law_things", "_law_least"]) (fun _ _ _ _ _ _ us hl => match us, hl with | [_, _, _], _ => rfl),
    g__law_some := PySem.W.mg_of X G a18,
    f__law_parts := fun_mk (st := s__law_parts) l19 c19 k19,
    n__law_parts := (fun_mk (st := s__law_parts) l19 c19 k19).binds (ps := ["_law_xs", "_law_pool_here"]) (fun _ _ _ _ _ _ us hl => match us, hl with | [_, _], _ => rfl),
    g__law_parts := PySem.W.mg_of X G a19,
    f__law_refused := fun_mk (st := s__law_refused) l20 c20 k20,
    n__law_refused := (fun_mk (st := s__law_refused) l20 c20 k20).binds (ps := ["_law_parts_here"]) (fun _ _ _ _ _ _ us hl => match us, hl with | [_], _ => rfl),
    g__law_refused := PySem.W.mg_of X G a20,
    f__law_put := fun_mk (st := s__law_put) l21 c21 k21,
    n__law_put := (fun_mk (st := s__law_put) l21 c21 k21).binds (ps := ["_law_things", "_law_at", "_law_thing"]) (fun _ _ _ _ _ _ us hl => match us, hl with | [_, _, _], _ => rfl),
    g__law_put := PySem.W.mg_of X G a21,
    f__law_bad_names := fun_mk (st := s__law_bad_names) l22 c22 k22,
    n__law_bad_names := (fun_mk (st := s__law_bad_names) l22 c22 k22).binds (ps := ["_law_names"]) (fun _ _ _ _ _ _ us hl => match us, hl with | [_], _ => rfl),
    g__law_bad_names := PySem.W.mg_of X G a22,
    f__law_bad_rooms := fun_mk (st := s__law_bad_rooms) l23 c23 k23,
    n__law_bad_rooms := (fun_mk (st := s__law_bad_rooms) l23 c23 k23).binds (ps := ["_law_rooms", "_law_many"]) (fun _ _ _ _ _ _ us hl => match us, hl with | [_, _], _ => rfl),
    g__law_bad_rooms := PySem.W.mg_of X G a23,
    f__law_spoilt := fun_mk (st := s__law_spoilt) l24 c24 k24,
    n__law_spoilt := (fun_mk (st := s__law_spoilt) l24 c24 k24).binds (ps := ["_law_xs", "_law_parts_here"]) (fun _ _ _ _ _ _ us hl => match us, hl with | [_, _], _ => rfl),
    g__law_spoilt := PySem.W.mg_of X G a24,
    f_law := fun_mk (st := s_law) l25 c25 k25,
    n_law := (fun_mk (st := s_law) l25 c25 k25).binds (ps := ["_law_script"]) (fun _ _ _ _ _ _ us hl => match us, hl with | [_], _ => rfl),
    g_law := PySem.W.mg_of X G a25,
    b_ValueError := PySem.W.mg_none_of X G z_ValueError,
    b_all := PySem.W.mg_none_of X G z_all,
    b_len := PySem.W.mg_none_of X G z_len,
    b_range := PySem.W.mg_none_of X G z_range,
    b_list := PySem.W.mg_none_of X G z_list,
    b_isinstance := PySem.W.mg_none_of X G z_isinstance,
    b_int := PySem.W.mg_none_of X G z_int,
    b_tuple := PySem.W.mg_none_of X G z_tuple,
    b_bool := PySem.W.mg_none_of X G z_bool,
    b_str := PySem.W.mg_none_of X G z_str,
    b_set := PySem.W.mg_none_of X G z_set,
    b_sorted := PySem.W.mg_none_of X G z_sorted,
    b_enumerate := PySem.W.mg_none_of X G z_enumerate,
    c_LETTERS := ⟨_, PySem.W.mg_of X G x_LETTERS, ⟨_, rfl⟩⟩,
    c_MOST_LETTERS := ⟨_, PySem.W.mg_of X G x_MOST_LETTERS, ⟨_, rfl⟩⟩,
    c_MOST_ROOMS := ⟨_, PySem.W.mg_of X G x_MOST_ROOMS, ⟨_, rfl⟩⟩,
    c_MOST_FAIR := ⟨_, PySem.W.mg_of X G x_MOST_FAIR, ⟨_, rfl⟩⟩,
    cl_World := ⟨pg_World, hd_World, po_World, sa_World⟩,
    g_World := PySem.W.mg_of X G aC_World,
    mk_World := ⟨mk_World, a6, i6, kc_World⟩,
    t1_World := t1_World,
    t2_World := t2_World,
    t3_World := t3_World,
    t4_World := t4_World,
    ic_World := (by unfold PySem.W.kitOne; rw [if_pos (beq_self_eq_true _)]),
    na_World_room_signs := n_World_room_signs,
    na_World_room_ways := n_World_room_ways,
    na_World_start_rooms := n_World_start_rooms,
    na_World_fair_names := n_World_fair_names,
    g_TimeError := PySem.W.mg_of X G aC_TimeError,
    x_TimeError := xc_TimeError,
    g_BadWorld := PySem.W.mg_of X G aC_BadWorld,
    x_BadWorld := xc_BadWorld,
    g_BadSentence := PySem.W.mg_of X G aC_BadSentence,
    x_BadSentence := xc_BadSentence,
    g_BadMachine := PySem.W.mg_of X G aC_BadMachine,
    x_BadMachine := xc_BadMachine,
    g_TooMany := PySem.W.mg_of X G aC_TooMany,
    x_TooMany := xc_TooMany,
    g_NoText := PySem.W.mg_of X G aC_NoText,
    x_NoText := xc_NoText,
    g_NoWorld := PySem.W.mg_of X G aC_NoWorld,
    x_NoWorld := xc_NoWorld,
    k_BadWorld := ⟨xga_BadWorld, xgh_BadWorld, xob_BadWorld, xbe_BadWorld, xcl_BadWorld, xgt, xtk, xhd_BadWorld⟩,
    sb_TimeError := sb_TimeError,
    ne_BadWorld_TimeError := ne_BadWorld_TimeError,
    i1_BadWorld := i1_BadWorld,
    i2_BadWorld := i2_BadWorld,
    i3_BadWorld := i3_BadWorld,
    i4_BadWorld := i4_BadWorld }
  exact ⟨PySem.W.fnOf "law" "law" (defArgs s_law) (defBody s_law) (defScope s_law) .none kV25 dc25 pm25 an25 cd25 ct25, fun s v => .of_eq rfl, fun base _ _ => ok_law T⟩
theorem walk {l : PySem.W.OpenLaw} {q : Program} {loose : List Str} {XP : (Str → Option Value) → Heap → Prop} {YP : World → Heap → Prop} {d : DefRec} {K : Params → PySem.W.Frag} (hn : l.most = some 63) (hdf : d.params.defaults = [])
    (hY : ∀ (w : World) (h : Heap), YP w h → (K w.params).In h)
    (F : ∀ (w : World) (mg : Str → Option Value) (fa : Addr) (h : Heap), (K w.params).In h → h.Ns mainGlobals mg → mg d.name = some (.ref fa) →
      ∃ fd : FuncData, (∀ (s : Shared) (u : Value), BindsTo s fd ⟨[u], []⟩ [("_law_script", u)]) ∧ ∀ base : Heap, (K w.params).In base → base.Ns mainGlobals mg → FnOk l.prog w (K w.params) mg base CX0 9 fa fd ["_law_script"] (spL (K w.params))) :
    PySem.W.WalkO q loose XP YP l.row.toRowW d [] (fun f vs => PySem.call f vs) :=
  L2.walk_of (n := 63) (k := 9) (x := "_law_script") (CX := fun _ => CX0) (sp := fun w => spL (K w.params)) hn (by decide) hdf ⟨rfl, by decide, by decide⟩ hY F (fun _ _ a ns hl _ hS => ⟨a, ns, rfl, hS, hl, fun _ => rfl⟩) fun _ _ _ _ _ z => z
end KK
open PySem PySem.W PyProof.Rows
set_option maxRecDepth 100000 in
set_option maxHeartbeats 0 in
theorem PySem.Challenge.cw_timecourt_k02_what_makes_no_world_holds : PySem.Challenge.rw_timecourt_k02_what_makes_no_world.Holds := by
  w_on; o_law; k_head; (case hw => w_witness2)
  k_fill
  refine KK.walk (l := PySem.Challenge.rw_timecourt_k02_what_makes_no_world) rfl rfl (fun w h Y => PySem.W.kIn_of Y) ?F
  case F =>
    intro w mg fa h KX G hmg
    have hmg2 : mg "law" = some (.ref fa) := hmg
    clear hmg
    refine' KK.all_mk KX G hmg2 ?aC_World ?aC_TimeError ?aC_BadWorld ?aC_BadSentence ?aC_BadMachine ?aC_TooMany ?aC_NoText ?aC_NoWorld ?a0 ?l0 ?c0 ?k0 ?a1 ?l1 ?c1 ?k1 ?a2 ?l2 ?c2 ?k2 ?a3 ?l3 ?c3 ?k3 ?a4 ?l4 ?c4 ?k4 ?a5 ?l5 ?c5 ?k5 ?a6 ?i6 ?l6 ?c6 ?k6 ?a7 ?i7 ?l7 ?c7 ?k7 ?a8 ?i8 ?l8 ?c8 ?k8 ?a9 ?i9 ?l9 ?c9 ?k9 ?a10 ?i10 ?l10 ?c10 ?k10 ?a11 ?i11 ?l11 ?c11 ?k11 ?a12 ?l12 ?c12 ?k12 ?a13 ?l13 ?c13 ?k13 ?a14 ?l14 ?c14 ?k14 ?a15 ?l15 ?c15 ?k15 ?a16 ?l16 ?c16 ?k16 ?a17 ?l17 ?c17 ?k17 ?a18 ?l18 ?c18 ?k18 ?a19 ?l19 ?c19 ?k19 ?a20 ?l20 ?c20 ?k20 ?a21 ?l21 ?c21 ?k21 ?a22 ?l22 ?c22 ?k22 ?a23 ?l23 ?c23 ?k23 ?a24 ?l24 ?c24 ?k24 ?a25 ?l25 ?c25 ?k25 ?pg_World ?hd_World ?po_World ?sa_World ?mk_World ?kc_World ?t1_World ?t2_World ?t3_World ?t4_World ?n_World_room_signs ?n_World_room_ways ?n_World_start_rooms ?n_World_fair_names ?z_ValueError ?z_all ?z_len ?z_range ?z_list ?z_isinstance ?z_int ?z_tuple ?z_bool ?z_str ?z_set ?z_sorted ?z_enumerate ?x_LETTERS ?x_MOST_LETTERS ?x_MOST_ROOMS ?x_MOST_FAIR ?xc_TimeError ?xc_BadWorld ?xc_BadSentence ?xc_BadMachine ?xc_TooMany ?xc_NoText ?xc_NoWorld ?xgt ?xtk ?xga_BadWorld ?xgh_BadWorld ?xob_BadWorld ?xbe_BadWorld ?xcl_BadWorld ?xhd_BadWorld ?sb_TimeError ?ne_BadWorld_TimeError ?i1_BadWorld ?i2_BadWorld ?i3_BadWorld ?i4_BadWorld
    (case aC_World => k_is)
    (case aC_TimeError => k_is)
    (case aC_BadWorld => k_is)
    (case aC_BadSentence => k_is)
    (case aC_BadMachine => k_is)
    (case aC_TooMany => k_is)
    (case aC_NoText => k_is)
    (case aC_NoWorld => k_is)
    (case a0 => k_is)
    (case l0 => k_is)
    (case c0 => k_is)
    (case k0 => k_is)
    (case a1 => k_is)
    (case l1 => k_is)
    (case c1 => k_is)
    (case k1 => k_is)
    (case a2 => k_is)
    (case l2 => k_is)
    (case c2 => k_is)
    (case k2 => k_is)
    (case a3 => k_is)
    (case l3 => k_is)
    (case c3 => k_is)
    (case k3 => k_is)
    (case a4 => k_is)
    (case l4 => k_is)
    (case c4 => k_is)
    (case k4 => k_is)
    (case a5 => k_is)
    (case l5 => k_is)
    (case c5 => k_is)
    (case k5 => k_is)
    (case a6 => k_is)
    (case i6 => k_is)
    (case l6 => k_is)
    (case c6 => k_is)
    (case k6 => k_is)
    (case a7 => k_is)
    (case i7 => k_is)
    (case l7 => k_is)
    (case c7 => k_is)
    (case k7 => k_is)
    (case a8 => k_is)
    (case i8 => k_is)
    (case l8 => k_is)
    (case c8 => k_is)
    (case k8 => k_is)
    (case a9 => k_is)
    (case i9 => k_is)
    (case l9 => k_is)
    (case c9 => k_is)
    (case k9 => k_is)
    (case a10 => k_is)
    (case i10 => k_is)
    (case l10 => k_is)
    (case c10 => k_is)
    (case k10 => k_is)
    (case a11 => k_is)
    (case i11 => k_is)
    (case l11 => k_is)
    (case c11 => k_is)
    (case k11 => k_is)
    (case a12 => k_is)
    (case l12 => k_is)
    (case c12 => k_is)
    (case k12 => k_is)
    (case a13 => k_is)
    (case l13 => k_is)
    (case c13 => k_is)
    (case k13 => k_is)
    (case a14 => k_is)
    (case l14 => k_is)
    (case c14 => k_is)
    (case k14 => k_is)
    (case a15 => k_is)
    (case l15 => k_is)
    (case c15 => k_is)
    (case k15 => k_is)
    (case a16 => k_is)
    (case l16 => k_is)
    (case c16 => k_is)
    (case k16 => k_is)
    (case a17 => k_is)
    (case l17 => k_is)
    (case c17 => k_is)
    (case k17 => k_is)
    (case a18 => k_is)
    (case l18 => k_is)
    (case c18 => k_is)
    (case k18 => k_is)
    (case a19 => k_is)
    (case l19 => k_is)
    (case c19 => k_is)
    (case k19 => k_is)
    (case a20 => k_is)
    (case l20 => k_is)
    (case c20 => k_is)
    (case k20 => k_is)
    (case a21 => k_is)
    (case l21 => k_is)
    (case c21 => k_is)
    (case k21 => k_is)
    (case a22 => k_is)
    (case l22 => k_is)
    (case c22 => k_is)
    (case k22 => k_is)
    (case a23 => k_is)
    (case l23 => k_is)
    (case c23 => k_is)
    (case k23 => k_is)
    (case a24 => k_is)
    (case l24 => k_is)
    (case c24 => k_is)
    (case k24 => k_is)
    (case a25 => k_is)
    (case l25 => k_is)
    (case c25 => k_is)
    (case k25 => k_is)
    (case pg_World => k_is)
    (case hd_World => k_is)
    (case po_World => k_is)
    (case sa_World => k_is)
    (case mk_World => k_is)
    (case kc_World => k_is)
    (case t1_World => k_is)
    (case t2_World => k_is)
    (case t3_World => k_is)
    (case t4_World => k_is)
    (case n_World_room_signs => k_is)
    (case n_World_room_ways => k_is)
    (case n_World_start_rooms => k_is)
    (case n_World_fair_names => k_is)
    (case z_ValueError => k_is)
    (case z_all => k_is)
    (case z_len => k_is)
    (case z_range => k_is)
    (case z_list => k_is)
    (case z_isinstance => k_is)
    (case z_int => k_is)
    (case z_tuple => k_is)
    (case z_bool => k_is)
    (case z_str => k_is)
    (case z_set => k_is)
    (case z_sorted => k_is)
    (case z_enumerate => k_is)
    (case x_LETTERS => k_is)
    (case x_MOST_LETTERS => k_is)
    (case x_MOST_ROOMS => k_is)
    (case x_MOST_FAIR => k_is)
    (case xc_TimeError => k_exc)
    (case xc_BadWorld => k_exc)
    (case xc_BadSentence => k_exc)
    (case xc_BadMachine => k_exc)
    (case xc_TooMany => k_exc)
    (case xc_NoText => k_exc)
    (case xc_NoWorld => k_exc)
    (case xgt => k_is)
    (case xtk => k_is)
    (case xga_BadWorld => k_is)
    (case xgh_BadWorld => k_is)
    (case xob_BadWorld => k_is)
    (case xbe_BadWorld => k_is)
    (case xcl_BadWorld => k_is)
    (case xhd_BadWorld => k_is)
    (case sb_TimeError => k_is)
    (case ne_BadWorld_TimeError => rfl)
    (case i1_BadWorld => kit_is)
    (case i2_BadWorld => kit_is)
    (case i3_BadWorld => kit_is)
    (case i4_BadWorld => kit_is)
#print axioms PySem.Challenge.cw_timecourt_k02_what_makes_no_world_holds

