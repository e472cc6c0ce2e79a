import PyProof.Rows.All
import Wide.All
import OpenK.AllK
import Wide.FinOn
import Lean
import PyProof.EqAt
import PyProof.EqKinds
import PyProof.TupleCall
import KE.KRevIter
import PySem.Challenge.RW_timecourt_k14_parts_and_sizes
set_option Elab.async false
set_option linter.all false
set_option maxRecDepth 100000
/-! THE HAND LAYER, for ints, bools, texts, own classes, LISTS and tuples (index, slices, in, append, pop ..), calls, loops. Paste it whole ahead of your own text; what your proof does not reach may be deleted. -/
namespace L2
open PySem PySem.Spec PyProof.Rows

/-- a key: an int or a str -/
abbrev Key := Sum Int Str
def keyIs : Key → Value → Bool
  | .inl k, v => Value.isInt k v
  | .inr x, v => Value.isStrOf x v
def keyH (w : World) : Key → Int
  | .inl k => hashInt k
  | .inr x => hashStr w x
theorem keyIs_shape : ∀ {k : Key} {v : Value}, keyIs k v = true → (∃ i t, k = Sum.inl i ∧ v = Value.int i t) ∨ (∃ x t, k = Sum.inr x ∧ v = Value.str x t)
  | .inl i, v, h => by
    obtain ⟨t, e⟩ := Value.isInt_shape (k := i) (v := v) h
    exact .inl ⟨i, t, rfl, e⟩
  | .inr x, v, h => by
    obtain ⟨t, e⟩ := Value.isStrOf_shape (x := x) (v := v) h
    exact .inr ⟨x, t, rfl, e⟩
theorem keyIs_int (i : Int) (t : Tok) : keyIs (.inl i) (.int i t) = true := by simp [keyIs, Value.isInt]
theorem keyIs_str (x : Str) (t : Tok) : keyIs (.inr x) (.str x t) = true := by simp [keyIs, Value.isStrOf]
theorem key_ll (a b : Int) : decide ((Sum.inl a : Key) = Sum.inl b) = (a == b) := by
  by_cases e : a = b
  · subst e; simp
  · have h : ¬ (Sum.inl a : Key) = Sum.inl b := fun q => e (Sum.inl.inj q)
    rw [decide_eq_false h]
    exact (beq_eq_false_iff_ne.mpr e).symm
theorem key_rr (a b : Str) : decide ((Sum.inr a : Key) = Sum.inr b) = decide (a = b) := by
  by_cases e : a = b
  · subst e; simp
  · have h : ¬ (Sum.inr a : Key) = Sum.inr b := fun q => e (Sum.inr.inj q)
    rw [decide_eq_false h, decide_eq_false e]
theorem key_lr (a : Int) (b : Str) : decide ((Sum.inl a : Key) = Sum.inr b) = false := decide_eq_false (fun q => nomatch q)
theorem key_rl (a : Str) (b : Int) : decide ((Sum.inr a : Key) = Sum.inl b) = false := decide_eq_false (fun q => nomatch q)

def mixKind (prog : Program) (w : World) : PySem.KeyKind prog w Key where
  is := keyIs
  hash := keyH w
  inj := fun v a b ha hb => by
    rcases keyIs_shape ha with ⟨i, t, rfl, rfl⟩ | ⟨x, t, rfl, rfl⟩
    · rcases keyIs_shape hb with ⟨j, u, rfl, e⟩ | ⟨y, u, rfl, e⟩
      · injection e with e1 _; rw [e1]
      · exact nomatch e
    · rcases keyIs_shape hb with ⟨j, u, rfl, e⟩ | ⟨y, u, rfl, e⟩
      · exact nomatch e
      · injection e with e1 _; rw [e1]
  byValue := fun k v h => by
    rcases keyIs_shape h with ⟨i, t, rfl, rfl⟩ | ⟨x, t, rfl, rfl⟩ <;> rfl
  pyHash := fun hv h => by
    rcases keyIs_shape hv with ⟨i, t, rfl, rfl⟩ | ⟨x, t, rfl, rfl⟩
    · exact wpAny_pyHash_int h
    · exact wpAny_pyHash_str h
  eqBool := fun hu hv h => by
    rcases keyIs_shape hu with ⟨i, t, rfl, rfl⟩ | ⟨x, t, rfl, rfl⟩
    · rcases keyIs_shape hv with ⟨j, u, rfl, rfl⟩ | ⟨y, u, rfl, rfl⟩
      · rw [key_ll] at h; exact wpAny_eqBool_int h
      · rw [key_lr] at h; exact SeqAt.EqAt.int_str i t y u _ _ _ _ h
    · rcases keyIs_shape hv with ⟨j, u, rfl, rfl⟩ | ⟨y, u, rfl, rfl⟩
      · rw [key_rl] at h; exact SeqAt.EqAt.str_int x t j u _ _ _ _ h
      · rw [key_rr] at h; exact wpAny_eqBool_str h
  «strs» := fun k x t v h => by
    rcases keyIs_shape h with ⟨i, u, rfl, e⟩ | ⟨y, u, rfl, e⟩
    · exact nomatch e
    · injection e with e1 _
      subst e1
      cases v <;> rfl

theorem mixKind_int (prog : Program) (w : World) (i : Int) (t : Tok) : (mixKind prog w).is (.inl i) (.int i t) = true := keyIs_int i t
theorem mixKind_str (prog : Program) (w : World) (x : Str) (t : Tok) : (mixKind prog w).is (.inr x) (.str x t) = true := keyIs_str x t
end L2

namespace L2
open PySem PySem.Spec PyProof.Rows

/-- a value, without the heap -/
inductive V where
  | non | bl (b : Bool) | int (i : Int) | str (x : Str) | byt (b : Array UInt8) | flt (b : UInt64) | ref (a : Addr) | ty (n : String)
  deriving DecidableEq

def RelV : V → Value → Prop
  | .non, u => u = Value.none
  | .bl b, u => u = Value.bool b
  | .int i, u => ∃ t, u = Value.int i t
  | .str x, u => ∃ t, u = Value.str x t
  | .byt b, u => ∃ t, u = Value.bytes b t
  | .flt b, u => ∃ t, u = Value.float b t
  | .ref a, u => u = Value.ref a
  | .ty n, u => u = Value.type n

abbrev Vals : List V → List Value → Prop := Paired RelV
theorem Vals.length {xs : List V} {us : List Value} (r : Vals xs us) : xs.length = us.length := Paired.length r
theorem Vals.get : ∀ {xs : List V} {us : List Value} {i : Nat} {x : V}, Vals xs us → xs[i]? = some x → ∃ u, us[i]? = some u ∧ RelV x u
  | _, _, _, _, .nil, e => by simp at e
  | _, _, 0, _, .cons r _, e => by simp at e; subst e; exact ⟨_, rfl, r⟩
  | _, _, i + 1, x, .cons _ t, e => by
    obtain ⟨u, h1, h2⟩ := Vals.get (i := i) (x := x) t (by simpa using e)
    exact ⟨u, by simpa using h1, h2⟩
theorem Vals.set {x : V} {u : Value} (r : RelV x u) : ∀ {xs : List V} {us : List Value} (i : Nat), Vals xs us → Vals (xs.set i x) (us.set i u)
  | _, _, _, .nil => .nil
  | _, _, 0, .cons _ t => .cons r t
  | _, _, i + 1, .cons q t => .cons q (Vals.set r i t)
theorem Vals.append : ∀ {xs ys : List V} {us ws : List Value}, Vals xs us → Vals ys ws → Vals (xs ++ ys) (us ++ ws)
  | _, _, _, _, .nil, s => s
  | _, _, _, _, .cons r t, s => .cons r (Vals.append t s)
theorem Vals.take : ∀ {xs : List V} {us : List Value} (n : Nat), Vals xs us → Vals (xs.take n) (us.take n)
  | _, _, 0, _ => .nil
  | _, _, _ + 1, .nil => .nil
  | _, _, n + 1, .cons r t => .cons r (Vals.take n t)
theorem Vals.drop : ∀ {xs : List V} {us : List Value} (n : Nat), Vals xs us → Vals (xs.drop n) (us.drop n)
  | _, _, 0, r => r
  | _, _, _ + 1, .nil => .nil
  | _, _, n + 1, .cons _ t => Vals.drop n t
theorem Vals.none_of : ∀ {xs : List V} {us : List Value} {i : Nat}, Vals xs us → xs[i]? = none → us[i]? = none := fun {xs us i} r e => by
  have h1 := r.length
  have h2 : xs.length ≤ i := List.getElem?_eq_none_iff.mp e
  exact List.getElem?_eq_none_iff.mpr (by omega)

def RelO : Option V → Option Value → Prop
  | some v, some u => RelV v u
  | none, none => True
  | _, _ => False
def KV {κ : Type} : List (κ × V) → List (κ × Value) → Prop := Paired fun (p : κ × V) (q : κ × Value) => p.1 = q.1 ∧ RelV p.2 q.2

/-- a key of a dict (00_mix): an int or a text -/
def kV : Key → V
  | .inl i => .int i
  | .inr x => .str x

/-- what stands at a tracked address -/
inductive HO where
  /-- a list -/
  | lst (xs : List V)
  /-- a tuple (never changes) -/
  | tup (xs : List V)
  /-- a dict whose keys are ints and texts; one whose keys are tuples of ints and texts (the empty one is both) -/
  | dK (kvs : List (Key × V)) | dT (kvs : List (List Key × V))
  /-- a set of ints: its members, its size -/
  | set (S : Int → Bool) (n : Nat)
  /-- an instance of the class at C, its dict at dx, its attributes -/
  | ins (C dx : Addr) (fs : List (Str × V))
  /-- the dict of the instance at x -/
  | own (x : Addr)
  /-- the dict of an exception -/
  | xd (fs : List (Str × V))
  /-- a bound method, f of x -/
  | met (f x : Addr)
  /-- a range object lo, lo + 1, .. below hi -/
  | rng (lo hi : Int)
  /-- a thing that is known to the object (the script; a dict while a loop walks it): read, never written while it is so -/
  | frz (o : Obj) (u : HO)
  /-- a code object's table -/
  | tbl (ps : Array Value)
  /-- any other thing, by what is true of its one object (a def of one's own: SetO a S n := HO.ext fun h => ..) -/
  | ext (φ : Heap → Prop)

abbrev Hp := Addr → Option HO
def upd (H : Hp) (a : Addr) (o : HO) : Hp := fun b => if b = a then some o else H b
theorem upd_same {H : Hp} {a : Addr} {o : HO} : upd H a o a = some o := by unfold upd; rw [if_pos rfl]
theorem upd_ne {H : Hp} {a b : Addr} {o : HO} (h : b ≠ a) : upd H a o b = H b := by unfold upd; rw [if_neg h]
/-- two objects of different content stand apart -/
theorem ne_of {H : Hp} {a b : Addr} {o u : HO} (h : H a = some o) (h' : H b = some u) (d : o ≠ u) : a ≠ b := by
  intro e; subst e; rw [h] at h'; exact d (Option.some.inj h')
theorem ne_of_none {H : Hp} {a b : Addr} {o : HO} (h : H a = some o) (h' : H b = none) : a ≠ b := by
  intro e; subst e; rw [h] at h'; cases h'

section
variable (P : Program) (w : World)
def ObjOk (H : Hp) (h : Heap) (a : Addr) : HO → Prop
  | .lst xs => xs.length ≤ sizeLine ∧ ∃ (its : List Value) (n : Nat), Vals xs its ∧ h.get? a = some { cls := .type "list", data := .seq its.toArray n }
  | .tup xs => xs.length ≤ sizeLine ∧ ∃ its : List Value, Vals xs its ∧ IsTup h a its.toArray
  | .dK kvs => kvs.length ≤ sizeLine ∧ (a == sysModules) = false ∧ ∃ vs, KV kvs vs ∧ h.DictOf (mixKind P w) a vs
  | .dT kvs => kvs.length ≤ sizeLine ∧ (a == sysModules) = false ∧ ∃ xs : List (List Key × Addr × Value),
      Paired (fun (p : List Key × V) (q : List Key × Addr × Value) => p.1 = q.1 ∧ H q.2.1 = some (.tup (p.1.map kV)) ∧ RelV p.2 q.2.2) kvs xs ∧
      ∃ o es ep, h.get? a = some o ∧ o.ExactDict ∧ o.data = .dict es ep ∧ es.toList = xs.map (entryOfKey (tupleKind (mixKind P w))) ∧ (xs.map (·.1)).Nodup
  | .set S n => h.SetOf (intKind P w) a S n
  | .ins C dx fs => H dx = some (.own a) ∧ fs.length ≤ 1000 ∧ dx ≠ a ∧ h.get? a = some (PySem.W.instObj C dx) ∧
      ∃ mA, h.Ns1 dx mA ∧ (∀ f, RelO (fs.lookup f) (mA f)) ∧ PySem.Within mA (fs.map (·.1))
  | .own _ => ∃ o, h.get? a = some o
  | .xd fs => ∃ mA, h.Ns1 a mA ∧ ∀ f, RelO (fs.lookup f) (mA f)
  | .rng lo hi => ∃ t u v, h.get? a = some { cls := .type "range", data := .fields #[.int lo t, .int hi u, .int 1 v] }
  | .frz o u => h.get? a = some o ∧ ObjOk H h a u
  | .tbl ps => h.get? a = some { cls := .none, data := .fields ps }
  | .met f x => h.get? a = some (PySem.W.methodObj (.ref f) (.ref x))
  | .ext φ => φ h ∧ (∃ o, h.get? a = some o) ∧ ∀ h1 h2 : Heap, φ h1 → (∀ o, h1.get? a = some o → h2.get? a = some o) → φ h2
/-- the abstract heap is held -/
def HOk (H : Hp) (h : Heap) : Prop := ∀ a o, H a = some o → ObjOk P w H h a o
end

section
variable {P : Program} {w : World} {H H' : Hp} {h h' : Heap} {a : Addr} {o : HO}
theorem ObjOk.lt (x : ObjOk P w H h a o) : a < h.objs.size := by
  cases o with
  | lst xs => obtain ⟨_, _, _, _, e⟩ := x; exact Heap.lt_size e
  | tup xs => obtain ⟨_, _, _, p⟩ := x; exact p.lt
  | dK kvs => obtain ⟨_, _, _, _, o, _, _, e, _⟩ := x; exact Heap.lt_size e
  | dT kvs => obtain ⟨_, _, _, _, o, _, _, e, _⟩ := x; exact Heap.lt_size e
  | set S n => obtain ⟨o, _, _, _, e, _⟩ := x; exact Heap.lt_size e
  | ins C dx fs => obtain ⟨_, _, _, e, _⟩ := x; exact Heap.lt_size e
  | own y => obtain ⟨_, e⟩ := x; exact Heap.lt_size e
  | xd fs => obtain ⟨_, ⟨_, _, _, e, _⟩, _⟩ := x; exact Heap.lt_size e
  | rng lo hi => obtain ⟨_, _, _, e⟩ := x; exact Heap.lt_size e
  | frz ob u => obtain ⟨e, _⟩ := x; exact Heap.lt_size e
  | tbl ps => exact Heap.lt_size (show h.get? a = some _ from x)
  | met f y => exact Heap.lt_size (show h.get? a = some _ from x)
  | ext φ => obtain ⟨_, ⟨_, e⟩, _⟩ := x; exact Heap.lt_size e
theorem Paired.mapP {α β : Type} {F G : α → β → Prop} : ∀ {l₁ : List α} {l₂ : List β}, Paired F l₁ l₂ → (∀ a b, F a b → G a b) → Paired G l₁ l₂
  | _, _, .nil, _ => .nil
  | _, _, .cons r t, f => .cons (f _ _ r) (Paired.mapP t f)
/-- what an object's description leans on: its own object, its own dict, the tuples -/
theorem ObjOk.stay (x : ObjOk P w H h a o) (k : ∀ b u, (b = a ∨ H b = some (.own a)) → h.get? b = some u → h'.get? b = some u)
    (ho : ∀ b, H b = some (.own a) → H' b = some (.own a)) (ht : ∀ b xs, H b = some (.tup xs) → H' b = some (.tup xs)) : ObjOk P w H' h' a o := by
  induction o with
  | lst xs => obtain ⟨z, its, n, r, e⟩ := x; exact ⟨z, its, n, r, k _ _ (.inl rfl) e⟩
  | tup xs => obtain ⟨z, its, r, ob, e, c⟩ := x; exact ⟨z, its, r, ob, k _ _ (.inl rfl) e, c⟩
  | dK kvs => obtain ⟨z, y, vs, r, ob, es, ep, e, c⟩ := x; exact ⟨z, y, vs, r, ob, es, ep, k _ _ (.inl rfl) e, c⟩
  | dT kvs =>
    obtain ⟨z, y, xs, r, ob, es, ep, e, c⟩ := x
    exact ⟨z, y, xs, Paired.mapP r fun p q z => ⟨z.1, ht _ _ z.2.1, z.2.2⟩, ob, es, ep, k _ _ (.inl rfl) e, c⟩
  | set S n => obtain ⟨ob, es, ep, t, e, c⟩ := x; exact ⟨ob, es, ep, t, k _ _ (.inl rfl) e, c⟩
  | ins C dx fs =>
    obtain ⟨d, z, ne, e, mA, ⟨od, es, ep, e2, c⟩, r⟩ := x
    exact ⟨ho _ d, z, ne, k _ _ (.inl rfl) e, mA, ⟨od, es, ep, k _ _ (.inr d) e2, c⟩, r⟩
  | own y => obtain ⟨ob, e⟩ := x; exact ⟨ob, k _ _ (.inl rfl) e⟩
  | xd fs => obtain ⟨mA, ⟨od, es, ep, e, c⟩, r⟩ := x; exact ⟨mA, ⟨od, es, ep, k _ _ (.inl rfl) e, c⟩, r⟩
  | rng lo hi => obtain ⟨t, u, v, e⟩ := x; exact ⟨t, u, v, k _ _ (.inl rfl) e⟩
  | frz ob u ih => obtain ⟨e, q⟩ := x; exact ⟨k _ _ (.inl rfl) e, ih q⟩
  | tbl ps =>
    have e : h.get? a = some { cls := .none, data := .fields ps } := x
    show h'.get? a = some { cls := .none, data := .fields ps }
    exact k a _ (.inl rfl) e
  | met f y =>
    have e : h.get? a = some (PySem.W.methodObj (.ref f) (.ref y)) := x
    show h'.get? a = some (PySem.W.methodObj (.ref f) (.ref y))
    exact k a _ (.inl rfl) e
  | ext φ => obtain ⟨p, ⟨o, e⟩, st⟩ := x; exact ⟨st _ _ p fun o q => k _ _ (.inl rfl) q, ⟨o, k _ _ (.inl rfl) e⟩, st⟩
theorem HOk.lt (x : HOk P w H h) (e : H a = some o) : a < h.objs.size := (x a o e).lt
theorem HOk.fresh (x : HOk P w H h) (e : h.objs.size ≤ a) : H a = none := by
  cases q : H a with
  | none => rfl
  | some u => exact absurd (Nat.lt_of_lt_of_le (x.lt q) e) (Nat.lt_irrefl _)
/-- every object of the heap is kept -/
theorem HOk.kept (x : HOk P w H h) (k : ∀ b u, h.get? b = some u → h'.get? b = some u) : HOk P w H h' := fun a o e =>
  (x a o e).stay (fun b u _ q => k b u q) (fun _ q => q) fun _ _ q => q
/-- a new object is laid and tracked -/
theorem HOk.laid (x : HOk P w H h) (k : ∀ b u, h.get? b = some u → h'.get? b = some u) (hp : h.objs.size ≤ a) (new : ObjOk P w (upd H a o) h' a o) : HOk P w (upd H a o) h' := fun b u e => by
  have hn := x.fresh hp
  by_cases hb : b = a
  · subst hb; rw [upd_same] at e; cases e; exact new
  · rw [upd_ne hb] at e
    exact (x b u e).stay (fun c v _ q => k c v q) (fun c q => by rw [upd_ne (ne_of_none q hn)]; exact q) fun c xs q => by rw [upd_ne (ne_of_none q hn)]; exact q
end

/-- what may be read as u: it is u, or a known u -/
def Rd (H : Hp) (a : Addr) (u : HO) : Prop := H a = some u ∨ ∃ o, H a = some (.frz o u)
theorem Rd.of {H : Hp} {a : Addr} {u : HO} (h : H a = some u) : Rd H a u := .inl h
theorem Rd.ok {P : Program} {w : World} {H : Hp} {h : Heap} {a : Addr} {u : HO} (r : Rd H a u) (x : HOk P w H h) : ObjOk P w H h a u := by
  rcases r with r | ⟨o, r⟩
  · exact x a u r
  · obtain ⟨_, q⟩ := x a _ r
    exact q
/-- what may be written -/
def Mut : Option HO → Prop
  | some (.lst _) => True
  | some (.dK _) => True
  | some (.dT _) => True
  | some (.set _ _) => True
  | some (.ins _ _ _) => True
  | some (.ext _) => True
  | _ => False
section
variable {P : Program} {w : World} {H : Hp} {h h' : Heap} {x e : Addr} {o' : HO}
/-- the object at e is changed: x itself, or the dict of the instance x -/
theorem HOk.write (ok : HOk P w H h) (mu : Mut (H x)) (he : e = x ∨ H e = some (.own x)) (k : ∀ b u, b ≠ e → h.get? b = some u → h'.get? b = some u) (heo : ∃ u, h'.get? e = some u)
    (new : ObjOk P w (upd H x o') h' x o') : HOk P w (upd H x o') h' := fun b u q => by
  have nown : ∀ c y, H c = some (.own y) → c ≠ x := fun c y r z => by subst z; rw [r] at mu; exact mu
  have ntup : ∀ c xs, H c = some (.tup xs) → c ≠ x := fun c xs r z => by subst z; rw [r] at mu; exact mu
  by_cases hb : b = x
  · subst hb; rw [upd_same] at q; cases q; exact new
  · rw [upd_ne hb] at q
    by_cases hbe : b = e
    · have q' : H b = some (.own x) := by
        rcases he with z | z
        · exact absurd (hbe.trans z) hb
        · rw [hbe]; exact z
      rw [q] at q'; cases q'
      obtain ⟨v, hv⟩ := heo
      exact ⟨v, by rw [hbe]; exact hv⟩
    · refine (ok b u q).stay (fun c v hc r => k c v ?_ r) (fun c r => by rw [upd_ne (nown c b r)]; exact r) fun c xs r => by rw [upd_ne (ntup c xs r)]; exact r
      rcases hc with rfl | hc
      · exact hbe
      · rintro rfl
        rcases he with z | z
        · exact nown c b hc z
        · rw [hc] at z; cases z; exact hb rfl
end

/-! ### kept unless tracked; of the frames at fs (the callers') the slots may change (an exception that passes writes there); of the records at ex (iterators) nothing is said -/
structure Un (fs ex : List Addr) (H H' : Hp) (h h' : Heap) : Prop where
  keep : ∀ b o, h.get? b = some o → H b = none → b ∉ fs → b ∉ ex → h'.get? b = some o
  slot : ∀ b o, h.get? b = some o → H b = none → b ∈ fs → b ∉ ex → ∃ sl, h'.get? b = some { o with slots := sl }
  free : ∀ b o, h.get? b = some o → H b = none → b ∉ ex → H' b = none
  there : ∀ b o, h.get? b = some o → b ∉ ex → ∃ o', h'.get? b = some o'
  tups : ∀ b xs, H b = some (.tup xs) → H' b = some (.tup xs)
  frzs : ∀ b o u, H b = some (.frz o u) → H' b = some (.frz o u)
  tbls : ∀ b ps, H b = some (.tbl ps) → ∃ more, H' b = some (.tbl (ps ++ more))
section
variable {fs fs' ex ex' : List Addr} {H H1 H2 : Hp} {h h1 h2 h' : Heap} {a x e : Addr} {o : HO}
theorem Un.any (u : Un fs ex H H1 h h1) {b : Addr} {ob : Obj} (q : h.get? b = some ob) (n : H b = none) (hx : b ∉ ex) : ∃ sl, h1.get? b = some { ob with slots := sl } := by
  by_cases hb : b ∈ fs
  · exact u.slot b ob q n hb hx
  · exact ⟨ob.slots, u.keep b ob q n hb hx⟩
theorem Un.trans (a : Un fs ex H H1 h h1) (b : Un fs ex H1 H2 h1 h2) : Un fs ex H H2 h h2 where
  keep := fun c ob q n hc hx => b.keep c ob (a.keep c ob q n hc hx) (a.free c ob q n hx) hc hx
  slot := fun c ob q n hc hx => by
    obtain ⟨sl, e1⟩ := a.slot c ob q n hc hx
    obtain ⟨sl', e2⟩ := b.slot c _ e1 (a.free c ob q n hx) hc hx
    exact ⟨sl', e2⟩
  free := fun c ob q n hx => by
    obtain ⟨o', e1⟩ := a.there c ob q hx
    exact b.free c o' e1 (a.free c ob q n hx) hx
  there := fun c ob q hx => by
    obtain ⟨o', e1⟩ := a.there c ob q hx
    exact b.there c o' e1 hx
  tups := fun c xs q => b.tups c xs (a.tups c xs q)
  frzs := fun c ob xs q => b.frzs c ob xs (a.frzs c ob xs q)
  tbls := fun c ps q => by
    obtain ⟨m1, e1⟩ := a.tbls c ps q
    obtain ⟨m2, e2⟩ := b.tbls c _ e1
    exact ⟨m1 ++ m2, by rw [e2, Array.append_assoc]⟩
theorem Un.kept (k : ∀ b u, h.get? b = some u → h'.get? b = some u) : Un fs ex H H h h' :=
  ⟨fun b ob q _ _ _ => k b ob q, fun b ob q _ _ _ => ⟨ob.slots, k b ob q⟩, fun _ _ _ n _ => n, fun b ob q _ => ⟨ob, k b ob q⟩, fun _ _ q => q, fun _ _ _ q => q, fun _ ps q => ⟨#[], by rw [q]; simp⟩⟩
theorem Un.refl : Un fs ex H H h h := Un.kept fun _ _ q => q
theorem Un.laid (k : ∀ b u, h.get? b = some u → h'.get? b = some u) (hp : h.objs.size ≤ a) (hn : H a = none) : Un fs ex H (upd H a o) h h' where
  keep := fun b u q _ _ _ => k b u q
  slot := fun b u q _ _ _ => ⟨u.slots, k b u q⟩
  free := fun b u q n _ => by rw [upd_ne (Nat.ne_of_lt (Nat.lt_of_lt_of_le (Heap.lt_size q) hp))]; exact n
  there := fun b u q _ => ⟨u, k b u q⟩
  tups := fun b xs q => by rw [upd_ne (ne_of_none q hn)]; exact q
  frzs := fun b u xs q => by rw [upd_ne (ne_of_none q hn)]; exact q
  tbls := fun b ps q => ⟨#[], by rw [upd_ne (ne_of_none q hn), q]; simp⟩
theorem Un.write (mu : Mut (H x)) (he : e = x ∨ H e = some (.own x)) (k : ∀ b u, b ≠ e → h.get? b = some u → h'.get? b = some u) (heo : ∃ u, h'.get? e = some u) : Un fs ex H (upd H x o) h h' := by
  have hx : ∀ b, H b = none → b ≠ x := fun b n z => by subst z; rw [n] at mu; exact mu
  have hb : ∀ b, H b = none → b ≠ e := fun b n z => by
    subst z
    rcases he with r | r
    · exact hx b n r
    · rw [n] at r; cases r
  have hm : ∀ b u, H b = some u → ¬ Mut (some u) → b ≠ x := fun b u q nm z => by subst z; rw [q] at mu; exact nm mu
  refine ⟨fun b u q n _ _ => k b u (hb b n) q, fun b u q n _ _ => ⟨u.slots, k b u (hb b n) q⟩, fun b u q n _ => by rw [upd_ne (hx b n)]; exact n, fun b u q _ => ?_,
    fun b xs q => by rw [upd_ne (hm b _ q fun z => z)]; exact q, fun b u xs q => by rw [upd_ne (hm b _ q fun z => z)]; exact q, fun b ps q => ⟨#[], by rw [upd_ne (hm b _ q fun z => z), q]; simp⟩⟩
  by_cases hbe : b = e
  · subst hbe; exact heo
  · exact ⟨u, k b u hbe q⟩
theorem Un.mono (u : Un fs ex H H1 h h1) (hs : ∀ b ∈ fs, b ∈ fs') (hx : ∀ b ∈ ex, b ∈ ex') : Un fs' ex' H H1 h h1 :=
  ⟨fun b ob q n hb he => u.keep b ob q n (fun z => hb (hs b z)) fun z => he (hx b z), fun _ _ q n _ he => u.any q n fun z => he (hx _ z), fun b ob q n he => u.free b ob q n fun z => he (hx b z), fun b ob q he => u.there b ob q fun z => he (hx b z), u.tups, u.frzs, u.tbls⟩
end

/-! ### the heap without what is tracked -/
def trk (h : Heap) (H : Hp) : List Addr := (List.range h.objs.size).filter fun a => (H a).isSome
def hidT (h : Heap) (H : Hp) : Heap := PySem.W.hideAll h (trk h H)
theorem hidT_size (h : Heap) (H : Hp) : (hidT h H).objs.size = h.objs.size := PySem.W.hideAll_size _ _
theorem hidT_get {h : Heap} {H : Hp} {b : Addr} {o : Obj} (e : h.get? b = some o) (n : H b = none) : (hidT h H).get? b = some o :=
  PySem.W.hideAll_get _ e fun hm => by
    have q : (H b).isSome = true := (List.mem_filter.mp hm).2
    rw [n] at q; simp at q
theorem of_hidT {h : Heap} {H : Hp} {b : Addr} {o : Obj} (e : (hidT h H).get? b = some o) : h.get? b = some o ∧ H b = none := by
  have e' : h.get? b = some o := PySem.W.of_hideAll (trk h H) e
  refine ⟨e', ?_⟩
  cases q : H b with
  | none => rfl
  | some x =>
    have hm : b ∈ trk h H := List.mem_filter.mpr ⟨List.mem_range.mpr (Heap.lt_size e'), by simp [q]⟩
    have z : (hidT h H).get? b = none := PySem.W.hideAll_none (trk h H) hm
    rw [z] at e; cases e

/-! ### OpenK's ledger, filled with every new object but one -/
def allNews (g h : Heap) (L : Addr) : List (Addr × Obj) := (List.range h.objs.size).filterMap fun a => if a = L ∨ (g.get? a).isSome = true then none else (h.get? a).map fun o => (a, o)
def rest (g h : Heap) (L d : Addr) : List (Addr × Obj) := (allNews g h L).filter fun p => decide (p.1 ≠ d)
end L2

namespace L2
open PySem PySem.Spec PyProof.Rows

/-- the module's facts, over the base: the heap at the law's entry without what is tracked there -/
structure Mod (K : PySem.W.Frag) (mg : Str → Option Value) (base : Heap) : Prop where
  kin : K.In base
  glob : base.Ns mainGlobals mg
  blt : ∃ mb, base.Ns builtinsNs mb ∧ ∀ x : Str, x ≠ "__name__" → mb x = bootBuiltins x
  nolimit : base.NoLimit

/-- the context: a def's body (or a comprehension's block) running. base: fixed through the whole law; s₀, H₀: the entry; outer: the frames whose slots others may change (a def's callers); stack: all frames that run;
   ex: iterators that were made ahead of the entry and are walked here (a comprehension's); fn: the names whose cells were made at the entry (a def: all; a comprehension's block: its own); calm: not within an except suite; pn: pins that every state bears; xe: what is wanted of an exception that leaves the code -/
structure Cx where
  prog : Program
  w : World
  K : PySem.W.Frag
  mg : Str → Option Value
  base : Heap
  A : Around
  N : List Str
  s₀ : Shared
  H₀ : Hp
  env : Env
  outer : List Env
  stack : List Env
  ex : List Addr
  fn : Str → Bool
  calm : Bool
  pn : List (Addr × Obj)
  xe : Value → Shared → Prop
/-- the callers' frames -/
def frs (l : List Env) : List Addr := l.filterMap (·.frame)
abbrev Cx.fs (X : Cx) : List Addr := frs X.outer

def Vis (sc : Scope) (x : Str) : Prop := sc.names.lookup x = some .local ∨ sc.names.lookup x = some .cell ∨ sc.names.lookup x = some .free
def Loc (sc : Scope) (x : Str) : Prop := sc.names.lookup x = some .local ∨ sc.names.lookup x = some .cell
def Look (env : Env) (h : Heap) (m : Str → Option Value) (x : Str) (u : Value) : Prop :=
  (env.kindOf x = some .local ∧ m x = some u) ∨ ((env.kindOf x = some .cell ∨ env.kindOf x = some .free) ∧ ∃ c, env.cells.lookup x = some c ∧ h.IsCell c (some u))

structure Cx.Ok (X : Cx) : Prop where
  mod : Mod X.K X.mg X.base
  kind : X.env.scope.kind = .function
  glob : X.env.globals = mainGlobals
  blt : X.env.builtins = builtinsNs
  above : X.s₀.heap.objs.size ≤ X.env.locals
  inj : ∀ x y c, X.env.cells.lookup x = some c → X.env.cells.lookup y = some c → x = y
  has : ∀ x, (X.env.kindOf x = some .cell ∨ X.env.kindOf x = some .free) → ∃ c, X.env.cells.lookup x = some c
  cab : ∀ x c, X.fn x = true → X.env.cells.lookup x = some c → X.s₀.heap.objs.size ≤ c
  hd : X.calm = true → X.A.handled = none
  frames : X.A.frames = some X.stack
  stk : X.stack = X.outer ∨ (X.stack = X.env :: X.outer ∧ X.env.frame = some X.env.locals)
  exf : ∀ b ∈ X.ex, b ≠ X.env.locals ∧ ∀ x c, X.env.cells.lookup x = some c → c ≠ b
  bs : ∀ b o, X.base.get? b = some o → X.s₀.heap.get? b = some o ∧ X.H₀ b = none
  bsz : X.base.objs.size ≤ X.s₀.heap.objs.size
  noex : ∀ b o, X.base.get? b = some o → b ∉ X.ex
  exfs : ∀ b ∈ X.ex, b ∉ X.fs
  funs : X.s₀.heap.FunFrames X.base X.outer
  frf : ∀ b ∈ X.fs, X.H₀ b = none

structure Inv (X : Cx) (pins : List (Addr × Obj)) (σ : List (Option V)) (H : Hp) (s : Shared) : Prop where
  ok : X.Ok
  os : s.os = X.s₀.os
  bare : AllBare s.gens
  base : Un X.fs X.ex X.H₀ H X.s₀.heap s.heap
  loc : ∃ m, s.heap.Ns X.env.locals m ∧ ∀ (i : Nat) (x : Str) (v : V), X.N[i]? = some x → σ[i]? = some (some v) → Vis X.env.scope x → ∃ u, RelV v u ∧ Look X.env s.heap m x u
  cell : ∀ x c, X.env.cells.lookup x = some c → ∃ v, s.heap.IsCell c v
  free : H X.env.locals = none
  freeC : ∀ x c, X.env.cells.lookup x = some c → H c = none
  pin : ∀ p ∈ X.pn ++ pins, s.heap.get? p.1 = some p.2 ∧ H p.1 = none ∧ p.1 ≠ X.env.locals ∧ p.1 ∉ X.fs ∧ ∀ v, p.2.data ≠ .cell v
  hok : HOk X.prog X.w H s.heap
  len : σ.length = X.N.length

section
variable {X : Cx} {pins : List (Addr × Obj)} {σ : List (Option V)} {H H' : Hp} {s : Shared} {h' : Heap}

theorem Cx.Ok.nofr (ok : X.Ok) {b : Addr} {o : Obj} (e : X.base.get? b = some o) : b ∉ X.fs := fun hb => by
  have := (ok.funs.mem hb).1
  rw [e] at this; cases this
theorem Inv.bs (I : Inv X pins σ H s) : ∀ b o, X.base.get? b = some o → s.heap.get? b = some o ∧ H b = none := fun b o e =>
  ⟨I.base.keep b o (I.ok.bs b o e).1 (I.ok.bs b o e).2 (I.ok.nofr e) (I.ok.noex b o e), I.base.free b o (I.ok.bs b o e).1 (I.ok.bs b o e).2 (I.ok.noex b o e)⟩
theorem Inv.bk (I : Inv X pins σ H s) : ∀ b o, X.base.get? b = some o → s.heap.get? b = some o := fun b o e => (I.bs b o e).1
theorem Inv.mod (I : Inv X pins σ H s) : Mod X.K X.mg X.base := I.ok.mod
theorem Inv.kIn (I : Inv X pins σ H s) : X.K.In s.heap := I.ok.mod.kin.keeps I.bk
theorem Inv.nolimit (I : Inv X pins σ H s) : s.heap.NoLimit := I.ok.mod.nolimit.keeps I.bk
/-- the frame over the base: for OpenK's rules (K.In X.base is I.mod.kin) -/
theorem Inv.fr (I : Inv X pins σ H s) : ∃ m, Fr X.base X.env.locals s.heap m :=
  let ⟨m, hn, _⟩ := I.loc
  ⟨m, hn, I.bk, Nat.le_trans I.ok.bsz I.ok.above⟩
theorem Inv.lt (I : Inv X pins σ H s) : X.env.locals < s.heap.objs.size := let ⟨_, hn, _⟩ := I.loc; hn.lt
theorem Inv.sz (I : Inv X pins σ H s) : X.s₀.heap.objs.size ≤ s.heap.objs.size := Nat.le_trans I.ok.above (Nat.le_of_lt I.lt)
theorem Inv.nofs (I : Inv X pins σ H s) {a : Addr} (h : s.heap.objs.size ≤ a) : a ∉ X.fs := fun hb => by
  obtain ⟨_, o, ho, _⟩ := I.ok.funs.mem hb
  exact absurd (Nat.lt_of_lt_of_le (Heap.lt_size ho) (Nat.le_trans I.sz h)) (Nat.lt_irrefl _)
theorem Inv.cne (I : Inv X pins σ H s) : ∀ x c, X.env.cells.lookup x = some c → c ≠ X.env.locals := fun x c e z => by
  obtain ⟨v, o, ho, hd⟩ := I.cell x c e
  obtain ⟨m, ⟨o', es, ep, ho', hd', _⟩, _⟩ := I.loc
  rw [z, ho'] at ho; cases ho; rw [hd'] at hd; cases hd
theorem Inv.funs (I : Inv X pins σ H s) : s.heap.FunFrames X.base X.outer := by
  have all : ∀ (l : List Env), (∀ b ∈ frs l, b ∈ X.fs) → X.s₀.heap.FunFrames X.base l → s.heap.FunFrames X.base l := by
    intro l
    induction l with
    | nil => intro _ _; trivial
    | cons env r ih =>
      intro hs hl
      obtain ⟨hk, ⟨L, o, hf, hn, ho, hd⟩, hr⟩ := hl
      have hL : L ∈ X.fs := hs L (by unfold frs; rw [List.filterMap_cons, hf]; exact List.mem_cons_self)
      obtain ⟨sl, e⟩ := I.base.slot L o ho (I.ok.frf L hL) hL fun z => I.ok.exfs L z hL
      exact ⟨hk, ⟨L, _, hf, hn, e, hd⟩, ih (fun b hb => hs b (by unfold frs; rw [List.filterMap_cons, hf]; exact List.mem_cons_of_mem _ hb)) hr⟩
  exact all X.outer (fun _ hb => hb) I.ok.funs

/-- the frames that run, for a call -/
theorem Inv.stack (I : Inv X pins σ H s) : s.heap.FunFrames X.base X.stack := by
  rcases I.ok.stk with e | ⟨e, hf⟩
  · rw [e]; exact I.funs
  · rw [e]
    obtain ⟨m, hn, _⟩ := I.loc
    refine .cons (by rw [I.ok.kind]; decide) hf hn ?_ I.funs
    exact Heap.get?_none_of_le (Nat.le_trans I.ok.bsz I.ok.above)
theorem Inv.stkSub (I : Inv X pins σ H s) : ∀ b ∈ frs X.stack, b ∈ X.env.locals :: X.fs := fun b hb => by
  rcases I.ok.stk with e | ⟨e, hf⟩
  · rw [e] at hb; exact List.mem_cons_of_mem _ hb
  · rw [e] at hb
    unfold frs at hb
    rw [List.filterMap_cons, hf] at hb
    exact hb
theorem Inv.stkFree (I : Inv X pins σ H s) : ∀ b ∈ frs X.stack, H b = none := fun b hb => by
  rcases List.mem_cons.mp (I.stkSub b hb) with e | hb
  · rw [e]; exact I.free
  · obtain ⟨_, o, ho, _⟩ := I.ok.funs.mem hb
    exact I.base.free b o ho (I.ok.frf b hb) fun z => I.ok.exfs b z hb

/-- THE STEP: the untracked objects but the frame and the records at ch are kept (the callers' frames up to slots), the frame's map is kept, the new abstract heap is held -/
theorem Inv.step {g' : Array GenState} {t' : Nat} {d' : Drawn} {ch : List Addr} (I : Inv X pins σ H s)
    (hch : ∀ b ∈ ch, (b ∈ X.ex ∨ X.s₀.heap.objs.size ≤ b) ∧ b ≠ X.env.locals ∧ (∀ x c, X.env.cells.lookup x = some c → c ≠ b) ∧ ∀ p ∈ X.pn ++ pins, p.1 ≠ b)
    (keep : ∀ b o, b ≠ X.env.locals → b ∉ X.fs → b ∉ ch → s.heap.get? b = some o → H b = none → h'.get? b = some o)
    (slot : ∀ b o, b ≠ X.env.locals → b ∈ X.fs → b ∉ ch → s.heap.get? b = some o → H b = none → ∃ sl, h'.get? b = some { o with slots := sl }) (free : ∀ b o, b ∉ ch → s.heap.get? b = some o → H b = none → H' b = none)
    (there : ∀ b o, b ∉ ch → s.heap.get? b = some o → ∃ o', h'.get? b = some o')
    (tups : ∀ b xs, H b = some (.tup xs) → H' b = some (.tup xs)) (frzs : ∀ b o u, H b = some (.frz o u) → H' b = some (.frz o u)) (tbls : ∀ b ps, H b = some (.tbl ps) → ∃ more, H' b = some (.tbl (ps ++ more)))
    (ns : ∀ m, s.heap.Ns X.env.locals m → h'.Ns X.env.locals m) (hok : HOk X.prog X.w H' h') (hg : AllBare g') :
    Inv X pins σ H' { s with heap := h', gens := g', drawn := d', toks := t' } := by
  have neL : ∀ b o, X.s₀.heap.get? b = some o → b ≠ X.env.locals := fun b o e => Nat.ne_of_lt (Nat.lt_of_lt_of_le (Heap.lt_size e) I.ok.above)
  have neC : ∀ b o, X.s₀.heap.get? b = some o → b ∉ X.ex → b ∉ ch := fun b o e hx hb => by
    rcases (hch b hb).1 with z | z
    · exact hx z
    · exact absurd (Nat.lt_of_lt_of_le (Heap.lt_size e) z) (Nat.lt_irrefl _)
  have cellK : ∀ x c, X.env.cells.lookup x = some c → ∀ v, s.heap.IsCell c v → h'.IsCell c v := fun x c e v ⟨o, ho, hd⟩ => by
    have nch : c ∉ ch := fun z => (hch c z).2.2.1 x c e rfl
    by_cases hc : c ∈ X.fs
    · obtain ⟨sl, q⟩ := slot c o (I.cne x c e) hc nch ho (I.freeC x c e)
      exact ⟨_, q, hd⟩
    · exact ⟨o, keep c o (I.cne x c e) hc nch ho (I.freeC x c e), hd⟩
  refine ⟨I.ok, I.os, hg, ⟨fun b o e n hb hx => ?_, fun b o e n hb hx => ?_, fun b o e n hx => ?_, fun b o e hx => ?_, fun b xs e => tups b xs (I.base.tups b xs e), fun b o xs e => frzs b o xs (I.base.frzs b o xs e), fun b ps e => ?_⟩, ?_, fun x c e => ?_, ?_, fun x c e => ?_, fun p hp => ?_, hok, I.len⟩
  · exact keep b o (neL b o e) hb (neC b o e hx) (I.base.keep b o e n hb hx) (I.base.free b o e n hx)
  · obtain ⟨sl, e1⟩ := I.base.slot b o e n hb hx
    obtain ⟨sl', e2⟩ := slot b _ (neL b o e) hb (neC b o e hx) e1 (I.base.free b o e n hx)
    exact ⟨sl', e2⟩
  · obtain ⟨o', e1⟩ := I.base.there b o e hx
    exact free b o' (neC b o e hx) e1 (I.base.free b o e n hx)
  · obtain ⟨o', e1⟩ := I.base.there b o e hx
    exact there b o' (neC b o e hx) e1
  · obtain ⟨m1, e1⟩ := I.base.tbls b ps e
    obtain ⟨m2, e2⟩ := tbls b _ e1
    exact ⟨m1 ++ m2, by rw [e2, Array.append_assoc]⟩
  · obtain ⟨m, hn, hl⟩ := I.loc
    refine ⟨m, ns m hn, fun i x v e1 e2 e3 => ?_⟩
    obtain ⟨u, r, l⟩ := hl i x v e1 e2 e3
    refine ⟨u, r, ?_⟩
    rcases l with l | ⟨k, c, e, z⟩
    · exact .inl l
    · exact .inr ⟨k, c, e, cellK x c e _ z⟩
  · obtain ⟨v, z⟩ := I.cell x c e
    exact ⟨v, cellK x c e v z⟩
  · obtain ⟨m, ⟨o, _, _, ho, _⟩, _⟩ := I.loc
    exact free _ o (fun z => (hch _ z).2.1 rfl) ho I.free
  · obtain ⟨v, o, ho, hd⟩ := I.cell x c e
    exact free c o (fun z => (hch c z).2.2.1 x c e rfl) ho (I.freeC x c e)
  · obtain ⟨e, n, ne, nf, d⟩ := I.pin p hp
    have nch : p.1 ∉ ch := fun z => (hch p.1 z).2.2.2 p hp rfl
    exact ⟨keep p.1 p.2 ne nf nch e n, free p.1 p.2 nch e n, ne, nf, d⟩
/-- .. where the frame's own object is kept too -/
theorem Inv.un {t' : Nat} (I : Inv X pins σ H s) (u : Un X.fs [] H H' s.heap h') (hok : HOk X.prog X.w H' h') : Inv X pins σ H' { s with heap := h', toks := t' } := by
  obtain ⟨m, ⟨o, es, ep, ho, r⟩, _⟩ := id I.loc
  obtain ⟨sl, hL⟩ := u.any ho I.free (by simp)
  exact I.step (g' := s.gens) (d' := s.drawn) (ch := []) (fun _ z => nomatch z) (fun b o _ hb _ e n => u.keep b o e n hb (by simp)) (fun b o _ hb _ e n => u.slot b o e n hb (by simp)) (fun b o _ e n => u.free b o e n (by simp)) (fun b o _ e => u.there b o e (by simp)) u.tups u.frzs u.tbls (fun m' hm => by
    obtain ⟨o', es', ep', ho', r'⟩ := hm
    rw [ho] at ho'; cases ho'
    exact ⟨_, es', ep', hL, r'⟩) hok I.bare
/-- behind a call (or a comprehension's block): the slots of this frame may have changed too, the records at ch may have turned -/
theorem Inv.call {g' : Array GenState} {t' : Nat} {d' : Drawn} {ch : List Addr} (I : Inv X pins σ H s) (u : Un (frs X.stack) ch H H' s.heap h') (hok : HOk X.prog X.w H' h') (hg : AllBare g')
    (hch : ∀ b ∈ ch, (b ∈ X.ex ∨ X.s₀.heap.objs.size ≤ b) ∧ b ≠ X.env.locals ∧ (∀ x c, X.env.cells.lookup x = some c → c ≠ b) ∧ ∀ p ∈ X.pn ++ pins, p.1 ≠ b) :
    Inv X pins σ H' { s with heap := h', gens := g', drawn := d', toks := t' } := by
  obtain ⟨m, ⟨o, es, ep, ho, r⟩, _⟩ := id I.loc
  obtain ⟨sl, hL⟩ := u.any ho I.free fun z => (hch _ z).2.1 rfl
  exact I.step (ch := ch) hch (fun b o hL hb hc e n => u.keep b o e n (fun z => (List.mem_cons.mp (I.stkSub b z)).elim hL hb) hc) (fun b o _ _ hc e n => u.any e n hc) (fun b o hc e n => u.free b o e n hc) (fun b o hc e => u.there b o e hc) u.tups u.frzs u.tbls (fun m' hm => by
    obtain ⟨o', es', ep', ho', r'⟩ := hm
    rw [ho] at ho'; cases ho'
    exact ⟨_, es', ep', hL, r'⟩) hok hg
/-- an untracked record of ours (an iterator) has turned -/
theorem Inv.turned {t' : Nat} {it : Addr} (I : Inv X pins σ H s) (k : ∀ b o, b ≠ it → s.heap.get? b = some o → h'.get? b = some o) (hn : H it = none) (hL : it ≠ X.env.locals)
    (h1 : it ∈ X.ex ∨ X.s₀.heap.objs.size ≤ it) (h2 : ∀ x c, X.env.cells.lookup x = some c → c ≠ it) (h3 : ∀ p ∈ X.pn ++ pins, p.1 ≠ it) : Inv X pins σ H { s with heap := h', toks := t' } := by
  have nit : ∀ b u, H b = some u → b ≠ it := fun b u e z => by rw [z, hn] at e; cases e
  refine I.step (g' := s.gens) (d' := s.drawn) (ch := [it]) (fun b hb => ?_) (fun b o _ _ hc e _ => k b o (fun z => hc (by simp [z])) e) (fun b o _ _ hc e _ => ⟨o.slots, k b o (fun z => hc (by simp [z])) e⟩) (fun _ _ _ _ n => n)
    (fun b o hc e => ⟨o, k b o (fun z => hc (by simp [z])) e⟩) (fun _ _ e => e) (fun _ _ _ e => e) (fun b ps e => ⟨#[], by rw [e]; simp⟩) (fun m hm => ?_) (fun b u e => ?_) I.bare
  · have e : b = it := by simpa using hb
    subst e
    exact ⟨h1, hL, h2, h3⟩
  · obtain ⟨o, es, ep, ho, r⟩ := hm
    exact ⟨o, es, ep, k _ o (Ne.symm hL) ho, r⟩
  · refine (I.hok b u e).stay (fun c v hc q => k c v ?_ q) (fun _ q => q) fun _ _ q => q
    rcases hc with z | z
    · rw [z]; exact nit b u e
    · exact nit c _ z
theorem Inv.tok (I : Inv X pins σ H s) (t : Nat) : Inv X pins σ H { s with toks := t } := I.un (h' := s.heap) (t' := t) Un.refl I.hok
/-- all objects kept -/
theorem Inv.kept {t' : Nat} (I : Inv X pins σ H s) (k : ∀ b u, s.heap.get? b = some u → h'.get? b = some u) : Inv X pins σ H { s with heap := h', toks := t' } := I.un (Un.kept k) (I.hok.kept k)
/-- a new object laid and tracked -/
theorem Inv.laid {a : Addr} {o : HO} {t' : Nat} (I : Inv X pins σ H s) (k : ∀ b u, s.heap.get? b = some u → h'.get? b = some u) (hp : s.heap.objs.size ≤ a) (new : ObjOk X.prog X.w (upd H a o) h' a o) :
    Inv X pins σ (upd H a o) { s with heap := h', toks := t' } := I.un (Un.laid k hp (I.hok.fresh hp)) (I.hok.laid k hp new)
/-- an object written -/
theorem Inv.write {x e : Addr} {o : HO} {t' : Nat} (I : Inv X pins σ H s) (mu : Mut (H x)) (he : e = x ∨ H e = some (.own x)) (k : ∀ b u, b ≠ e → s.heap.get? b = some u → h'.get? b = some u) (heo : ∃ u, h'.get? e = some u)
    (new : ObjOk X.prog X.w (upd H x o) h' x o) : Inv X pins σ (upd H x o) { s with heap := h', toks := t' } := I.un (Un.write mu he k heo) (I.hok.write mu he k heo new)
theorem Inv.pins_of {pins' : List (Addr × Obj)} (I : Inv X pins σ H s) (h : ∀ p ∈ pins', s.heap.get? p.1 = some p.2 ∧ H p.1 = none ∧ p.1 ≠ X.env.locals ∧ p.1 ∉ X.fs ∧ ∀ v, p.2.data ≠ .cell v) : Inv X pins' σ H s :=
  ⟨I.ok, I.os, I.bare, I.base, I.loc, I.cell, I.free, I.freeC, fun p hp => (List.mem_append.mp hp).elim (fun z => I.pin p (List.mem_append_left _ z)) (h p), I.hok, I.len⟩

theorem nodup_ix {N : List Str} (hN : N.Nodup) {i j : Nat} {x : Str} (a : N[i]? = some x) (b : N[j]? = some x) : i = j := by
  obtain ⟨h1, e1⟩ := List.getElem?_eq_some_iff.mp a
  obtain ⟨h2, e2⟩ := List.getElem?_eq_some_iff.mp b
  exact (List.getElem_inj hN).mp (e1.trans e2.symm)

/-- a name is stored; what changed -/
theorem store_ok2 {M : Model} {A : Around} {E : Value → Shared → Prop} {i : Nat} {x : Str} {v : V} {u : Value} {Q : Unit → Shared → Prop} (I : Inv X pins σ H s) (hN : X.N.Nodup) (hi : X.N[i]? = some x) (hx : Loc X.env.scope x) (r : RelV v u)
    (h : ∀ s', Inv X pins (σ.set i (some v)) H s' → (∃ a, Heap.SameBut a s.heap s'.heap ∧ (a = X.env.locals ∨ X.env.cells.lookup x = some a)) → Q () s') (hf : X.fn x = true ∨ X.env.scope.names.lookup x = some .local := by first | exact .inl rfl | exact .inr rfl | assumption) : wpAny M A (storeName X.env x u) Q E s := by
  obtain ⟨m, hn, hl⟩ := id I.loc
  have hcls : (X.env.scope.kind == .class || (X.env.scope.kind == .module && X.env.locals != X.env.globals)) = false := by rw [I.ok.kind]; rfl
  have hiσ : i < σ.length := by rw [I.len]; exact (List.getElem?_eq_some_iff.mp hi).1
  have cne := I.cne
  have tracked : ∀ {a : Addr} {h' : Heap}, (∃ o, s.heap.get? a = some o ∧ H a = none) → Heap.SameBut a s.heap h' → HOk X.prog X.w H h' := fun {a h'} ha hs b ob e => by
    obtain ⟨_, _, hfree⟩ := ha
    refine (I.hok b ob e).stay (fun c w' hc q => (hs.2 c ?_).trans q) (fun _ q => q) fun _ _ q => q
    rintro rfl
    rcases hc with rfl | hc
    · rw [hfree] at e; cases e
    · rw [hfree] at hc; cases hc
  rcases hx with hk | hk
  · refine wpAny_storeName_local hk hn (fun h' hn' hs => ?_) hcls
    obtain ⟨oL, _, _, hoL, _⟩ := id hn
    refine h _ ⟨I.ok, I.os, I.bare, ⟨fun b o e n hb hx => ?_, fun b o e n hb hx => ?_, I.base.free, fun b o e hx => ?_, I.base.tups, I.base.frzs, I.base.tbls⟩, ⟨_, hn', fun j y v' e1 e2 e3 => ?_⟩, fun y c e => ?_, I.free, I.freeC, fun p hp => ?_, tracked ⟨oL, hoL, I.free⟩ hs, by simpa using I.len⟩ ⟨_, hs, .inl rfl⟩
    · exact (hs.2 b (Nat.ne_of_lt (Nat.lt_of_lt_of_le (Heap.lt_size e) I.ok.above))).trans (I.base.keep b o e n hb hx)
    · obtain ⟨sl, e1⟩ := I.base.slot b o e n hb hx
      exact ⟨sl, (hs.2 b (Nat.ne_of_lt (Nat.lt_of_lt_of_le (Heap.lt_size e) I.ok.above))).trans e1⟩
    · obtain ⟨o', e1⟩ := I.base.there b o e hx
      exact ⟨o', (hs.2 b (Nat.ne_of_lt (Nat.lt_of_lt_of_le (Heap.lt_size e) I.ok.above))).trans e1⟩
    · by_cases hj : j = i
      · subst hj
        rw [hi] at e1; cases e1
        rw [List.getElem?_set_self hiσ] at e2
        cases e2
        exact ⟨u, r, .inl ⟨hk, by simp⟩⟩
      · rw [List.getElem?_set_ne (Ne.symm hj)] at e2
        obtain ⟨u', r', q⟩ := hl j y v' e1 e2 e3
        refine ⟨u', r', ?_⟩
        rcases q with ⟨k, e⟩ | ⟨k, c, e, z⟩
        · refine .inl ⟨k, ?_⟩
          have : y ≠ x := fun e => hj (nodup_ix hN e1 (e ▸ hi))
          simp [this, e]
        · exact .inr ⟨k, c, e, z.sameBut hs (cne y c e)⟩
    · obtain ⟨w', z⟩ := I.cell y c e
      exact ⟨w', z.sameBut hs (cne y c e)⟩
    · obtain ⟨e, n, ne, nf, d⟩ := I.pin p hp
      exact ⟨(hs.2 p.1 ne).trans e, n, ne, nf, d⟩
  · have hfn : X.fn x = true := by
      rcases hf with z | z
      · exact z
      · rw [z] at hk; cases hk
    obtain ⟨c, hc⟩ := I.ok.has x (.inl hk)
    obtain ⟨w', z⟩ := I.cell x c hc
    refine wpAny_storeName_cell I.ok.kind hk hc z (fun h' hc' hs => ?_)
    obtain ⟨oc, hoc, hocd⟩ := id z
    refine h { s with heap := h' } ⟨I.ok, I.os, I.bare, ⟨fun b o e n hb hx => ?_, fun b o e n hb hx => ?_, I.base.free, fun b o e hx => ?_, I.base.tups, I.base.frzs, I.base.tbls⟩, ⟨m, hn.sameBut hs (Ne.symm (cne x c hc)), fun j y v' e1 e2 e3 => ?_⟩, fun y c' e => ?_, I.free, I.freeC, fun p hp => ?_, tracked ⟨oc, hoc, I.freeC x c hc⟩ hs, by simpa using I.len⟩ ⟨c, hs, .inr hc⟩
    · exact (hs.2 b (Nat.ne_of_lt (Nat.lt_of_lt_of_le (Heap.lt_size e) (I.ok.cab x c hfn hc)))).trans (I.base.keep b o e n hb hx)
    · obtain ⟨sl, e1⟩ := I.base.slot b o e n hb hx
      exact ⟨sl, (hs.2 b (Nat.ne_of_lt (Nat.lt_of_lt_of_le (Heap.lt_size e) (I.ok.cab x c hfn hc)))).trans e1⟩
    · obtain ⟨o', e1⟩ := I.base.there b o e hx
      exact ⟨o', (hs.2 b (Nat.ne_of_lt (Nat.lt_of_lt_of_le (Heap.lt_size e) (I.ok.cab x c hfn hc)))).trans e1⟩
    · by_cases hj : j = i
      · subst hj
        rw [hi] at e1; cases e1
        rw [List.getElem?_set_self hiσ] at e2
        cases e2
        exact ⟨u, r, .inr ⟨.inl hk, c, hc, hc'⟩⟩
      · rw [List.getElem?_set_ne (Ne.symm hj)] at e2
        obtain ⟨u', r', q⟩ := hl j y v' e1 e2 e3
        refine ⟨u', r', ?_⟩
        rcases q with q | ⟨k, c', e, z'⟩
        · exact .inl q
        · refine .inr ⟨k, c', e, z'.sameBut hs ?_⟩
          rintro rfl
          exact hj (nodup_ix hN e1 (I.ok.inj _ _ _ e hc ▸ hi))
    · by_cases hcc : c' = c
      · subst hcc; exact ⟨_, hc'⟩
      · obtain ⟨w2, z2⟩ := I.cell y c' e
        exact ⟨w2, z2.sameBut hs hcc⟩
    · obtain ⟨e, n, ne, nf, d⟩ := I.pin p hp
      refine ⟨(hs.2 p.1 ?_).trans e, n, ne, nf, d⟩
      intro q
      rw [q, hoc] at e
      have q' : oc = p.2 := Option.some.inj e
      exact d w' (by rw [← q']; exact hocd)
theorem store_ok {M : Model} {A : Around} {E : Value → Shared → Prop} {i : Nat} {x : Str} {v : V} {u : Value} {Q : Unit → Shared → Prop} (I : Inv X pins σ H s) (hN : X.N.Nodup) (hi : X.N[i]? = some x) (hx : Loc X.env.scope x) (r : RelV v u)
    (h : ∀ s', Inv X pins (σ.set i (some v)) H s' → Q () s') (hf : X.fn x = true ∨ X.env.scope.names.lookup x = some .local := by first | exact .inl rfl | exact .inr rfl | assumption) : wpAny M A (storeName X.env x u) Q E s :=
  store_ok2 I hN hi hx r (fun s' I' _ => h s' I') hf
/-- behind a call or a block, the state as it is -/
theorem Inv.call' {s' : Shared} {ch : List Addr} (I : Inv X pins σ H s) (ho : s'.os = s.os) (u : Un (frs X.stack) ch H H' s.heap s'.heap) (hok : HOk X.prog X.w H' s'.heap) (hg : AllBare s'.gens)
    (hch : ∀ b ∈ ch, (b ∈ X.ex ∨ X.s₀.heap.objs.size ≤ b) ∧ b ≠ X.env.locals ∧ (∀ x c, X.env.cells.lookup x = some c → c ≠ b) ∧ ∀ p ∈ X.pn ++ pins, p.1 ≠ b) : Inv X pins σ H' s' := by
  obtain ⟨h', g', d', t', o'⟩ := s'
  have e : o' = s.os := ho
  subst e
  exact I.call (g' := g') (t' := t') (d' := d') u hok hg hch
end

/-! ### the judgements -/
/-- an exception: its class, its own dict's address (where it has one), the abstract heap behind it -/
abbrev XK := Value → Option Addr → Hp → Prop
abbrev St := List (Option V)
abbrev VK := V → Hp → Prop
/-- an expression's reading; a test's; an argument list's -/
abbrev TE := St → Hp → VK → Prop
abbrev TT := St → Hp → (Bool → Hp → Prop) → Prop
abbrev TA := St → Hp → (List V → Hp → Prop) → Prop
/-- what is wanted behind a statement -/
structure Ends where
  nx : St → Hp → Prop
  rt : VK
  bk : St → Hp → Prop := fun _ _ => False
  ct : St → Hp → Prop := fun _ _ => False
abbrev TS := Ends → St → Hp → Prop

def EP (X : Cx) (pins : List (Addr × Obj)) (σ : St) (Q : VK) (u : Value) (s' : Shared) : Prop := ∃ v H', Inv X pins σ H' s' ∧ RelV v u ∧ Q v H'
def TP (X : Cx) (pins : List (Addr × Obj)) (σ : St) (Q : Bool → Hp → Prop) (b : Bool) (s' : Shared) : Prop := ∃ H', Inv X pins σ H' s' ∧ Q b H'
def AP (X : Cx) (pins : List (Addr × Obj)) (σ : St) (Q : List V → Hp → Prop) (us : List Value) (s' : Shared) : Prop := ∃ vs H', Inv X pins σ H' s' ∧ Vals vs us ∧ Q vs H'
def SP (X : Cx) (pins : List (Addr × Obj)) (D : Ends) (f : Flow) (s' : Shared) : Prop :=
  match f with
  | .next => ∃ σ' H', Inv X pins σ' H' s' ∧ D.nx σ' H'
  | .brk => ∃ σ' H', Inv X pins σ' H' s' ∧ D.bk σ' H'
  | .cont => ∃ σ' H', Inv X pins σ' H' s' ∧ D.ct σ' H'
  | .ret u => ∃ v σ' H', Inv X pins σ' H' s' ∧ RelV v u ∧ D.rt v H'

def PE (X : Cx) (e : Expr) (t : TE) : Prop :=
  ∀ (pins : List (Addr × Obj)) (s : Shared) (σ : St) (H : Hp) (Q : VK), Inv X pins σ H s → t σ H Q → wpAny (model X.prog X.w) X.A (eval e X.env) (EP X pins σ Q) X.xe s
def PT (X : Cx) (e : Expr) (t : TT) : Prop :=
  ∀ (pins : List (Addr × Obj)) (s : Shared) (σ : St) (H : Hp) (Q : Bool → Hp → Prop), Inv X pins σ H s → t σ H Q → wpAny (model X.prog X.w) X.A (isTrue e X.env (eval e X.env)) (TP X pins σ Q) X.xe s
/-- a test whatever its 'whole' is (and, or) -/
def PW (X : Cx) (e : Expr) (t : TT) : Prop :=
  ∀ (whole : Sem Value) (pins : List (Addr × Obj)) (s : Shared) (σ : St) (H : Hp) (Q : Bool → Hp → Prop), Inv X pins σ H s → t σ H Q → wpAny (model X.prog X.w) X.A (isTrue e X.env whole) (TP X pins σ Q) X.xe s
theorem PW.pt {X : Cx} {e : Expr} {t : TT} (h : PW X e t) : PT X e t := h _
/-- an argument list (no star), from the left -/
def PA (X : Cx) (es : List Expr) (t : TA) : Prop :=
  ∀ (pos : Pos) (pins : List (Addr × Obj)) (s : Shared) (σ : St) (H : Hp) (Q : List V → Hp → Prop), Inv X pins σ H s → t σ H Q → wpAny (model X.prog X.w) X.A (spliced (backTo pos (starEach es X.env))) (AP X pins σ Q) X.xe s
def PS (X : Cx) (st : Stmt) (t : TS) : Prop :=
  ∀ (pins : List (Addr × Obj)) (s : Shared) (σ : St) (H : Hp) (D : Ends), Inv X pins σ H s → t D σ H → wpAny (model X.prog X.w) X.A (exec st X.env) (SP X pins D) X.xe s
def PSs (X : Cx) (st : List Stmt) (t : TS) : Prop :=
  ∀ (pins : List (Addr × Obj)) (s : Shared) (σ : St) (H : Hp) (D : Ends), Inv X pins σ H s → t D σ H → wpAny (model X.prog X.w) X.A (execs st X.env) (SP X pins D) X.xe s
/-- weaken the end -/
theorem thn {α : Type} {t : Sem α} {Q Q' : α → Shared → Prop} {M : Model} {A : Around} {E : Value → Shared → Prop} {s : Shared} (h : wpAny M A t Q E s) (hQ : ∀ a s, Q a s → Q' a s) : wpAny M A t Q' E s := wpAny_mono h hQ fun _ _ x => x
end L2

namespace L2
open PySem PySem.Spec PyProof.Rows
section
variable {X : Cx}

/-! ### names and constants -/
def tVar (i : Nat) : TE := fun σ H Q => ∃ v, σ[i]? = some (some v) ∧ Q v H
def tC (v : V) : TE := fun _ H Q => Q v H
theorem pe_var {i : Nat} {x : Str} {pos : Pos} (hN : X.N[i]? = some x) (hv : Vis X.env.scope x) (hd : (x == ("__debug__" : Str)) = false := by decide) (hcd : (x == ("__classdict__" : Str)) = false := by decide) : PE X (.Name x pos) (tVar i) := by
  intro pins s σ H Q I h
  obtain ⟨v, e, h⟩ := h
  obtain ⟨m, hn, hl⟩ := I.loc
  obtain ⟨u, r, l⟩ := hl i x v hN e hv
  have fin : EP X pins σ Q u s := ⟨v, H, I, r, h⟩
  rcases l with ⟨hk, hm⟩ | ⟨hk, c, hc, hcell⟩
  · exact wpAny_Name (wpAny_loadName_local I.ok.kind hk hn hm fin) hd
  · rcases hk with hk | hk
    · exact wpAny_Name (wpAny_loadName_cell I.ok.kind hk hc hcell fin) hd
    · exact wpAny_Name (wpAny_loadName_free I.ok.kind hk hc hcell fin hcd) hd
theorem pe_int {i j pos} : PE X (.Constant (.int i) j pos) (tC (.int i)) := fun _ _ _ H _ I h => wpAny_Constant_int ⟨.int i, H, I.tok _, ⟨_, rfl⟩, h⟩
theorem pe_bl {b j pos} : PE X (.Constant (.bool b) j pos) (tC (.bl b)) := fun _ _ _ H _ I h => Constant_bool ⟨.bl b, H, I, rfl, h⟩
theorem pe_str {x j pos} : PE X (.Constant (.str x) j pos) (tC (.str x)) := fun _ _ _ H _ I h => Calls.Constant_str ⟨.str x, H, I.tok _, ⟨_, rfl⟩, h⟩

/-- a global name of the def -/
def Gl (X : Cx) (x : Str) : Prop := X.env.kindOf x = some .globalImplicit
theorem ld_glob {E : Value → Shared → Prop} {pins : List (Addr × Obj)} {s : Shared} {σ : St} {H : Hp} {x : Str} {u : Value} {pos : Pos} {Q : Value → Shared → Prop} (I : Inv X pins σ H s) (hg : Gl X x) (hm : X.mg x = some u) (h : Q u s)
    (hd : (x == ("__debug__" : Str)) = false := by decide) : wpAny (model X.prog X.w) X.A (eval (.Name x pos) X.env) Q E s :=
  Calls.Name_function_global I.ok.kind hg (Calls.loadGlobal_global (by rw [I.ok.glob]; exact I.mod.glob.keeps I.bk) hm h) hd
theorem ld_blt {E : Value → Shared → Prop} {pins : List (Addr × Obj)} {s : Shared} {σ : St} {H : Hp} {x : Str} {u : Value} {pos : Pos} {Q : Value → Shared → Prop} (I : Inv X pins σ H s) (hg : Gl X x) (hm : X.mg x = none) (hv : bootBuiltins x = some u) (h : Q u s)
    (hn : x ≠ "__name__" := by decide) (hd : (x == ("__debug__" : Str)) = false := by decide) : wpAny (model X.prog X.w) X.A (eval (.Name x pos) X.env) Q E s := by
  obtain ⟨mb, h1, h2⟩ := I.mod.blt
  exact Calls.Name_function_global I.ok.kind hg (Calls.loadGlobal_builtin (by rw [I.ok.glob]; exact I.mod.glob.keeps I.bk) hm (by rw [I.ok.blt]; exact h1.keeps I.bk) ((h2 x hn).trans hv) h) hd
/-- a module's constant, a class, a function, as a value -/
theorem pe_glob {x : Str} {v : V} {u : Value} {pos : Pos} (hg : Gl X x) (hm : X.mg x = some u) (r : RelV v u) (hd : (x == ("__debug__" : Str)) = false := by decide) : PE X (.Name x pos) (tC v) :=
  fun _ _ _ H _ I h => ld_glob I hg hm ⟨v, H, I, r, h⟩ hd
theorem pe_bltn {x : Str} {v : V} {u : Value} {pos : Pos} (hg : Gl X x) (hm : X.mg x = none) (hv : bootBuiltins x = some u) (r : RelV v u) (hn : x ≠ "__name__" := by decide) (hd : (x == ("__debug__" : Str)) = false := by decide) : PE X (.Name x pos) (tC v) :=
  fun _ _ _ H _ I h => ld_blt I hg hm hv ⟨v, H, I, r, h⟩ hn hd

/-! ### arithmetic -/
variable {a b : Expr} {ta tb : TE} {pos : Pos}
/-! ### comparisons -/
def PC (X : Cx) (op : CmpOp) (a b : Expr) (t : TE) : Prop :=
  ∀ (pins : List (Addr × Obj)) (s : Shared) (σ : St) (H : Hp) (Q : VK), Inv X pins σ H s → t σ H Q →
    wpAny (model X.prog X.w) X.A (eval a X.env) (fun v s₁ => wpAny (model X.prog X.w) X.A (eval b X.env) (fun u s₂ => wpAny (model X.prog X.w) X.A (compareOp op v u) (EP X pins σ Q) X.xe s₂) X.xe s₁) X.xe s
theorem nobehind (b : Expr) {op : CmpOp} (h : op ≠ .In) (h2 : op ≠ .NotIn) : behindInMarks op b = false := by
  have e1 : (op == CmpOp.In) = false := by cases op <;> first | rfl | exact absurd rfl h
  have e2 : (op == CmpOp.NotIn) = false := by cases op <;> first | rfl | exact absurd rfl h2
  cases b <;> simp [behindInMarks, e1, e2]
/-- a comparison as a value, as a test -/
def tB (t : TE) : TT := fun σ H Q => t σ H fun x H1 => ∃ c, x = .bl c ∧ Q c H1
theorem pt_cmp {op : CmpOp} {t : TE} (h : PC X op a b t) (h1 : behindInMarks op b = false := by first | exact nobehind _ (by decide) (by decide) | rfl) : PT X (.Compare a [op] [b] pos) (tB t) := by
  intro pins s σ H Q I hw
  refine wpAny_isTrue_Compare1 (thn (h pins s σ H _ I hw) fun v s1 h1 => thn h1 fun u s2 h2 => thn h2 fun c s3 ⟨x, H1, I1, r1, q1⟩ => ?_) h1
  obtain ⟨d, rfl, q⟩ := q1
  cases r1
  exact wpAny_truthy_bool ⟨H1, I1, q⟩
/-- an expression whose value is a bool, as a test -/
theorem pt_val {e : Expr} {t : TE} (h : PE X e t) (he : ∀ whole, isTrue e X.env whole = (do let v ← whole; standAt e.pos; holding [v] (truthy v)) := by intro _; rfl) : PT X e (tB t) := by
  intro pins s σ H Q I hw
  refine isTrue_plain (thn (h pins s σ H _ I hw) fun v s1 ⟨x, H1, I1, r1, q1⟩ => ?_) (he _)
  obtain ⟨d, rfl, q⟩ := q1
  cases r1
  exact wpAny_truthy_bool ⟨H1, I1, q⟩

/-! ### and, or, not -/
variable {tA tB' : TT} {rest : List Expr}
def tAnd (t u : TT) : TT := fun σ H Q => t σ H fun c H1 => if c = true then u σ H1 Q else Q false H1
def tOr (t u : TT) : TT := fun σ H Q => t σ H fun c H1 => if c = true then Q true H1 else u σ H1 Q
def tNot (t : TT) : TT := fun σ H Q => t σ H fun c H1 => Q (!c) H1
theorem pw_and1 (ha : PT X a tA) : PW X (.BoolOp .And [a] pos) tA := by
  intro wh pins s σ H Q I h
  refine isTrue_and (thn (ha pins s σ H Q I h) fun c s1 e => ?_)
  cases c with
  | true => exact isTrue_and_nil e
  | false => exact e
theorem pw_or1 (ha : PT X a tA) : PW X (.BoolOp .Or [a] pos) tA := by
  intro wh pins s σ H Q I h
  refine isTrue_or (thn (ha pins s σ H Q I h) fun c s1 e => ?_)
  cases c with
  | false => exact isTrue_or_nil e
  | true => exact e
theorem pw_and (ha : PT X a tA) (hb : PW X (.BoolOp .And (b :: rest) pos) tB') : PW X (.BoolOp .And (a :: b :: rest) pos) (tAnd tA tB') := by
  intro wh pins s σ H Q I h
  refine isTrue_and (thn (ha pins s σ H _ I h) fun c s1 ⟨H1, I1, q1⟩ => ?_)
  cases c with
  | true => exact hb wh pins s1 σ H1 Q I1 q1
  | false => exact ⟨H1, I1, q1⟩
theorem pw_or (ha : PT X a tA) (hb : PW X (.BoolOp .Or (b :: rest) pos) tB') : PW X (.BoolOp .Or (a :: b :: rest) pos) (tOr tA tB') := by
  intro wh pins s σ H Q I h
  refine isTrue_or (thn (ha pins s σ H _ I h) fun c s1 ⟨H1, I1, q1⟩ => ?_)
  cases c with
  | true => exact ⟨H1, I1, q1⟩
  | false => exact hb wh pins s1 σ H1 Q I1 q1
theorem pt_not (ha : PT X a tA) : PT X (.UnaryOp .Not a pos) (tNot tA) := by
  intro pins s σ H Q I h
  exact isTrue_not (ha pins s σ H (fun c H1 => Q (!c) H1) I h)
/-- .. as values (bools) -/
def tAndV (ta tb : TE) : TE := fun σ H Q => ta σ H fun x H1 => ∃ c, x = .bl c ∧ if c = true then tb σ H1 Q else Q (.bl false) H1
def tOrV (ta tb : TE) : TE := fun σ H Q => ta σ H fun x H1 => ∃ c, x = .bl c ∧ if c = true then Q (.bl true) H1 else tb σ H1 Q
def tNotV (ta : TE) : TE := fun σ H Q => ta σ H fun x H1 => ∃ c, x = .bl c ∧ Q (.bl (!c)) H1
theorem pe_one {op} {t : TE} (h : PE X a t) : PE X (.BoolOp op [a] pos) t := fun pins s σ H Q I hw => BoolOp_one (h pins s σ H Q I hw)
theorem pe_and (ha : PE X a ta) (hb : PE X (.BoolOp .And (b :: rest) pos) tb) : PE X (.BoolOp .And (a :: b :: rest) pos) (tAndV ta tb) := by
  intro pins s σ H Q I h
  refine BoolOp_and (thn (ha pins s σ H _ I h) fun v s1 ⟨x, H1, I1, r1, q1⟩ => ?_)
  obtain ⟨c, rfl, q1⟩ := q1
  cases r1
  refine wpAny_truthy_bool ?_
  cases c with
  | true => exact hb pins s1 σ H1 Q I1 q1
  | false => exact ⟨.bl false, H1, I1, rfl, q1⟩
theorem pe_not (ha : PE X a ta) : PE X (.UnaryOp .Not a pos) (tNotV ta) := by
  intro pins s σ H Q I h
  refine UnaryOp_ (thn (ha pins s σ H _ I h) fun v s1 ⟨x, H1, I1, r1, q1⟩ => ?_)
  obtain ⟨c, rfl, q1⟩ := q1
  cases r1
  exact not_of (wpAny_truthy_bool ⟨.bl (!c), H1, I1, rfl, q1⟩)
/-- a if t else b -/
def tIf (t : TT) (ta tb : TE) : TE := fun σ H Q => t σ H fun c H1 => if c = true then ta σ H1 Q else tb σ H1 Q
theorem pe_ifExp {c : Expr} (hc : PT X c tA) (ha : PE X a ta) (hb : PE X b tb) : PE X (.IfExp c a b pos) (tIf tA ta tb) := by
  intro pins s σ H Q I h
  refine wpAny_IfExp (thn (hc pins s σ H _ I h) fun d s1 ⟨H1, I1, q1⟩ => ?_)
  cases d with
  | true => exact ha pins s1 σ H1 Q I1 q1
  | false => exact hb pins s1 σ H1 Q I1 q1
end
end L2

namespace L2
open PySem PySem.Spec PyProof.Rows

/-! ### a list, a tuple that is read: tracked, frozen, or an object of the module -/
def SqL (K : PySem.W.Frag) (H : Hp) (a : Addr) (xs : List V) : Prop :=
  Rd H a (.lst xs) ∨
    ∃ (o : Obj) (its : Array Value) (n : Nat), K.lookup a = some o ∧ o.cls = .type "list" ∧ o.dict = none ∧ o.data = .seq its n ∧ its.size ≤ sizeLine ∧ Vals xs its.toList
def SqT (K : PySem.W.Frag) (H : Hp) (a : Addr) (xs : List V) : Prop :=
  Rd H a (.tup xs) ∨
    ∃ (o : Obj) (its : Array Value) (n : Nat), K.lookup a = some o ∧ o.cls = .type "tuple" ∧ o.data = .seq its n ∧ its.size ≤ sizeLine ∧ Vals xs its.toList
def absV : Value → Option V
  | .none => some .non
  | .bool b => some (.bl b)
  | .int i _ => some (.int i)
  | .str x _ => some (.str x)
  | .bytes b _ => some (.byt b)
  | .float b _ => some (.flt b)
  | .ref a => some (.ref a)
  | .type n => some (.ty n)
  | _ => none
theorem RelV.abs {x : V} {u : Value} (r : RelV x u) : absV u = some x := by
  cases x with
  | non => cases r; rfl
  | bl _ => cases r; rfl
  | int _ => obtain ⟨t, rfl⟩ := r; rfl
  | str _ => obtain ⟨t, rfl⟩ := r; rfl
  | byt _ => obtain ⟨t, rfl⟩ := r; rfl
  | flt _ => obtain ⟨t, rfl⟩ := r; rfl
  | ref _ => cases r; rfl
  | ty _ => cases r; rfl
theorem RelV.inj {x y : V} {u : Value} (r : RelV x u) (q : RelV y u) : x = y := Option.some.inj (r.abs.symm.trans q.abs)
theorem Vals.inj : ∀ {xs ys : List V} {us : List Value}, Vals xs us → Vals ys us → xs = ys
  | _, _, _, .nil, .nil => rfl
  | _, _, _, .cons r t, .cons r' t' => by rw [r.inj r', Vals.inj t t']
section
variable {X : Cx} {pins : List (Addr × Obj)} {σ : St} {H : Hp} {s : Shared} {a : Addr} {xs ys : List V}
theorem SqL.of {K : PySem.W.Frag} (h : H a = some (.lst xs)) : SqL K H a xs := .inl (.inl h)
theorem SqT.of {K : PySem.W.Frag} (h : H a = some (.tup xs)) : SqT K H a xs := .inl (.inl h)
theorem Inv.list (I : Inv X pins σ H s) (h : SqL X.K H a xs) : ∃ its : List Value, Vals xs its ∧ PlainL s.heap a its.toArray ∧ xs.length ≤ sizeLine := by
  rcases h with h | ⟨o, its, n, hk, hc, hd, hs, hz, r⟩
  · obtain ⟨z, its, n, r, e⟩ := h.ok I.hok
    exact ⟨its, r, ⟨_, n, e, rfl, rfl, rfl⟩, z⟩
  · refine ⟨its.toList, r, ⟨o, n, I.kIn a o hk, hc, hd, by simpa using hs⟩, ?_⟩
    have e := r.length
    simp only [Array.length_toList] at e
    omega
theorem Inv.tuple (I : Inv X pins σ H s) (h : SqT X.K H a xs) : ∃ its : List Value, Vals xs its ∧ IsTup s.heap a its.toArray ∧ xs.length ≤ sizeLine := by
  rcases h with h | ⟨o, its, n, hk, hc, hs, hz, r⟩
  · obtain ⟨z, its, r, p⟩ := h.ok I.hok
    exact ⟨its, r, p, z⟩
  · refine ⟨its.toList, r, ⟨o, I.kIn a o hk, hc, n, by simpa using hs⟩, ?_⟩
    have e := r.length
    simp only [Array.length_toList] at e
    omega
theorem Inv.list_inj (I : Inv X pins σ H s) (h : SqL X.K H a xs) (h' : SqL X.K H a ys) : xs = ys := by
  obtain ⟨its, r, ⟨o, n, e, _, _, d⟩, _⟩ := I.list h
  obtain ⟨its', r', ⟨o', n', e', _, _, d'⟩, _⟩ := I.list h'
  rw [e] at e'; cases e'
  rw [d] at d'
  injection d' with d1 _
  have : its = its' := by simpa using congrArg Array.toList d1
  subst this
  exact r.inj r'
theorem Inv.tuple_inj (I : Inv X pins σ H s) (h : SqT X.K H a xs) (h' : SqT X.K H a ys) : xs = ys := by
  obtain ⟨its, r, ⟨o, e, _, n, d⟩, _⟩ := I.tuple h
  obtain ⟨its', r', ⟨o', e', _, n', d'⟩, _⟩ := I.tuple h'
  rw [e] at e'; cases e'
  rw [d] at d'
  injection d' with d1 _
  have : its = its' := by simpa using congrArg Array.toList d1
  subst this
  exact r.inj r'
end

/-! ### another wish about exceptions -/
abbrev Cx.wish (X : Cx) (E : Value → Shared → Prop) : Cx := { X with xe := E }
/-- no exception leaves -/
abbrev Cx.nox (X : Cx) : Cx := X.wish fun _ _ => False
theorem Cx.Ok.wish {X : Cx} (ok : X.Ok) (E : Value → Shared → Prop) : (X.wish E).Ok :=
  ⟨ok.mod, ok.kind, ok.glob, ok.blt, ok.above, ok.inj, ok.has, ok.cab, ok.hd, ok.frames, ok.stk, ok.exf, ok.bs, ok.bsz, ok.noex, ok.exfs, ok.funs, ok.frf⟩
theorem Cx.Ok.unwish {X : Cx} {E : Value → Shared → Prop} (ok : (X.wish E).Ok) : X.Ok :=
  ⟨ok.mod, ok.kind, ok.glob, ok.blt, ok.above, ok.inj, ok.has, ok.cab, ok.hd, ok.frames, ok.stk, ok.exf, ok.bs, ok.bsz, ok.noex, ok.exfs, ok.funs, ok.frf⟩
section
variable {X : Cx} {pins : List (Addr × Obj)} {σ : St} {H : Hp} {s : Shared} {E : Value → Shared → Prop}
theorem Inv.wish (I : Inv X pins σ H s) (E : Value → Shared → Prop) : Inv (X.wish E) pins σ H s := ⟨I.ok.wish E, I.os, I.bare, I.base, I.loc, I.cell, I.free, I.freeC, I.pin, I.hok, I.len⟩
theorem Inv.unwish (I : Inv (X.wish E) pins σ H s) : Inv X pins σ H s := ⟨I.ok.unwish, I.os, I.bare, I.base, I.loc, I.cell, I.free, I.freeC, I.pin, I.hok, I.len⟩
theorem SP.unwish {D : Ends} {f : Flow} {s' : Shared} (h : SP (X.wish E) pins D f s') : SP X pins D f s' := by
  cases f with
  | next => obtain ⟨σ', H', I, q⟩ := h; exact ⟨σ', H', I.unwish, q⟩
  | brk => obtain ⟨σ', H', I, q⟩ := h; exact ⟨σ', H', I.unwish, q⟩
  | cont => obtain ⟨σ', H', I, q⟩ := h; exact ⟨σ', H', I.unwish, q⟩
  | ret u => obtain ⟨v, σ', H', I, r, q⟩ := h; exact ⟨v, σ', H', I.unwish, r, q⟩
theorem PE.nox {e : Expr} {t : TE} (h : PE X.nox e t) : PE X e t := fun pins s σ H Q I hw =>
  wpAny_mono (h pins s σ H Q (I.wish _) hw) (fun _ _ ⟨v, H', I', r, q⟩ => ⟨v, H', I'.unwish, r, q⟩) fun _ _ z => False.elim z
theorem PT.nox {e : Expr} {t : TT} (h : PT X.nox e t) : PT X e t := fun pins s σ H Q I hw =>
  wpAny_mono (h pins s σ H Q (I.wish _) hw) (fun _ _ ⟨H', I', q⟩ => ⟨H', I'.unwish, q⟩) fun _ _ z => False.elim z
theorem PSs.nox {st : List Stmt} {t : TS} (h : PSs X.nox st t) : PSs X st t := fun pins s σ H D I hw =>
  wpAny_mono (h pins s σ H D (I.wish _) hw) (fun _ _ q => q.unwish) fun _ _ z => False.elim z
end

/-! ### blocks and small statements -/
section
variable {X : Cx} {st : Stmt} {rest : List Stmt} {t u : TS} {e : Expr} {te : TE} {pos : Pos}
def tNext : TS := fun D σ H => D.nx σ H
def tSeq (t u : TS) : TS := fun D σ H => t { D with nx := u D } σ H
theorem pss_nil : PSs X [] tNext := fun _ _ σ H _ I h => wpAny_execs_nil ⟨σ, H, I, h⟩
theorem pss_cons (h1 : PS X st t) (h2 : PSs X rest u) : PSs X (st :: rest) (tSeq t u) := by
  intro pins s σ H D I h
  refine wpAny_execs_cons (thn (h1 pins s σ H { D with nx := u D } I h) fun f s1 q => ?_)
  cases f with
  | next =>
    obtain ⟨σ', H', I', q⟩ := q
    exact h2 pins s1 σ' H' D I' q
  | ret v => exact q
  | brk => exact q
  | cont => exact q
theorem pss_one (h1 : PS X st t) : PSs X [st] t := by
  intro pins s σ H D I h
  refine wpAny_execs_cons (thn (h1 pins s σ H D I h) fun f s1 q => ?_)
  cases f with
  | next => exact wpAny_execs_nil q
  | ret v => exact q
  | brk => exact q
  | cont => exact q
def tBreak : TS := fun D σ H => D.bk σ H
def tCont : TS := fun D σ H => D.ct σ H
/-- in a def's body nothing is shown -/
theorem Inv.quiet {pins : List (Addr × Obj)} {σ : St} {H : Hp} {s : Shared} (I : Inv X pins σ H s) : interactive X.env = false := by simp [interactive, I.ok.kind]
/-- an expression whose value is dropped -/
def tDrop (te : TE) : TS := fun D σ H => te σ H fun _ H1 => D.nx σ H1
theorem ps_expr (he : PE X e te) (hs : swapsWith e none pos.line X.env = pure false := by rfl) : PS X (.Expr e pos) (tDrop te) := by
  intro pins s σ H D I h
  exact wpAny_Expr_any (thn (he pins s σ H _ I h) fun v s1 ⟨x, H1, I1, r1, q1⟩ => ⟨σ, H1, I1, q1⟩) I.quiet hs
def tRet (te : TE) : TS := fun D σ H => te σ H D.rt
theorem ps_ret (he : PE X e te) : PS X (.Return (some e) pos) (tRet te) := by
  intro pins s σ H D I h
  exact wpAny_Return_some (thn (he pins s σ H _ I h) fun v s1 ⟨x, H1, I1, r1, q1⟩ => ⟨x, σ, H1, I1, r1, q1⟩)
def tRetN : TS := fun D _ H => D.rt .non H
def tIfS (c : TT) (t u : TS) : TS := fun D σ H => c σ H fun b H1 => if b = true then t D σ H1 else u D σ H1
theorem ps_if {c : Expr} {a b : List Stmt} {tc : TT} (hc : PT X c tc) (ha : PSs X a t) (hb : PSs X b u) : PS X (.If c a b pos) (tIfS tc t u) := by
  intro pins s σ H D I h
  refine wpAny_If (thn (hc pins s σ H _ I h) fun d s1 ⟨H1, I1, q1⟩ => ?_)
  cases d with
  | true => exact ha pins s1 σ H1 D I1 q1
  | false => exact hb pins s1 σ H1 D I1 q1
/-- code that the proof never comes to -/
def tNever : TS := fun _ _ _ => False
theorem ps_never : PS X st tNever := fun _ _ _ _ _ _ h => h.elim
end

/-! ### targets -/
abbrev TG := V → St → Hp → (St → Hp → Prop) → Prop
abbrev TGs := List V → St → Hp → (St → Hp → Prop) → Prop
def PG (X : Cx) (target : Expr) (t : TG) : Prop :=
  ∀ (pins : List (Addr × Obj)) (s : Shared) (σ : St) (H : Hp) (v : V) (u : Value) (Q : St → Hp → Prop), Inv X pins σ H s → RelV v u → t v σ H Q →
    wpAny (model X.prog X.w) X.A (assign target X.env u) (fun _ s' => ∃ σ' H', Inv X pins σ' H' s' ∧ Q σ' H') X.xe s
section
variable {X : Cx} {pos : Pos}
def gName (i : Nat) : TG := fun v σ H Q => Q (σ.set i (some v)) H
theorem pg_name {i : Nat} {x : Str} (hN : X.N.Nodup) (hi : X.N[i]? = some x) (hx : Loc X.env.scope x) (hf : X.fn x = true ∨ X.env.scope.names.lookup x = some .local := by first | exact .inl rfl | exact .inr rfl | assumption) : PG X (.Name x pos) (gName i) := by
  intro pins s σ H v u Q I r h
  exact wpAny_assign_Name (store_ok I hN hi hx r (fun s' I' => ⟨_, H, I', h⟩) hf)
def gNil : TGs := fun vs σ H Q => vs = [] ∧ Q σ H
def gCons (t : TG) (u : TGs) : TGs := fun vs σ H Q => ∃ v r, vs = v :: r ∧ t v σ H fun σ' H' => u r σ' H' Q
/-- (a, b, ..) = a tuple of that length -/
def gTup (K : PySem.W.Frag) (n : Nat) (t : TGs) : TG := fun v σ H Q => ∃ a xs, v = .ref a ∧ SqT K H a xs ∧ xs.length = n ∧ t xs σ H Q
/-- target = value -/
def tAsg (te : TE) (g : TG) : TS := fun D σ H => te σ H fun x H1 => g x σ H1 D.nx
/-- name = value -/
theorem ps_set {i : Nat} {x : Str} {e : Expr} {te : TE} {pos' : Pos} (hN : X.N.Nodup) (hi : X.N[i]? = some x) (hx : Loc X.env.scope x) (he : PE X e te) (hs : swapsWith e (some (.Name x pos')) pos.line X.env = pure false := by rfl) (hf : X.fn x = true ∨ X.env.scope.names.lookup x = some .local := by first | exact .inl rfl | exact .inr rfl | assumption) :
    PS X (.Assign [.Name x pos'] e pos) (tAsg te (gName i)) := by
  intro pins s σ H D I h
  refine wpAny_Assign_Name (thn (he pins s σ H _ I h) fun v s1 ⟨y, H1, I1, r1, q1⟩ => ?_) hs
  exact store_ok I1 hN hi hx r1 (fun s2 I2 => ⟨_, H1, I2, q1⟩) hf
end

/-! ### while -/
section
variable {X : Cx} {pos : Pos}
/-- the invariant W with its measure -/
def tWhile (c : TT) (tb : TS) : TS := fun D σ H => ∃ W : Nat → St → Hp → Prop, (∃ m, W m σ H) ∧ ∀ m σ H, W m σ H →
  c σ H fun b H1 => if b = true then ∃ N : St → Hp → Prop, (∀ σ' H', N σ' H' → ∃ m', m' < m ∧ W m' σ' H') ∧ tb { D with nx := N, ct := N, bk := D.nx } σ H1 else D.nx σ H1
theorem ps_while {c : Expr} {body : List Stmt} {tc : TT} {tb : TS} (hp : PassesOwn (model X.prog X.w) X.A X.env X.xe) (hc : PT X c tc) (hb : PSs X body tb) : PS X (.While c body [] pos) (tWhile tc tb) := by
  intro pins s σ H D I h
  obtain ⟨W, ⟨m0, w0⟩, turn⟩ := h
  refine wpAny_While (codeAny_whileLoop (fun n s' => ∃ σ' H', Inv X pins σ' H' s' ∧ W n σ' H') ?_ m0 ⟨σ, H, I, w0⟩)
  rintro n s1 ⟨σ1, H1, I1, w1⟩
  refine wpAny_passesOwn hp (thn (hc pins s1 σ1 H1 _ I1 (turn n σ1 H1 w1)) fun b s2 ⟨H2, I2, q2⟩ => ?_)
  cases b with
  | true =>
    obtain ⟨N, hN, q2⟩ := q2
    rw [if_pos rfl]
    refine wpAny_passesOwn hp (thn (hb pins s2 σ1 H2 _ I2 q2) fun f s3 q3 => ?_)
    cases f with
    | next =>
      obtain ⟨σ3, H3, I3, n3⟩ := q3
      obtain ⟨m', hm, w3⟩ := hN σ3 H3 n3
      exact ⟨m', hm, σ3, H3, I3, w3⟩
    | cont =>
      obtain ⟨σ3, H3, I3, n3⟩ := q3
      obtain ⟨m', hm, w3⟩ := hN σ3 H3 n3
      exact ⟨m', hm, σ3, H3, I3, w3⟩
    | brk => exact q3
    | ret v => exact q3
  | false =>
    rw [if_neg Bool.false_ne_true]
    exact wpAny_execs_nil ⟨σ1, H2, I2, q2⟩
end

/-! ### what a loop or a comprehension walks -/
/-- at turn i: it yields x (the heap may grow), or it stops -/
structure It where
  go : Nat → Hp → Prop
  yld : Nat → Hp → V → Hp → Prop
  stop : Nat → Hp → Prop
/-- the iterator's own objects may turn: they are not the frame's, not pinned, younger than the entry (or a comprehension's own) -/
def FpOk (X : Cx) (pins : List (Addr × Obj)) (H : Hp) (b : Addr) : Prop :=
  H b = none ∧ b ≠ X.env.locals ∧ b ∉ X.fs ∧ (b ∈ X.ex ∨ X.s₀.heap.objs.size ≤ b) ∧ (∀ x c, X.env.cells.lookup x = some c → c ≠ b) ∧ ∀ p ∈ X.pn ++ pins, p.1 ≠ b
theorem Inv.fpOk {X : Cx} {pins : List (Addr × Obj)} {σ : St} {H H' : Hp} {s : Shared} {b : Addr} (I : Inv X pins σ H s) (hb : s.heap.objs.size ≤ b) (hn : H' b = none) : FpOk X pins H' b := by
  refine ⟨hn, Nat.ne_of_gt (Nat.lt_of_lt_of_le I.lt hb), I.nofs hb, .inr (Nat.le_trans I.sz hb), fun x c e z => ?_, fun p hp z => ?_⟩
  · obtain ⟨v, q⟩ := I.cell x c e
    exact absurd (Nat.lt_of_lt_of_le q.lt (by rw [z]; exact hb)) (Nat.lt_irrefl _)
  · exact absurd (Nat.lt_of_lt_of_le (Heap.lt_size (I.pin p hp).1) (by rw [z]; exact hb)) (Nat.lt_irrefl _)
structure Turn (P : Program) (w : World) (K : PySem.W.Frag) (tg : Expr) (J : It) (fp : List Addr) (it : Addr) (tn : Nat → Heap → Prop) : Prop where
  mem : it ∈ fp
  obj : ∀ i h, tn i h → ∀ b ∈ fp, ∃ o, h.get? b = some o ∧ ∀ v, o.data ≠ .cell v
  keep : ∀ i h h', tn i h → (∀ b ∈ fp, ∀ o, h.get? b = some o → h'.get? b = some o) → tn i h'
  item : ∀ (X : Cx), X.prog = P → X.w = w → X.K = K → X.calm = true → ∀ (i : Nat) (pins : List (Addr × Obj)) (s : Shared) (σ : St) (H : Hp) (E : Value → Shared → Prop), Inv X pins σ H s → (∀ b ∈ fp, FpOk X pins H b) → tn i s.heap → J.go i H →
    wpAny (model P w) X.A (pyNext (.ref it)) (fun r s1 => ∃ u, r = some u ∧
      wpAny (model P w) X.A (letOwnedTupleGo tg (.ref it) u) (fun _ s2 => ∃ x H', Inv X pins σ H' s2 ∧ RelV x u ∧ J.yld i H x H' ∧ tn (i + 1) s2.heap ∧ ∀ b ∈ fp, H' b = none) E s1) E s
  done : ∀ (X : Cx), X.prog = P → X.w = w → X.K = K → X.calm = true → ∀ (i : Nat) (pins : List (Addr × Obj)) (s : Shared) (σ : St) (H : Hp) (E : Value → Shared → Prop), Inv X pins σ H s → (∀ b ∈ fp, FpOk X pins H b) → tn i s.heap → J.stop i H →
    wpAny (model P w) X.A (pyNext (.ref it)) (fun r s1 => r = none ∧ Inv X pins σ H s1) E s
  self : ∀ (A : Around) (i : Nat) (s : Shared) (Q : Value → Shared → Prop) (E : Value → Shared → Prop), tn i s.heap → Q (.ref it) s → wpAny (model P w) A (pyIter (.ref it)) Q E s
abbrev TI := St → Hp → (It → Hp → Prop) → Prop
/-- an iterator has come -/
def PIE (X : Cx) (pins : List (Addr × Obj)) (σ : St) (tg : Expr) (R : It → Hp → Prop) (itv : Value) (s2 : Shared) : Prop :=
  ∃ (it : Addr) (fp : List Addr) (tn : Nat → Heap → Prop) (J : It) (H' : Hp), itv = .ref it ∧ Inv X pins σ H' s2 ∧ Turn X.prog X.w X.K tg J fp it tn ∧ tn 0 s2.heap ∧ (∀ b ∈ fp, FpOk X pins H' b) ∧ R J H'
def PI (X : Cx) (tg iter : Expr) (wi : TI) : Prop :=
  ∀ (pins : List (Addr × Obj)) (s : Shared) (σ : St) (H : Hp) (R : It → Hp → Prop), Inv X pins σ H s → wi σ H R →
    wpAny (model X.prog X.w) X.A (eval iter X.env) (fun v s1 => wpAny (model X.prog X.w) X.A (pyIter v) (PIE X pins σ tg R) X.xe s1) X.xe s

/-- the step ahead of the store is nothing for an iterator that keeps no tuple -/
theorem go_of {M : Model} {A : Around} {E : Value → Shared → Prop} {s : Shared} {tg : Expr} {it : Addr} {u : Value} {o : Obj} {n : String} {vs : Array Value} {Q : Unit → Shared → Prop} (ho : s.heap.get? it = some o) (hc : o.cls = .type n) (hd : o.data = .fields vs)
    (hn : ["enumerate", "zip", "dict_itemiterator", "dict_reverseitemiterator", "odict_iterator", "itertools.zip_longest", "itertools.pairwise"].contains n = false) (hQ : Q () s) : wpAny M A (letOwnedTupleGo tg (.ref it) u) Q E s := by
  unfold letOwnedTupleGo
  cases tg <;> first
    | exact wpAny_pure hQ
    | (cases u <;> first
        | exact wpAny_pure hQ
        | (refine wpAny_bind (wpAny_load ho ?_)
           rw [hc, hd]
           show wpAny M A (if (["enumerate", "zip", "dict_itemiterator", "dict_reverseitemiterator", "odict_iterator", "itertools.zip_longest", "itertools.pairwise"].contains n && vs[0]? == some (rawInt _)) = true then _ else _) Q E s
           rw [if_neg (by intro h; rw [hn, Bool.false_and] at h; cases h)]
           exact wpAny_pure hQ))

/-- the list at a, as it stands at each turn (a loop may append to it) -/
def Itl (K : PySem.W.Frag) (a : Addr) : It :=
  ⟨fun i H => ∃ xs x, SqL K H a xs ∧ xs[i]? = some x, fun i H x H' => H' = H ∧ ∀ xs, SqL K H a xs → xs[i]? = some x, fun i H => ∃ xs, SqL K H a xs ∧ xs.length ≤ i⟩
def Itt (K : PySem.W.Frag) (a : Addr) : It :=
  ⟨fun i H => ∃ xs x, SqT K H a xs ∧ xs[i]? = some x, fun i H x H' => H' = H ∧ ∀ xs, SqT K H a xs → xs[i]? = some x, fun i H => ∃ xs, SqT K H a xs ∧ xs.length ≤ i⟩
/-- lo, lo + 1, .. (n of them) -/
def Itr (lo : Int) (n : Nat) : It := ⟨fun i _ => i < n, fun i H x H' => H' = H ∧ x = .int (lo + i), fun i _ => n ≤ i⟩
theorem turn_list {P : Program} {w : World} {K : PySem.W.Frag} {tg : Expr} (a it : Addr) : Turn P w K tg (Itl K a) [it] it (fun i h => h.IsListIter it a i) where
  mem := by simp
  obj := fun i h st b hb => by
    have e : b = it := by simpa using hb
    subst e
    obtain ⟨o, e, c, d⟩ := st
    exact ⟨o, e, fun v z => by rw [d] at z; cases z⟩
  keep := fun i h h' st k => st.at fun o e => k it (by simp) o e
  item := by
    intro X hP hw hK hc i pins s σ H E I hf st hg
    subst hP hw hK
    obtain ⟨xs, x, hq, hx⟩ := hg
    obtain ⟨its, rv, p, hz⟩ := I.list hq
    obtain ⟨u, hu, ru⟩ := rv.get hx
    obtain ⟨f0, f1, f2, f3, f4, f5⟩ := hf it (by simp)
    refine wpAny_pyNext_list_item st p.isList (x := u) (by simpa using hu) fun h' st' sb => ?_
    have I1 : Inv X pins σ H { s with heap := h' } := I.turned (t' := s.toks) (fun b o hb e => (sb.2 b hb).trans e) f0 f1 f3 f4 f5
    obtain ⟨o, e, c, d⟩ := id st'
    exact ⟨u, rfl, go_of (s := { s with heap := h' }) e c d (by decide) ⟨x, H, I1, ru, ⟨rfl, fun ys hy => by rw [I.list_inj hy hq]; exact hx⟩, st', fun b hb => (hf b hb).1⟩⟩
  done := by
    intro X hP hw hK hc i pins s σ H E I hf st hg
    subst hP hw hK
    obtain ⟨xs, hq, hx⟩ := hg
    obtain ⟨its, rv, p, hz⟩ := I.list hq
    obtain ⟨f0, f1, f2, f3, f4, f5⟩ := hf it (by simp)
    have hl := rv.length
    exact wpAny_pyNext_list_end (I.ok.hd hc) st p.isList (by simp; omega) fun h' eb => ⟨rfl, I.turned (t' := s.toks) (fun b o hb e => eb b o hb e) f0 f1 f3 f4 f5⟩
  self := fun _ _ _ _ _ st h => wpAny_pyIter_listiter st h
theorem turn_tuple {P : Program} {w : World} {K : PySem.W.Frag} {tg : Expr} (a it : Addr) : Turn P w K tg (Itt K a) [it] it (fun i h => h.IsTupleIter it a i) where
  mem := by simp
  obj := fun i h st b hb => by
    have e : b = it := by simpa using hb
    subst e
    obtain ⟨o, e, c, d⟩ := st
    exact ⟨o, e, fun v z => by rw [d] at z; cases z⟩
  keep := fun i h h' st k => st.at fun o e => k it (by simp) o e
  item := by
    intro X hP hw hK hc i pins s σ H E I hf st hg
    subst hP hw hK
    obtain ⟨xs, x, hq, hx⟩ := hg
    obtain ⟨its, rv, p, hz⟩ := I.tuple hq
    obtain ⟨u, hu, ru⟩ := rv.get hx
    obtain ⟨f0, f1, f2, f3, f4, f5⟩ := hf it (by simp)
    refine wpAny_pyNext_tuple_item st (show s.heap.IsTuple a its.toArray from p) (x := u) (by simpa using hu) fun h' st' sb => ?_
    have I1 : Inv X pins σ H { s with heap := h' } := I.turned (t' := s.toks) (fun b o hb e => (sb.2 b hb).trans e) f0 f1 f3 f4 f5
    obtain ⟨o, e, c, d⟩ := id st'
    exact ⟨u, rfl, go_of (s := { s with heap := h' }) e c d (by decide) ⟨x, H, I1, ru, ⟨rfl, fun ys hy => by rw [I.tuple_inj hy hq]; exact hx⟩, st', fun b hb => (hf b hb).1⟩⟩
  done := by
    intro X hP hw hK hc i pins s σ H E I hf st hg
    subst hP hw hK
    obtain ⟨xs, hq, hx⟩ := hg
    obtain ⟨its, rv, p, hz⟩ := I.tuple hq
    obtain ⟨f0, f1, f2, f3, f4, f5⟩ := hf it (by simp)
    have hl := rv.length
    exact wpAny_pyNext_tuple_end (I.ok.hd hc) st (show s.heap.IsTuple a its.toArray from p) (by simp; omega) fun h' eb => ⟨rfl, I.turned (t' := s.toks) (fun b o hb e => eb b o hb e) f0 f1 f3 f4 f5⟩
  self := fun _ _ _ _ _ st h => wpAny_pyIter_tupleiter st h
theorem turn_range {P : Program} {w : World} {K : PySem.W.Frag} {tg : Expr} (it : Addr) (lo : Int) (n : Nat) : Turn P w K tg (Itr lo n) [it] it (fun i h => IsRangeIter h it (lo + (i : Nat) * 1) ((n : Int) - (i : Nat)) 1) where
  mem := by simp
  obj := fun i h st b hb => by
    have e : b = it := by simpa using hb
    subst e
    exact ⟨_, st, fun v z => by
      have z' : Data.fields _ = Data.cell v := z
      cases z'⟩
  keep := fun i h h' st k => k it (by simp) _ st
  item := by
    intro X hP hw hK hc i pins s σ H E I hf st hg
    subst hP hw hK
    obtain ⟨f0, f1, f2, f3, f4, f5⟩ := hf it (by simp)
    have W := Walks.range (prog := X.prog) (w := X.w) (I.ok.hd hc) it lo 1 n
    refine W.item i s _ _ hg st fun v h' tk hv st' kk => ?_
    obtain ⟨t, rfl⟩ := hv
    have I1 : Inv X pins σ H { s with heap := h', toks := tk } := I.turned (fun b o hb e => kk b o (by simpa using hb) e) f0 f1 f3 f4 f5
    refine ⟨_, rfl, go_of (s := { s with heap := h', toks := tk }) (n := "range_iterator") st' rfl rfl (by decide) ⟨.int (lo + i), H, I1, ⟨t, ?_⟩, ⟨rfl, rfl⟩, st', fun b hb => (hf b hb).1⟩⟩
    rw [Int.mul_one]
  done := by
    intro X hP hw hK hc i pins s σ H E I hf st hg
    subst hP hw hK
    obtain ⟨f0, f1, f2, f3, f4, f5⟩ := hf it (by simp)
    exact wpAny_pyNext_range_end (I.ok.hd hc) st (by have : n ≤ i := hg; omega) fun h' eb => ⟨rfl, I.turned (t' := s.toks) (fun b o hb e => eb b o hb e) f0 f1 f3 f4 f5⟩
  self := fun _ _ _ _ _ st h => wpAny_pyIter_rangeiter st h
end L2

namespace L2
open PySem PySem.Spec PyProof.Rows
section
variable {X : Cx} {tg : Expr}
def iList (K : PySem.W.Frag) (tl : TE) : TI := fun σ H R => tl σ H fun x H1 => ∃ a, x = .ref a ∧ (∃ xs, SqL K H1 a xs) ∧ R (Itl K a) H1
def iTup (K : PySem.W.Frag) (tl : TE) : TI := fun σ H R => tl σ H fun x H1 => ∃ a, x = .ref a ∧ (∃ xs, SqT K H1 a xs) ∧ R (Itt K a) H1
theorem pi_list {l : Expr} {tl : TE} (hl : PE X l tl) : PI X tg l (iList X.K tl) := by
  intro pins s σ H R I h
  refine thn (hl pins s σ H _ I h) fun v s1 ⟨x, H1, I1, r1, q1⟩ => ?_
  obtain ⟨a, e, ⟨xs, hq⟩, q⟩ := q1
  subst e
  cases r1
  obtain ⟨its, rv, p, hz⟩ := I1.list hq
  refine wpAny_pyIter_list p.isList ?_
  refine ⟨s1.heap.objs.size, [s1.heap.objs.size], _, _, H1, rfl, I1.kept (t' := s1.toks) fun b o e => Heap.get?_push_of_some _ e, turn_list a _, ⟨_, Heap.get?_push_size _ rfl, rfl, rfl⟩, fun b hb => ?_, q⟩
  have e : b = s1.heap.objs.size := by simpa using hb
  subst e
  exact I1.fpOk (Nat.le_refl _) (I1.hok.fresh (Nat.le_refl _))
theorem pi_tup {l : Expr} {tl : TE} (hl : PE X l tl) : PI X tg l (iTup X.K tl) := by
  intro pins s σ H R I h
  refine thn (hl pins s σ H _ I h) fun v s1 ⟨x, H1, I1, r1, q1⟩ => ?_
  obtain ⟨a, e, ⟨xs, hq⟩, q⟩ := q1
  subst e
  cases r1
  obtain ⟨its, rv, p, hz⟩ := I1.tuple hq
  refine wpAny_pyIter_tuple (show s1.heap.IsTuple a its.toArray from p) ?_
  refine ⟨s1.heap.objs.size, [s1.heap.objs.size], _, _, H1, rfl, I1.kept (t' := s1.toks) fun b o e => Heap.get?_push_of_some _ e, turn_tuple a _, ⟨_, Heap.get?_push_size _ rfl, rfl, rfl⟩, fun b hb => ?_, q⟩
  have e : b = s1.heap.objs.size := by simpa using hb
  subst e
  exact I1.fpOk (Nat.le_refl _) (I1.hok.fresh (Nat.le_refl _))
/-- a range object just made, walked -/
theorem range_it {pins : List (Addr × Obj)} {σ : St} {H : Hp} {s : Shared} {R : It → Hp → Prop} {E : Value → Shared → Prop} {lo hi : Int} {t u v : Tok} {tk : Nat} (I : Inv X pins σ H s) (h1 : -(2 ^ 62) ≤ lo) (h2 : lo < 2 ^ 62) (h3 : -(2 ^ 62) ≤ hi) (h4 : hi < 2 ^ 62)
    (q : R (Itr lo (hi - lo).toNat) H) : wpAny (model X.prog X.w) X.A (pyIter (.ref s.heap.objs.size)) (PIE X pins σ tg R) E { s with heap := s.heap.push { cls := .type "range", data := .fields #[.int lo t, .int hi u, .int 1 v] }, toks := tk } := by
  refine wpAny_pyIter_range (IsRange.new ..) (small_one h1 h2 h3 h4) ?_
  have I1 : Inv X pins σ H { s with heap := s.heap.push { cls := .type "range", data := .fields #[.int lo t, .int hi u, .int 1 v] }, toks := tk } := I.kept fun b o e => Heap.get?_push_of_some _ e
  refine ⟨(s.heap.push { cls := .type "range", data := .fields #[.int lo t, .int hi u, .int 1 v] }).objs.size, [(s.heap.push { cls := .type "range", data := .fields #[.int lo t, .int hi u, .int 1 v] }).objs.size], _, _, H, rfl,
    I1.kept (t' := tk) fun b o e => Heap.get?_push_of_some _ e, turn_range _ lo (hi - lo).toNat, ?_, fun b hb => ?_, q⟩
  · have e1 : lo + ((0 : Nat) : Int) * 1 = lo := by simp
    have e2 : (((hi - lo).toNat : Nat) : Int) - ((0 : Nat) : Int) = Builtin.Range.rangeSize lo hi 1 := by rw [rangeSize_one]; split <;> omega
    show IsRangeIter _ _ (lo + ((0 : Nat) : Int) * 1) ((((hi - lo).toNat : Nat) : Int) - ((0 : Nat) : Int)) 1
    rw [e1, e2]
    exact Heap.get?_push_size _ rfl
  · have e : b = (s.heap.push { cls := .type "range", data := .fields #[.int lo t, .int hi u, .int 1 v] }).objs.size := by simpa using hb
    subst e
    exact I1.fpOk (Nat.le_refl _) (I1.hok.fresh (Nat.le_refl _))
def iRng1 (ta : TA) : TI := fun σ H R => ta σ H fun vs H1 => ∃ j : Int, vs = [.int j] ∧ -(2 ^ 62) ≤ j ∧ j < 2 ^ 62 ∧ R (Itr 0 j.toNat) H1
def iRng2 (ta : TA) : TI := fun σ H R => ta σ H fun vs H1 => ∃ i j : Int, vs = [.int i, .int j] ∧ (-(2 ^ 62) ≤ i ∧ i < 2 ^ 62 ∧ -(2 ^ 62) ≤ j ∧ j < 2 ^ 62) ∧ R (Itr i (j - i).toNat) H1
theorem pi_range1 {a : Expr} {ta : TA} {p pos : Pos} (hg : Gl X "range") (hm : X.mg "range" = none) (ha : PA X [a] ta) (hs : starEach [a] X.env = [(false, eval a X.env)] := by rfl) : PI X tg (.Call (.Name "range" p) [a] [] pos) (iRng1 ta) := by
  intro pins s σ H R I h
  refine Call_ (ld_blt I hg hm boot_range (PyProof.Rows.callWith_type1 (thn (ha pos pins s σ H _ I h) fun us s1 ⟨vs, H1, I1, r1, q1⟩ => ?_) hs rfl))
  obtain ⟨j, e, q1, q2, q⟩ := q1
  subst e
  cases r1 with
  | cons r rr =>
    cases rr
    obtain ⟨t, rfl⟩ := r
    exact call_range_1 (range_it I1 (by omega) (by omega) q1 q2 (by simpa using q))
/-! ### for -/
/-- W: the invariant by the turn and a measure; N: what the body is to reach -/
def tFor (wi : TI) (g : TG) (tb : TS) : TS := fun D σ H => wi σ H fun J H1 => ∃ W : Nat → Nat → St → Hp → Prop, (∃ m, W 0 m σ H1) ∧ ∀ i m σ H, W i m σ H →
  (J.stop i H ∧ D.nx σ H) ∨ (J.go i H ∧ ∃ N : St → Hp → Prop, (∀ σ' H', N σ' H' → ∃ m', m' < m ∧ W (i + 1) m' σ' H') ∧ ∀ x H', J.yld i H x H' → g x σ H' fun σ2 H2 => tb { D with nx := N, ct := N, bk := D.nx } σ2 H2)
/-- the records at fp as they stand -/
def pinsAt (fp : List Addr) (h : Heap) : List (Addr × Obj) := fp.filterMap fun b => (h.get? b).map fun o => (b, o)
theorem mem_pinsAt {fp : List Addr} {h : Heap} {b : Addr} {o : Obj} (hb : b ∈ fp) (e : h.get? b = some o) : (b, o) ∈ pinsAt fp h := List.mem_filterMap.mpr ⟨b, hb, by rw [e]; rfl⟩
theorem of_pinsAt {fp : List Addr} {h : Heap} {p : Addr × Obj} (hp : p ∈ pinsAt fp h) : p.1 ∈ fp ∧ h.get? p.1 = some p.2 := by
  obtain ⟨b, hb, e⟩ := List.mem_filterMap.mp hp
  cases q : h.get? b with
  | none => rw [q] at e; cases e
  | some o =>
    rw [q] at e
    have e' : (b, o) = p := Option.some.inj e
    subst e'
    exact ⟨hb, q⟩
theorem Inv.pinned {pins : List (Addr × Obj)} {σ : St} {H : Hp} {s : Shared} {fp : List Addr} (I : Inv X pins σ H s) (hf : ∀ b ∈ fp, FpOk X pins H b) (ho : ∀ b ∈ fp, ∃ o, s.heap.get? b = some o ∧ ∀ v, o.data ≠ .cell v) : Inv X (pins ++ pinsAt fp s.heap) σ H s :=
  I.pins_of fun p hp => (List.mem_append.mp hp).elim (fun z => I.pin p (List.mem_append_right _ z)) fun z => by
    obtain ⟨hb, e⟩ := of_pinsAt z
    obtain ⟨f0, f1, f2, _⟩ := hf p.1 hb
    obtain ⟨o, e', d⟩ := ho p.1 hb
    rw [e] at e'; cases e'
    exact ⟨e, f0, f1, f2, d⟩
theorem Inv.unpinned {pins pl : List (Addr × Obj)} {σ : St} {H : Hp} {s : Shared} (I : Inv X (pins ++ pl) σ H s) : Inv X pins σ H s := I.pins_of fun p hp => I.pin p (List.mem_append_right _ (List.mem_append_left _ hp))
theorem ps_for {iter : Expr} {body : List Stmt} {wi : TI} {g : TG} {tb : TS} {pos : Pos} (hp : PassesOwn (model X.prog X.w) X.A X.env X.xe) (hc : X.calm = true) (hi : PI X tg iter wi) (hg : PG X tg g) (hb : PSs X body tb)
    (hs : ∀ x, foldedSetIterable iter X.env x = pure x := by intro _; rfl) : PS X (.For tg iter body [] pos) (tFor wi g tb) := by
  intro pins s σ H D I h
  refine wpAny_For (thn (hi pins s σ H _ I h) fun v s1 h1 => thn h1 fun itv s2 h2 => ?_) hs
  obtain ⟨it, fp, tn, J, H2, e, I2, T, st2, f2, W, ⟨m0, w0⟩, turn⟩ := h2
  subst e
  -- what stays true of the iterator's objects through the loop
  have stat : ∀ {H' : Hp}, (∀ b ∈ fp, H' b = none) → ∀ b ∈ fp, FpOk X pins H' b := fun hn b hb => ⟨hn b hb, (f2 b hb).2⟩
  refine codeAny_forLoop_any (fun n s' => ∃ i σ' H', Inv X pins σ' H' s' ∧ tn i s'.heap ∧ (∀ b ∈ fp, H' b = none) ∧ W i n σ' H') ?_ m0 ⟨0, σ, H2, I2, st2, fun b hb => (f2 b hb).1, w0⟩
  rintro n s3 ⟨i, σ3, H3, I3, st3, fr3, w3⟩
  rcases turn i n σ3 H3 w3 with ⟨stop, qn⟩ | ⟨go, N, hN, step⟩
  · refine wpAny_passesOwn hp (thn (T.done X rfl rfl rfl hc i pins s3 σ3 H3 X.xe I3 (stat fr3) st3 stop) fun r s4 ⟨hr, I4⟩ => ?_)
    subst hr
    exact wpAny_execs_nil ⟨σ3, H3, I4, qn⟩
  · refine wpAny_passesOwn hp (thn (T.item X rfl rfl rfl hc i pins s3 σ3 H3 X.xe I3 (stat fr3) st3 go) fun r s4 ⟨u, hr, h4⟩ => ?_)
    subst hr
    refine wpAny_passesOwn hp (thn h4 fun _ s5 ⟨x, H5, I5, r5, y5, st5, fr5⟩ => ?_)
    have I5' := I5.pinned (stat fr5) (T.obj _ _ st5)
    refine wpAny_passesOwn hp (thn (hg _ s5 σ3 H5 x u _ I5' r5 (step x H5 y5)) fun _ s6 ⟨σ6, H6, I6, q6⟩ => ?_)
    refine wpAny_passesOwn hp (thn (hb _ s6 σ6 H6 _ I6 q6) fun f s7 q7 => ?_)
    have again : ∀ {σ7 : St} {H7 : Hp}, Inv X (pins ++ pinsAt fp s5.heap) σ7 H7 s7 → N σ7 H7 → ∃ m, m < n ∧ ∃ i σ' H', Inv X pins σ' H' s7 ∧ tn i s7.heap ∧ (∀ b ∈ fp, H' b = none) ∧ W i m σ' H' := fun {σ7 H7} I7 n7 => by
      obtain ⟨m', hm, w7⟩ := hN σ7 H7 n7
      refine ⟨m', hm, i + 1, σ7, H7, I7.unpinned, T.keep _ _ _ st5 fun b hb o e => (I7.pin (b, o) (List.mem_append_right _ (List.mem_append_right _ (mem_pinsAt hb e)))).1, fun b hb => ?_, w7⟩
      obtain ⟨o, e, d⟩ := T.obj _ _ st5 b hb
      exact (I7.pin (b, o) (List.mem_append_right _ (List.mem_append_right _ (mem_pinsAt hb e)))).2.1
    cases f with
    | next => obtain ⟨σ7, H7, I7, n7⟩ := q7; exact again I7 n7
    | cont => obtain ⟨σ7, H7, I7, n7⟩ := q7; exact again I7 n7
    | brk => obtain ⟨σ7, H7, I7, q7⟩ := q7; exact ⟨σ7, H7, I7.unpinned, q7⟩
    | ret v => obtain ⟨x7, σ7, H7, I7, r7, q7⟩ := q7; exact ⟨x7, σ7, H7, I7.unpinned, r7, q7⟩
end

/-! ### the forms one uses -/
/-- over a list that the body leaves as it is -/
theorem for_list {K : PySem.W.Frag} {a : Addr} {xs : List V} {g : TG} {tb : TS} {D : Ends} {σ : St} {H : Hp} (Pv : Nat → St → Hp → Prop) (h0 : Pv 0 σ H) (hl : ∀ i σ H, i ≤ xs.length → Pv i σ H → SqL K H a xs)
    (hs : ∀ i x σ H, xs[i]? = some x → Pv i σ H → g x σ H fun σ2 H2 => tb { D with nx := Pv (i + 1), ct := Pv (i + 1), bk := D.nx } σ2 H2) (hd : ∀ σ H, Pv xs.length σ H → D.nx σ H) :
    ∃ W : Nat → Nat → St → Hp → Prop, (∃ m, W 0 m σ H) ∧ ∀ i m σ H, W i m σ H →
      ((Itl K a).stop i H ∧ D.nx σ H) ∨ ((Itl K a).go i H ∧ ∃ N : St → Hp → Prop, (∀ σ' H', N σ' H' → ∃ m', m' < m ∧ W (i + 1) m' σ' H') ∧ ∀ x H', (Itl K a).yld i H x H' → g x σ H' fun σ2 H2 => tb { D with nx := N, ct := N, bk := D.nx } σ2 H2) := by
  refine ⟨fun i m σ H => m = xs.length - i ∧ i ≤ xs.length ∧ Pv i σ H, ⟨xs.length, by simp, Nat.zero_le _, h0⟩, ?_⟩
  rintro i m σ H ⟨rfl, hi, p⟩
  have q := hl i σ H hi p
  by_cases hlt : i < xs.length
  · refine .inr ⟨⟨xs, xs[i], q, by simp [hlt]⟩, Pv (i + 1), fun σ' H' p' => ⟨xs.length - (i + 1), by omega, rfl, hlt, p'⟩, fun x H' y => ?_⟩
    obtain ⟨e, y⟩ := y
    subst e
    exact hs i x σ _ (y xs q) p
  · have e : i = xs.length := by omega
    subst e
    exact .inl ⟨⟨xs, q, Nat.le_refl _⟩, hd σ H p⟩
theorem for_range {lo : Int} {n : Nat} {g : TG} {tb : TS} {D : Ends} {σ : St} {H : Hp} (Pv : Nat → St → Hp → Prop) (h0 : Pv 0 σ H)
    (hs : ∀ i σ H, i < n → Pv i σ H → g (.int (lo + i)) σ H fun σ2 H2 => tb { D with nx := Pv (i + 1), ct := Pv (i + 1), bk := D.nx } σ2 H2) (hd : ∀ σ H, Pv n σ H → D.nx σ H) :
    ∃ W : Nat → Nat → St → Hp → Prop, (∃ m, W 0 m σ H) ∧ ∀ i m σ H, W i m σ H →
      ((Itr lo n).stop i H ∧ D.nx σ H) ∨ ((Itr lo n).go i H ∧ ∃ N : St → Hp → Prop, (∀ σ' H', N σ' H' → ∃ m', m' < m ∧ W (i + 1) m' σ' H') ∧ ∀ x H', (Itr lo n).yld i H x H' → g x σ H' fun σ2 H2 => tb { D with nx := N, ct := N, bk := D.nx } σ2 H2) := by
  refine ⟨fun i m σ H => m = n - i ∧ i ≤ n ∧ Pv i σ H, ⟨n, by simp, Nat.zero_le _, h0⟩, ?_⟩
  rintro i m σ H ⟨rfl, hi, p⟩
  by_cases hlt : i < n
  · refine .inr ⟨hlt, Pv (i + 1), fun σ' H' p' => ⟨n - (i + 1), by omega, rfl, hlt, p'⟩, fun x H' y => ?_⟩
    obtain ⟨e, y⟩ := y
    subst e y
    exact hs i σ _ hlt p
  · have e : i = n := by omega
    subst e
    exact .inl ⟨Nat.le_refl _, hd σ H p⟩
end L2

namespace L2
open PySem PySem.Spec PyProof.Rows

abbrev R2 := V → V → Hp → VK → Prop
/-- a two-place operation on values: f is binaryOp op, inplaceOp op or compareOp op -/
def OpR (X : Cx) (f : Value → Value → Sem Value) (r : R2) : Prop :=
  ∀ (pins : List (Addr × Obj)) (s : Shared) (σ : St) (H : Hp) (x y : V) (v u : Value) (Q : VK), Inv X pins σ H s → RelV x v → RelV y u → r x y H Q →
    wpAny (model X.prog X.w) X.A (f v u) (EP X pins σ Q) X.xe s
/-- a one-place operation -/
def UnR (X : Cx) (f : Value → Sem Value) (r : V → Hp → VK → Prop) : Prop :=
  ∀ (pins : List (Addr × Obj)) (s : Shared) (σ : St) (H : Hp) (x : V) (v : Value) (Q : VK), Inv X pins σ H s → RelV x v → r x H Q →
    wpAny (model X.prog X.w) X.A (f v) (EP X pins σ Q) X.xe s
/-- a call of a value that is known (a builtin, a type) with values -/
def CallR (X : Cx) (f : Value) (r : List V → Hp → VK → Prop) : Prop :=
  ∀ (pins : List (Addr × Obj)) (s : Shared) (σ : St) (H : Hp) (xs : List V) (us : List Value) (Q : VK), Inv X pins σ H s → Vals xs us → r xs H Q →
    wpAny (model X.prog X.w) X.A (call f us) (EP X pins σ Q) X.xe s
/-- a value's truth -/
def TruR (X : Cx) (r : V → Hp → (Bool → Hp → Prop) → Prop) : Prop :=
  ∀ (pins : List (Addr × Obj)) (s : Shared) (σ : St) (H : Hp) (x : V) (v : Value) (Q : Bool → Hp → Prop), Inv X pins σ H s → RelV x v → r x H Q →
    wpAny (model X.prog X.w) X.A (truthy v) (TP X pins σ Q) X.xe s

def tOp (r : R2) (ta tb : TE) : TE := fun σ H Q => ta σ H fun x H1 => tb σ H1 fun y H2 => r x y H2 Q
def tUn (r : V → Hp → VK → Prop) (ta : TE) : TE := fun σ H Q => ta σ H fun x H1 => r x H1 Q
/-- ints in, under C, and a value out -/
def rI (C : Int → Int → Prop) (g : Int → Int → V) : R2 := fun x y H Q => ∃ i j, x = .int i ∧ y = .int j ∧ C i j ∧ Q (g i j) H
def rI0 (g : Int → Int → V) : R2 := fun x y H Q => ∃ i j, x = .int i ∧ y = .int j ∧ Q (g i j) H
def rU (g : Int → V) : V → Hp → VK → Prop := fun x H Q => ∃ i, x = .int i ∧ Q (g i) H

section
variable {X : Cx} {a b c : Expr} {ta tb tc : TE} {pos : Pos}

theorem binT (ha : PE X a ta) (hb : PE X b tb) {pins : List (Addr × Obj)} {s : Shared} {σ : St} {H : Hp} {R : V → V → Hp → Prop} (I : Inv X pins σ H s)
    (h : ta σ H fun x H1 => tb σ H1 fun y H2 => R x y H2) {Q : Value → Shared → Prop} {f : Value → Value → Sem Value}
    (hf : ∀ v u s2 x y H2, Inv X pins σ H2 s2 → RelV x v → RelV y u → R x y H2 → wpAny (model X.prog X.w) X.A (f v u) Q X.xe s2) :
    wpAny (model X.prog X.w) X.A (eval a X.env) (fun v s₁ => wpAny (model X.prog X.w) X.A (eval b X.env) (fun u s₂ => wpAny (model X.prog X.w) X.A (f v u) Q X.xe s₂) X.xe s₁) X.xe s := by
  refine thn (ha pins s σ H _ I h) fun v s1 ⟨x, H1, I1, r1, q1⟩ => ?_
  refine thn (hb pins s1 σ H1 _ I1 q1) fun u s2 ⟨y, H2, I2, r2, q2⟩ => ?_
  exact hf v u s2 x y H2 I2 r1 r2 q2

theorem pe_op {op : Operator} {r : R2} (ho : OpR X (binaryOp op) r) (ha : PE X a ta) (hb : PE X b tb) : PE X (.BinOp a op b pos) (tOp r ta tb) := by
  intro pins s σ H Q I h
  exact wpAny_BinOp (binT ha hb I h fun v u s2 x y H2 I2 rx ry q => ho pins s2 σ H2 x y v u Q I2 rx ry q)
theorem pe_un {op : UnaryOp} {r : V → Hp → VK → Prop} (ho : UnR X (unaryOp op) r) (ha : PE X a ta) : PE X (.UnaryOp op a pos) (tUn r ta) := by
  intro pins s σ H Q I h
  exact UnaryOp_ (thn (ha pins s σ H _ I h) fun v s1 ⟨x, H1, I1, r1, q1⟩ => ho pins s1 σ H1 x v Q I1 r1 q1)
/-! ### ints -/
theorem opI {f : Value → Value → Sem Value} {C : Int → Int → Prop} {g : Int → Int → Int}
    (rule : ∀ (i j : Int) (t u : Tok) (s : Shared) (Q : Value → Shared → Prop) (E : Value → Shared → Prop), C i j → Q (.int (g i j) s.toks) { s with toks := s.toks + 1 } → wpAny (model X.prog X.w) X.A (f (.int i t) (.int j u)) Q E s) :
    OpR X f (rI C fun i j => .int (g i j)) := by
  intro pins s σ H x y v u Q I rx ry h
  obtain ⟨i, j, rfl, rfl, hc, q⟩ := h
  obtain ⟨t, rfl⟩ := rx
  obtain ⟨t', rfl⟩ := ry
  exact rule i j t t' s _ _ hc ⟨.int (g i j), H, I.tok _, ⟨_, rfl⟩, q⟩
theorem opI0 {f : Value → Value → Sem Value} {g : Int → Int → Int}
    (rule : ∀ (i j : Int) (t u : Tok) (s : Shared) (Q : Value → Shared → Prop) (E : Value → Shared → Prop), Q (.int (g i j) s.toks) { s with toks := s.toks + 1 } → wpAny (model X.prog X.w) X.A (f (.int i t) (.int j u)) Q E s) :
    OpR X f (rI0 fun i j => .int (g i j)) := by
  intro pins s σ H x y v u Q I rx ry h
  obtain ⟨i, j, rfl, rfl, q⟩ := h
  obtain ⟨t, rfl⟩ := rx
  obtain ⟨t', rfl⟩ := ry
  exact rule i j t t' s _ _ ⟨.int (g i j), H, I.tok _, ⟨_, rfl⟩, q⟩
theorem opB0 {f : Value → Value → Sem Value} {g : Int → Int → Bool}
    (rule : ∀ (i j : Int) (t u : Tok) (s : Shared) (Q : Value → Shared → Prop) (E : Value → Shared → Prop), Q (.bool (g i j)) s → wpAny (model X.prog X.w) X.A (f (.int i t) (.int j u)) Q E s) :
    OpR X f (rI0 fun i j => .bl (g i j)) := by
  intro pins s σ H x y v u Q I rx ry h
  obtain ⟨i, j, rfl, rfl, q⟩ := h
  obtain ⟨t, rfl⟩ := rx
  obtain ⟨t', rfl⟩ := ry
  exact rule i j t t' s _ _ ⟨.bl (g i j), H, I, rfl, q⟩

def CDiv (i j : Int) : Prop := 0 < j ∧ j < 1073741824
def CPow (i j : Int) : Prop := 0 ≤ j ∧ j ≤ 1000000 ∧ i.natAbs < 2 ^ 64
def CMul (i j : Int) : Prop := (-(2 ^ 64) < i ∧ i < 2 ^ 64) ∨ (-(2 ^ 64) < j ∧ j < 2 ^ 64)
theorem CMul.ok {i j : Int} (h : CMul i j) : IntMulOk i j := by
  rcases h with ⟨h1, h2⟩ | ⟨h1, h2⟩
  · exact .of_left (intBits_le_64 h1 h2)
  · exact .of_right (intBits_le_64 h1 h2)
theorem op_add : OpR X (binaryOp .Add) (rI0 fun i j => .int (i + j)) := opI0 fun _ _ _ _ _ _ _ q => add_int q
theorem op_sub : OpR X (binaryOp .Sub) (rI0 fun i j => .int (i - j)) := opI0 fun _ _ _ _ _ _ _ q => sub_int q
theorem op_mul : OpR X (binaryOp .Mult) (rI CMul fun i j => .int (i * j)) := opI fun _ _ _ _ _ _ _ hc q => mul_int q hc.ok
/-- // by a positive divisor -/
theorem op_fdiv : OpR X (binaryOp .FloorDiv) (rI CDiv fun i j => .int (i / j)) := opI fun i j _ _ _ _ _ hc q => by
  have h1 : (0 : Int) < j := hc.1
  have h2 : j < 1073741824 := hc.2
  exact floordiv_int (by omega) (by rw [Int.fdiv_eq_ediv_of_nonneg i (by omega)]; exact q) (.inl (PyProof.noPylong_small (by omega)))
/-- % by a positive divisor of any size -/
theorem op_mod : OpR X (binaryOp .Mod) (rI (fun _ j => 0 < j) fun i j => .int (i % j)) := opI fun i j _ _ _ _ _ hc q => by
  have h1 : (0 : Int) < j := hc
  exact mod_int' (by omega) (by rw [Int.fmod_eq_emod_of_nonneg i (by omega)]; exact q)
theorem op_pow : OpR X (binaryOp .Pow) (rI CPow fun i j => .int (i ^ j.toNat)) := opI fun _ _ _ _ _ _ _ hc q => pow_int_small hc.1 hc.2.1 hc.2.2 q
theorem unI {f : Value → Sem Value} {g : Int → Int}
    (rule : ∀ (i : Int) (t : Tok) (s : Shared) (Q : Value → Shared → Prop) (E : Value → Shared → Prop), Q (.int (g i) s.toks) { s with toks := s.toks + 1 } → wpAny (model X.prog X.w) X.A (f (.int i t)) Q E s) :
    UnR X f (rU fun i => .int (g i)) := by
  intro pins s σ H x v Q I rx h
  obtain ⟨i, rfl, q⟩ := h
  obtain ⟨t, rfl⟩ := rx
  exact rule i t s _ _ ⟨.int (g i), H, I.tok _, ⟨_, rfl⟩, q⟩
theorem un_neg : UnR X (unaryOp .USub) (rU fun i => .int (-i)) := unI fun _ _ _ _ _ q => neg_int q
/-! ### bools among ints: n += (a < b) -/
end

/-! ### comparisons -/
/-- the scalars that == tells apart as data does -/
def scal : V → V → Bool
  | .non, .non => true | .non, .int _ => true | .int _, .non => true | .non, .bl _ => true | .bl _, .non => true | .non, .str _ => true | .str _, .non => true
  | .int _, .int _ => true | .bl _, .bl _ => true | .str _, .str _ => true | .byt _, .byt _ => true
  | .int _, .str _ => true | .str _, .int _ => true | .bl _, .str _ => true | .str _, .bl _ => true
  | _, _ => false
def rEq : R2 := fun x y H Q => scal x y = true ∧ Q (.bl (decide (x = y))) H
def rNe : R2 := fun x y H Q => scal x y = true ∧ Q (.bl (!decide (x = y))) H

theorem dec_int {i j : Int} : decide (V.int i = V.int j) = (i == j) := by
  rw [Bool.eq_iff_iff]
  simp
theorem dec_bl {i j : Bool} : decide (V.bl i = V.bl j) = (i == j) := by
  rw [Bool.eq_iff_iff]
  simp
theorem dec_str {i j : Str} : decide (V.str i = V.str j) = (i == j) := by
  rw [Bool.eq_iff_iff]
  simp
theorem dec_byt {i j : Array UInt8} : decide (V.byt i = V.byt j) = (i.toList == j.toList) := by
  rw [Bool.eq_iff_iff]
  cases i
  cases j
  simp

section
variable {X : Cx} {a b c : Expr} {ta tb tc : TE} {pos : Pos}
theorem fin_bl {pins : List (Addr × Obj)} {σ : St} {H : Hp} {s : Shared} {Q : VK} {k k' : Bool} (I : Inv X pins σ H s) (q : Q (.bl k) H) (e : k = k') : EP X pins σ Q (.bool k') s := by
  subst e
  exact ⟨.bl k, H, I, rfl, q⟩
theorem op_eq : OpR X (compareOp .Eq) rEq := by
  intro pins s σ H x y v u Q I rx ry h
  obtain ⟨hs, q⟩ := h
  cases x with
  | non =>
    cases rx
    cases y with
    | non => cases ry; exact PySem.EqNone.eq_none_none (fin_bl I q (by simp))
    | bl j => cases ry; exact PySem.EqNone.eq_none_bool (fin_bl I q (by simp))
    | int j => obtain ⟨t', rfl⟩ := ry; exact PySem.EqNone.eq_none_int (fin_bl I q (by simp))
    | str j => obtain ⟨t', rfl⟩ := ry; exact PySem.EqNone.eq_none_str (fin_bl I q (by simp))
    | _ => exact absurd (show false = true from hs) Bool.false_ne_true
  | bl i =>
    cases rx
    cases y with
    | non => cases ry; exact PySem.EqNone.eq_bool_none (fin_bl I q (by simp))
    | bl j => cases ry; exact eq_bool (fin_bl I q dec_bl)
    | str j => obtain ⟨t', rfl⟩ := ry; exact PySem.EqMixed.eq_bool_str (fin_bl I q (by simp))
    | _ => exact absurd (show false = true from hs) Bool.false_ne_true
  | int i =>
    obtain ⟨t, rfl⟩ := rx
    cases y with
    | non => cases ry; exact PySem.EqNone.eq_int_none (fin_bl I q (by simp))
    | int j => obtain ⟨t', rfl⟩ := ry; exact eq_int (fin_bl I q dec_int)
    | str j => obtain ⟨t', rfl⟩ := ry; exact PySem.EqMixed.eq_int_str (fin_bl I q (by simp))
    | _ => exact absurd (show false = true from hs) Bool.false_ne_true
  | str i =>
    obtain ⟨t, rfl⟩ := rx
    cases y with
    | non => cases ry; exact PySem.EqNone.eq_str_none (fin_bl I q (by simp))
    | bl j => cases ry; exact PySem.EqMixed.eq_str_bool (fin_bl I q (by simp))
    | int j => obtain ⟨t', rfl⟩ := ry; exact PySem.EqMixed.eq_str_int (fin_bl I q (by simp))
    | str j => obtain ⟨t', rfl⟩ := ry; exact eq_str (fin_bl I q dec_str)
    | _ => exact absurd (show false = true from hs) Bool.false_ne_true
  | byt i =>
    obtain ⟨t, rfl⟩ := rx
    cases y with
    | byt j => obtain ⟨t', rfl⟩ := ry; exact PySem.W.eq_bytes (fin_bl I q dec_byt)
    | _ => exact absurd (show false = true from hs) Bool.false_ne_true
  | _ => cases y <;> exact absurd (show false = true from hs) Bool.false_ne_true
theorem op_ne : OpR X (compareOp .NotEq) rNe := by
  intro pins s σ H x y v u Q I rx ry h
  obtain ⟨hs, q⟩ := h
  cases x with
  | non =>
    cases rx
    cases y with
    | non => cases ry; exact PySem.EqNone.ne_none_none (fin_bl I q (by simp))
    | bl j => cases ry; exact PySem.EqNone.ne_none_bool (fin_bl I q (by simp))
    | int j => obtain ⟨t', rfl⟩ := ry; exact PySem.EqNone.ne_none_int (fin_bl I q (by simp))
    | str j => obtain ⟨t', rfl⟩ := ry; exact PySem.EqNone.ne_none_str (fin_bl I q (by simp))
    | _ => exact absurd (show false = true from hs) Bool.false_ne_true
  | bl i =>
    cases rx
    cases y with
    | non => cases ry; exact PySem.EqNone.ne_bool_none (fin_bl I q (by simp))
    | bl j => cases ry; exact ne_bool (fin_bl I q (congrArg not dec_bl))
    | str j => obtain ⟨t', rfl⟩ := ry; exact PySem.EqMixed.ne_bool_str (fin_bl I q (by simp))
    | _ => exact absurd (show false = true from hs) Bool.false_ne_true
  | int i =>
    obtain ⟨t, rfl⟩ := rx
    cases y with
    | non => cases ry; exact PySem.EqNone.ne_int_none (fin_bl I q (by simp))
    | int j => obtain ⟨t', rfl⟩ := ry; exact ne_int (fin_bl I q (congrArg not dec_int))
    | str j => obtain ⟨t', rfl⟩ := ry; exact PySem.EqMixed.ne_int_str (fin_bl I q (by simp))
    | _ => exact absurd (show false = true from hs) Bool.false_ne_true
  | str i =>
    obtain ⟨t, rfl⟩ := rx
    cases y with
    | non => cases ry; exact PySem.EqNone.ne_str_none (fin_bl I q (by simp))
    | bl j => cases ry; exact PySem.EqMixed.ne_str_bool (fin_bl I q (by simp))
    | int j => obtain ⟨t', rfl⟩ := ry; exact PySem.EqMixed.ne_str_int (fin_bl I q (by simp))
    | str j => obtain ⟨t', rfl⟩ := ry; exact ne_str (fin_bl I q (congrArg not dec_str))
    | _ => exact absurd (show false = true from hs) Bool.false_ne_true
  | byt i =>
    obtain ⟨t, rfl⟩ := rx
    cases y with
    | byt j => obtain ⟨t', rfl⟩ := ry; exact PySem.W.ne_bytes (fin_bl I q (congrArg not dec_byt))
    | _ => exact absurd (show false = true from hs) Bool.false_ne_true
  | _ => cases y <;> exact absurd (show false = true from hs) Bool.false_ne_true

theorem op_lt : OpR X (compareOp .Lt) (rI0 fun i j => .bl (decide (i < j))) := opB0 fun _ _ _ _ _ _ _ q => lt_int q
theorem op_le : OpR X (compareOp .LtE) (rI0 fun i j => .bl (decide (i ≤ j))) := opB0 fun _ _ _ _ _ _ _ q => le_int q
theorem op_gt : OpR X (compareOp .Gt) (rI0 fun i j => .bl (decide (j < i))) := opB0 fun _ _ _ _ _ _ _ q => gt_int q
/-- the one string within the other -/
theorem op_in_str : OpR X (compareOp .In) (fun x y H Q => ∃ i j, x = .str i ∧ y = .str j ∧ Q (.bl (!(Builtin.Str.occurrences j i 0 j.length 1).isEmpty)) H) := by
  intro pins s σ H x y v u Q I rx ry h
  obtain ⟨i, j, rfl, rfl, q⟩ := h
  obtain ⟨t, rfl⟩ := rx
  obtain ⟨t', rfl⟩ := ry
  exact in_str (fin_bl I q rfl)

/-- two rules for one operation: by cases -/
theorem OpR.or {f : Value → Value → Sem Value} {r r' : R2} (h : OpR X f r) (h' : OpR X f r') : OpR X f (fun x y H Q => r x y H Q ∨ r' x y H Q) := by
  intro pins s σ H x y v u Q I rx ry q
  rcases q with q | q
  · exact h pins s σ H x y v u Q I rx ry q
  · exact h' pins s σ H x y v u Q I rx ry q

theorem nomark (b : Expr) {op : CmpOp} (h : op ≠ .In := by decide) (h2 : op ≠ .NotIn := by decide) : behindInMarks op b = false := by
  have e1 : (op == CmpOp.In) = false := by cases op <;> first | rfl | exact absurd rfl h
  have e2 : (op == CmpOp.NotIn) = false := by cases op <;> first | rfl | exact absurd rfl h2
  cases b <;> simp [behindInMarks, e1, e2]
/-- a comparison as a value; hm: nomark b, or (for in, not in) by with_unfolding_all rfl -/
theorem pe_cmpR {op : CmpOp} {r : R2} (ho : OpR X (compareOp op) r) (ha : PE X a ta) (hb : PE X b tb) (hm : behindInMarks op b = false) : PE X (.Compare a [op] [b] pos) (tOp r ta tb) := by
  intro pins s σ H Q I h
  exact wpAny_Compare1 (binT ha hb I h fun v u s2 x y H2 I2 rx ry q => ho pins s2 σ H2 x y v u Q I2 rx ry q) hm
/-- a reading of a value as a test -/
def tTest (t : TE) : TT := fun σ H Q => t σ H fun x H' => ∃ k, x = .bl k ∧ Q k H'
theorem pt_cmpR {op : CmpOp} {r : R2} (ho : OpR X (compareOp op) r) (ha : PE X a ta) (hb : PE X b tb) (hm : behindInMarks op b = false) : PT X (.Compare a [op] [b] pos) (tTest (tOp r ta tb)) := by
  intro pins s σ H Q I h
  refine wpAny_isTrue_Compare1 (thn (ha pins s σ H _ I h) fun v s1 ⟨x, H1, I1, r1, q1⟩ => thn (hb pins s1 σ H1 _ I1 q1) fun u s2 ⟨y, H2, I2, r2, q2⟩ =>
    thn (ho pins s2 σ H2 x y v u _ I2 r1 r2 q2) fun c s3 ⟨z, H3, I3, r3, k, e, q3⟩ => ?_) hm
  subst e
  cases r3
  exact wpAny_truthy_bool ⟨H3, I3, q3⟩
/-- a op1 b op2 c -/
def tChain (r r' : R2) (ta tb tc : TE) : TE := fun σ H Q => ta σ H fun x H1 => tb σ H1 fun y H2 => r x y H2 fun z H3 => ∃ k, z = .bl k ∧
  (if k = true then tc σ H3 fun w' H4 => r' y w' H4 Q else Q (.bl false) H3)
theorem pe_chain {op op' : CmpOp} {r r' : R2} (ho : OpR X (compareOp op) r) (ho' : OpR X (compareOp op') r') (ha : PE X a ta) (hb : PE X b tb) (hc : PE X c tc)
    (hm : lastMarks [op, op'] [b, c] = false := by with_unfolding_all rfl) : PE X (.Compare a [op, op'] [b, c] pos) (tChain r r' ta tb tc) := by
  intro pins s σ H Q I h
  refine Compare_chain (thn (ha pins s σ H _ I h) fun v s1 ⟨x, H1, I1, r1, q1⟩ => chain_link (thn (hb pins s1 σ H1 _ I1 q1) fun u s2 ⟨y, H2, I2, r2, q2⟩ =>
    thn (ho pins s2 σ H2 x y v u _ I2 r1 r2 q2) fun d s3 ⟨z, H3, I3, r3, k, e, q3⟩ => ?_)) hm
  subst e
  cases r3
  refine wpAny_truthy_bool ?_
  cases k with
  | false => exact ite_ff ⟨.bl false, H3, I3, rfl, q3⟩
  | true => exact ite_tt (chain_last (thn (hc pins s3 σ H3 _ I3 q3) fun w' s4 ⟨z', H4, I4, r4, q4⟩ => ho' pins s4 σ H4 y z' u w' Q I4 r2 r4 q4))
theorem pt_chain {op op' : CmpOp} {r r' : R2} (ho : OpR X (compareOp op) r) (ho' : OpR X (compareOp op') r') (ha : PE X a ta) (hb : PE X b tb) (hc : PE X c tc)
    (hm : lastMarks [op, op'] [b, c] = false := by with_unfolding_all rfl) : PT X (.Compare a [op, op'] [b, c] pos) (tTest (tChain r r' ta tb tc)) := by
  intro pins s σ H Q I h
  refine isTrue_chain (thn (ha pins s σ H _ I h) fun v s1 ⟨x, H1, I1, r1, q1⟩ => test_link (thn (hb pins s1 σ H1 _ I1 q1) fun u s2 ⟨y, H2, I2, r2, q2⟩ =>
    thn (ho pins s2 σ H2 x y v u _ I2 r1 r2 q2) fun d s3 ⟨z, H3, I3, r3, k, e, q3⟩ => ?_)) hm
  subst e
  cases r3
  refine wpAny_truthy_bool ?_
  cases k with
  | false =>
    obtain ⟨k', e', q'⟩ := q3
    cases e'
    exact ite_ff ⟨H3, I3, q'⟩
  | true =>
    refine ite_tt (test_last (thn (hc pins s3 σ H3 _ I3 q3) fun w' s4 ⟨z', H4, I4, r4, q4⟩ => thn (ho' pins s4 σ H4 y z' u w' _ I4 r2 r4 q4) fun d' s5 ⟨z2, H5, I5, r5, k2, e2, q5⟩ => ?_))
    subst e2
    cases r5
    exact wpAny_truthy_bool ⟨H5, I5, q5⟩

/-! ### truth -/
/-- a value's truth by the abstract heap -/
def TruV (K : PySem.W.Frag) (x : V) (H : Hp) (k : Bool) : Prop :=
  match x with
  | .non => k = false
  | .bl b => k = b
  | .int i => k = (i != 0)
  | .str y => y.length ≤ sizeLine ∧ k = ((y.length : Int) != 0)
  | .byt y => y.size ≤ sizeLine ∧ k = ((y.size : Int) != 0)
  | .ref p => (∃ xs, SqL K H p xs ∧ k = !xs.isEmpty) ∨ (∃ xs, SqT K H p xs ∧ k = !xs.isEmpty) ∨ ∃ kvs, H p = some (.dK kvs) ∧ k = !kvs.isEmpty
  | _ => False
theorem isEmpty_kv {κ : Type} {kvs : List (κ × V)} {vs : List (κ × Value)} (r : KV kvs vs) : (!vs.isEmpty) = !kvs.isEmpty := by
  cases r <;> rfl
theorem isEmpty_of {xs : List V} {its : List Value} (r : Vals xs its) : (!its.toArray.isEmpty) = !xs.isEmpty := by
  cases r <;> simp
theorem line63 : (sizeLine : Nat) < 2 ^ 63 := by rw [sizeLine_eq]; decide
theorem tru_ok : TruR X (fun x H Q => ∃ k, TruV X.K x H k ∧ Q k H) := by
  intro pins s σ H x v Q I rx h
  obtain ⟨k, e, q⟩ := h
  have hl := line63
  have hs : sizeLine = 16777216 := sizeLine_eq
  cases x with
  | non =>
    cases rx
    have e' : k = false := e
    subst e'
    exact truthy_none ⟨H, I, q⟩
  | bl b =>
    cases rx
    have e' : k = b := e
    subst e'
    exact wpAny_truthy_bool ⟨H, I, q⟩
  | int i =>
    obtain ⟨t, rfl⟩ := rx
    have e' : k = (i != 0) := e
    subst e'
    exact PySem.P.truthy_int ⟨H, I, q⟩
  | str y =>
    obtain ⟨t, rfl⟩ := rx
    obtain ⟨hy, e'⟩ : y.length ≤ sizeLine ∧ k = ((y.length : Int) != 0) := e
    subst e'
    exact PySem.P.truthy_str (by omega) ⟨H, I.tok _, q⟩
  | byt y =>
    obtain ⟨t, rfl⟩ := rx
    obtain ⟨hy, e'⟩ : y.size ≤ sizeLine ∧ k = ((y.size : Int) != 0) := e
    subst e'
    exact PySem.W.truthy_bytes (by omega) ⟨H, I.tok _, q⟩
  | ref p =>
    cases rx
    have e' : (∃ xs, SqL X.K H p xs ∧ k = !xs.isEmpty) ∨ (∃ xs, SqT X.K H p xs ∧ k = !xs.isEmpty) ∨ ∃ kvs, H p = some (.dK kvs) ∧ k = !kvs.isEmpty := e
    rcases e' with ⟨xs, hx, e'⟩ | ⟨xs, hx, e'⟩ | ⟨kvs, hx, e'⟩
    · subst e'
      obtain ⟨its, r, pl, hz⟩ := I.list hx
      have hlen := r.length
      exact wpAny_truthy_list pl.isList (by simp only [List.size_toArray]; omega) ⟨H, I.tok _, by rw [isEmpty_of r]; exact q⟩
    · subst e'
      obtain ⟨its, r, pl, hz⟩ := I.tuple hx
      have hlen := r.length
      exact truthy_tuple pl (by simp only [List.size_toArray]; omega) ⟨H, I.tok _, by rw [isEmpty_of r]; exact q⟩
    · subst e'
      obtain ⟨hz, hS, vs, r, m⟩ : kvs.length ≤ sizeLine ∧ (p == sysModules) = false ∧ ∃ vs, KV kvs vs ∧ s.heap.DictOf (mixKind X.prog X.w) p vs := I.hok p _ hx
      have hlen : kvs.length = vs.length := Paired.length r
      exact wpAny_truthy_dict hS m (by omega) ⟨H, I.tok _, by rw [isEmpty_kv r]; exact q⟩
  | _ => exact (show False from e).elim
/-- any expression whose test is its value's truth (a name, a call, a subscript, a field ..: he by fun _ => rfl) -/
theorem pt_truth (ha : PE X a ta) (he : ∀ whole, isTrue a X.env whole = (do let v ← whole; standAt a.pos; holding [v] (truthy v))) :
    PT X a (fun σ H Q => ta σ H fun x H' => ∃ k, TruV X.K x H' k ∧ Q k H') := by
  intro pins s σ H Q I h
  exact isTrue_plain (thn (ha pins s σ H _ I h) fun v s1 ⟨x, H1, I1, r1, q1⟩ => tru_ok pins s1 σ H1 x v Q I1 r1 q1) (he _)

/-! ### strs and bytes -/
/-! ### scalar builtins, by CallR -/
theorem vals1 {x : V} {us : List Value} (r : Vals [x] us) : ∃ u, us = [u] ∧ RelV x u := by
  cases r with
  | cons r1 r2 => cases r2; exact ⟨_, rfl, r1⟩
theorem vals2 {x y : V} {us : List Value} (r : Vals [x, y] us) : ∃ u w', us = [u, w'] ∧ RelV x u ∧ RelV y w' := by
  cases r with
  | cons r1 r2 =>
    cases r2 with
    | cons r3 r4 => cases r4; exact ⟨_, _, rfl, r1, r3⟩
theorem call_int1 : CallR X (.type "int") (fun xs H Q => (∃ i, xs = [.int i] ∧ Q (.int i) H) ∨ ∃ k, xs = [.bl k] ∧ Q (.int (if k then 1 else 0)) H) := by
  intro pins s σ H xs us Q I r h
  rcases h with ⟨i, rfl, q⟩ | ⟨k, rfl, q⟩
  · obtain ⟨u, rfl, t, rfl⟩ := vals1 r
    exact call_int_int ⟨.int i, H, I, ⟨_, rfl⟩, q⟩
  · obtain ⟨u, rfl, r1⟩ := vals1 r
    cases r1
    exact call_int_bool ⟨.int (if k then 1 else 0), H, I.tok _, ⟨_, rfl⟩, q⟩
end
end L2

namespace L2
open PySem PySem.Spec PyProof.Rows

/-! ### an instance, its attributes a map -/
structure ObjM (h : Heap) (x dx C : Addr) (mA : Str → Option Value) : Prop where
  obj : h.get? x = some (PySem.W.instObj C dx)
  ns : h.Ns1 dx mA
  ne : dx ≠ x

theorem lookIn_ns {h : Heap} {dx : Addr} {mA : Str → Option Value} (n : h.Ns1 dx mA) : ∃ od, h.get? dx = some od ∧ ∀ name, PySem.W.lookIn name od = some (mA name) := by
  obtain ⟨o, es, ep, ho, hd, hk, _, hm⟩ := n
  refine ⟨o, ho, fun name => ?_⟩
  have e := hm name
  unfold nsFind findBy at e
  rw [← Array.find?_toList] at e
  unfold PySem.W.lookIn
  rw [hd]
  dsimp only
  split
  · rename_i y q
    rw [q] at e
    exact congrArg some e
  · rename_i q
    rw [q] at e
    have a : es.toList.any (·.refKey) = false := by
      rw [List.any_eq_false]
      intro y hy
      obtain ⟨z, t, hkey⟩ := hk y (Array.mem_toList_iff.mp hy)
      simp [DictEntry.refKey, hkey]
    have a' : ¬ es.toList.any (·.refKey) = true := by rw [a]; exact Bool.false_ne_true
    rw [if_neg a']
    exact congrArg some e

theorem ObjM.look {h : Heap} {x dx C : Addr} {mA : Str → Option Value} (I : ObjM h x dx C mA) : ∃ od, PySem.W.InstAt h x (PySem.W.instObj C dx) C (some od) ∧ ∀ name, PySem.W.lookIn name od = some (mA name) :=
  let ⟨od, ho, hl⟩ := lookIn_ns I.ns
  ⟨od, ⟨I.obj, rfl, rfl, ho⟩, hl⟩

section
variable {prog : Program} {w : World} {A : Around} {E : Value → Shared → Prop} {s : Shared} {K : PySem.W.Frag} {x dx C f : Addr} {mA : Str → Option Value} {name : Str} {v : Value}

theorem get_map {expr : Bool} {Q : Value → Shared → Prop} (X : K.In s.heap) (I : ObjM s.heap x dx C mA) (hg : PySem.W.plainGet K C name = true) (hh : PySem.W.hasDictIn K C = true)
    (ha : PySem.W.findIn K (.ref C) name = some none) (hv : mA name = some v) (hv' : PySem.W.handedIn v = true) (h : Q v { s with toks := s.toks + 1 }) :
    wpAny (model prog w) A (getAttr (.ref x) name expr) Q E s := by
  obtain ⟨od, J, hl⟩ := I.look
  exact PySem.W.get_value X J (PySem.W.plainGet_of hg).1 (PySem.W.findObj_own hh ha rfl (by rw [hl, hv])) hv' h

theorem get_meth {pl : Sem Bool} {Q : Value × List Value → Shared → Prop} (X : K.In s.heap) (I : ObjM s.heap x dx C mA) (hg : PySem.W.plainGet K C name = true)
    (hf : PySem.W.findIn K (.ref C) name = some (some (.ref f))) (ht : PySem.W.isFn K (.ref f) = true) (hv : mA name = none) (h : Q (.ref f, [.ref x]) s) :
    wpAny (model prog w) A (getMethod (.ref x) name pl) Q E s := by
  obtain ⟨od, J, hl⟩ := I.look
  exact PySem.W.method_fn X J (PySem.W.plainGet_of hg).1 (PySem.W.plainGet_of hg).2 hf (beq_iff_eq.mp ht) (by show (PySem.W.lookIn name od).map (·.isSome) = some false; rw [hl, hv]; rfl) h

theorem set_map {ns : List Str} {Q : Unit → Shared → Prop} (X : K.In s.heap) (I : ObjM s.heap x dx C mA)
    (hs : PySem.W.findIn K (.ref C) "__setattr__" = some (some (.builtin "object.__setattr__"))) (hp : PySem.W.plainOver K C = true) (ht : PySem.W.takerIn K C name = some none) (hh : PySem.W.hasDictIn K C = true)
    (hw : PySem.Within mA ns) (hsz : ns.length ≤ sizeLine)
    (h : ∀ h', ObjM h' x dx C (fun y => if y = name then some v else mA y) → Heap.SameBut dx s.heap h' → Q () { s with heap := h', toks := s.toks + 2 }) :
    wpAny (model prog w) A (setAttr (.ref x) name v) Q E s := by
  obtain ⟨od, J, hl⟩ := I.look
  refine PySem.W.set_plain X J hs (PySem.W.osa_open (s := { s with toks := s.toks + 1 }) (r := none) X J hp ht fun b => ?_)
  obtain ⟨cd, hc, hd'⟩ := PySem.W.any_some hh
  have hx : s.heap.get? x = some ⟨.ref C, some dx, .plain, #[]⟩ := I.obj
  refine wpAny_bind (wpAny_pure (wpAny_bind (wpAny_bind (wpAny_loadPart hx (wpAny_bind (PySem.W.Looks.here (s := { s with toks := s.toks + 1 }) (PySem.W.looks_clsIn X hc) ?_))))))
  rw [hd']
  refine wpAny_pure (a := some dx) (wpAny_bind (wpAny_pure (wpAny_bind ?_)))
  refine wpAny_nsSet1 (s := { s with toks := s.toks + 1 }) I.ns fun h' hn2 hs2 => ?_
  obtain ⟨oD, esD, epD, hoD, hdD, hcD⟩ := hn2.count (PySem.Within.cons name v hw)
  refine wpAny_bind (wpAny_lookBehind hoD (by rw [hdD]; exact pastItsLine_dict (Nat.le_trans hcD (by rw [List.length_cons]; omega))) ?_)
  exact wpAny_pure (h _ ⟨(hs2.2 _ (Ne.symm I.ne)).trans I.obj, hn2, I.ne⟩ hs2)

/-- C(..): the dict at the heap's end, the instance behind it; then its __init__ -/
theorem make_map {R : Result → Shared → Prop} {vs : List Value} {kw : List (Str × Value)} (X : K.In s.heap) (hm : PySem.W.makesIn K C = true)
    (hi : PySem.W.findIn K (.ref C) "__init__" = some (some (.ref f))) (hf : PySem.W.typeIn K (.ref f) = some (.type "function"))
    (h : codeAny (model prog w) (A.under (.builtin "type.__call__" ⟨.ref C :: vs, kw⟩)) (.call (.ref f) ⟨.ref (s.heap.objs.size + 1) :: vs, kw⟩) (PySem.W.InitBack (s.heap.objs.size + 1) R)
      { s with heap := (s.heap.push PySem.W.emptyDict).push (PySem.W.instObj C s.heap.objs.size) }) :
    codeAny (model prog w) A (.call (.ref C) ⟨vs, kw⟩) R s := by
  obtain ⟨hh, g, d, t, os⟩ := s
  exact PySem.W.make_core (PySem.W.makes_of X hm) (PySem.W.looks_findIn X hi) (fun self => PySem.W.bind_fn X self hf) (.inl rfl) h
end

/-! ### the attributes as a list of pairs -/
def putF (f : Str) (v : V) : List (Str × V) → List (Str × V)
  | [] => [(f, v)]
  | (g, x) :: r => if g = f then (g, v) :: r else (g, x) :: putF f v r
theorem lookup_putF (f g : Str) (v : V) : ∀ fs : List (Str × V), (putF f v fs).lookup g = if g = f then some v else fs.lookup g
  | [] => by
    show List.lookup g [(f, v)] = _
    by_cases h : g = f
    · have hb : (g == f) = true := beq_iff_eq.mpr h
      simp only [List.lookup, hb, if_pos h]
    · have hb : (g == f) = false := beq_eq_false_iff_ne.mpr h
      simp only [List.lookup, hb, if_neg h]
  | (k, x) :: r => by
    have ih := lookup_putF f g v r
    rw [show putF f v ((k, x) :: r) = (if k = f then (k, v) :: r else (k, x) :: putF f v r) from rfl]
    by_cases hk : k = f
    · rw [if_pos hk]
      by_cases h : g = k
      · have hb : (g == k) = true := beq_iff_eq.mpr h
        simp only [List.lookup, hb, if_pos (h.trans hk)]
      · have hb : (g == k) = false := beq_eq_false_iff_ne.mpr h
        simp only [List.lookup, hb, if_neg (fun e : g = f => h (e.trans hk.symm))]
    · rw [if_neg hk]
      by_cases h : g = k
      · have hb : (g == k) = true := beq_iff_eq.mpr h
        simp only [List.lookup, hb, if_neg (fun e : g = f => hk (h.symm.trans e))]
      · have hb : (g == k) = false := beq_eq_false_iff_ne.mpr h
        simp only [List.lookup, hb]
        exact ih
theorem keys_putF (f : Str) (v : V) : ∀ fs : List (Str × V), f ∈ (putF f v fs).map (·.1) ∧ ∀ g, g ∈ fs.map (·.1) → g ∈ (putF f v fs).map (·.1)
  | [] => ⟨by simp [putF], fun g h => by simp at h⟩
  | (k, x) :: r => by
    obtain ⟨i1, i2⟩ := keys_putF f v r
    rw [show putF f v ((k, x) :: r) = (if k = f then (k, v) :: r else (k, x) :: putF f v r) from rfl]
    by_cases hk : k = f
    · rw [if_pos hk]
      subst hk
      exact ⟨by simp, fun g h => by simpa using h⟩
    · rw [if_neg hk]
      refine ⟨?_, fun g h => ?_⟩
      · rw [List.map_cons]
        exact List.mem_cons_of_mem _ i1
      · rw [List.map_cons] at h ⊢
        rcases List.mem_cons.mp h with e | e
        · exact List.mem_cons.mpr (.inl e)
        · exact List.mem_cons_of_mem _ (i2 g e)
theorem length_putF (f : Str) (v : V) : ∀ fs : List (Str × V), (putF f v fs).length ≤ fs.length + 1
  | [] => by simp [putF]
  | (k, x) :: r => by
    have ih := length_putF f v r
    rw [show putF f v ((k, x) :: r) = (if k = f then (k, v) :: r else (k, x) :: putF f v r) from rfl]
    by_cases hk : k = f
    · rw [if_pos hk, List.length_cons, List.length_cons]; omega
    · rw [if_neg hk, List.length_cons, List.length_cons]; omega

theorem RelO.some_of {v : V} {o : Option Value} (r : RelO (some v) o) : ∃ u, o = some u ∧ RelV v u := by
  cases o with
  | none => exact (show False from r).elim
  | some u => exact ⟨u, rfl, r⟩
theorem RelO.none_of {o : Option Value} (r : RelO none o) : o = none := by
  cases o with
  | none => rfl
  | some u => exact (show False from r).elim
theorem handed_of {v : V} {u : Value} (r : RelV v u) : PySem.W.handedIn u = true := by
  cases v with
  | non => cases (show u = Value.none from r); rfl
  | bl b => cases (show u = Value.bool b from r); rfl
  | int i => obtain ⟨t, e⟩ := (show ∃ t, u = Value.int i t from r); cases e; rfl
  | str x => obtain ⟨t, e⟩ := (show ∃ t, u = Value.str x t from r); cases e; rfl
  | byt b => obtain ⟨t, e⟩ := (show ∃ t, u = Value.bytes b t from r); cases e; rfl
  | flt b => obtain ⟨t, e⟩ := (show ∃ t, u = Value.float b t from r); cases e; rfl
  | ref a => cases (show u = Value.ref a from r); rfl
  | ty n => cases (show u = Value.type n from r); rfl

section
variable {P : Program} {w : World} {H H' : Hp} {h h' : Heap} {a C dx : Addr} {fs fs' : List (Str × V)}
theorem ins_get (hok : HOk P w H h) (e : H a = some (.ins C dx fs)) : ∃ mA, ObjM h a dx C mA ∧ (∀ f, RelO (fs.lookup f) (mA f)) ∧ PySem.Within mA (fs.map (·.1)) ∧ fs.length ≤ 1000 ∧ H dx = some (.own a) := by
  obtain ⟨d, z, ne, ob, mA, n, r, q⟩ := (show ObjOk P w H h a (.ins C dx fs) from hok a _ e)
  exact ⟨mA, ⟨ob, n, ne⟩, r, q, z, d⟩
end

/-! ### what of the text a class must have -/
structure Cls (K : PySem.W.Frag) (C : Addr) : Prop where
  pg : PySem.W.plainGet K C Str.empty = true
  hd : PySem.W.hasDictIn K C = true
  po : PySem.W.plainOver K C = true
  sa : PySem.W.findIn K (.ref C) "__setattr__" = some (some (.builtin "object.__setattr__"))
theorem Cls.get {K : PySem.W.Frag} {C : Addr} (c : Cls K C) (f : Str) : PySem.W.plainGet K C f = true := c.pg
/-- no class of it has the name -/
def NoAttr (K : PySem.W.Frag) (C : Addr) (f : Str) : Prop := PySem.W.findIn K (.ref C) f = some none
theorem NoAttr.taker {K : PySem.W.Frag} {C : Addr} {f : Str} (n : NoAttr K C f) : PySem.W.takerIn K C f = some none := by
  unfold PySem.W.takerIn
  rw [show PySem.W.findIn K (.ref C) f = some none from n]
  rfl
/-- a constant of the class -/
structure Con (K : PySem.W.Frag) (C : Addr) (f : Str) (v : V) (u : Value) : Prop where
  at_ : PySem.W.findIn K (.ref C) f = some (some u)
  rel : RelV v u
  get : PySem.W.specialIn K u "__get__" = some none
  cp : PySem.W.copiedNames.contains f = false
/-- a method: a plain def of the class or of one above it -/
structure Meth (K : PySem.W.Frag) (C : Addr) (m : Str) (f : Addr) : Prop where
  at_ : PySem.W.findIn K (.ref C) m = some (some (.ref f))
  fn : PySem.W.isFn K (.ref f) = true
  kp : PySem.W.keepIn K (.ref f) = true

section
variable {X : Cx} {pins : List (Addr × Obj)} {σ : St} {H : Hp} {s : Shared} {a C dx : Addr} {fs : List (Str × V)} {f : Str} {v : V} {A : Around} {E : Value → Shared → Prop}

theorem getattr_ok {b : Bool} {Q : Value → Shared → Prop} (I : Inv X pins σ H s) (e : H a = some (.ins C dx fs)) (c : Cls X.K C) (n : NoAttr X.K C f) (l : fs.lookup f = some v)
    (h : ∀ u s', Inv X pins σ H s' → RelV v u → Q u s') : wpAny (model X.prog X.w) A (getAttr (.ref a) f b) Q E s := by
  obtain ⟨mA, O, r, _, _, _⟩ := ins_get I.hok e
  obtain ⟨u, hu, ru⟩ := RelO.some_of (v := v) (o := mA f) (by rw [← l]; exact r f)
  exact get_map I.kIn O (c.get f) c.hd n hu (handed_of ru) (h u _ (I.tok _) ru)

theorem getmeth_ok {m : Str} {g : Addr} {pl : Sem Bool} {Q : Value × List Value → Shared → Prop} (I : Inv X pins σ H s) (e : H a = some (.ins C dx fs)) (c : Cls X.K C) (k : Meth X.K C m g) (l : fs.lookup m = none)
    (h : Q (.ref g, [.ref a]) s) : wpAny (model X.prog X.w) A (getMethod (.ref a) m pl) Q E s := by
  obtain ⟨mA, O, r, _, _, _⟩ := ins_get I.hok e
  have hn : mA m = none := RelO.none_of (by rw [← l]; exact r m)
  exact get_meth I.kIn O (c.get m) k.at_ k.fn hn h

theorem setattr_ok {y : V} {u : Value} {Q : Unit → Shared → Prop} (I : Inv X pins σ H s) (e : H a = some (.ins C dx fs)) (c : Cls X.K C) (n : NoAttr X.K C f) (hl : fs.length < 1000) (ry : RelV y u)
    (h : ∀ s', Inv X pins σ (upd H a (.ins C dx (putF f y fs))) s' → Q () s') : wpAny (model X.prog X.w) A (setAttr (.ref a) f u) Q E s := by
  obtain ⟨mA, O, r, wi, _, ho⟩ := ins_get I.hok e
  have hz : (fs.map (·.1)).length ≤ sizeLine := by rw [List.length_map, sizeLine_eq]; omega
  refine set_map I.kIn O c.sa c.po n.taker c.hd wi hz fun h' O' sb => h _ ?_
  have hd : ∃ o, h'.get? dx = some o := let ⟨o, _, _, e', _⟩ := O'.ns; ⟨o, e'⟩
  refine I.write (x := a) (e := dx) (by rw [e]; exact True.intro) (.inr ho) (fun b q hb z => (sb.2 b hb).trans z) hd ?_
  refine ⟨by rw [upd_ne O.ne]; exact ho, ?_, O.ne, O'.obj, _, O'.ns, fun g => ?_, fun g hg => ?_⟩
  · have := length_putF f y fs; omega
  · show RelO ((putF f y fs).lookup g) (if g = f then some u else mA g)
    rw [lookup_putF]
    by_cases q : g = f
    · rw [if_pos q, if_pos q]; exact ry
    · rw [if_neg q, if_neg q]; exact r g
  · by_cases q : g = f
    · rw [q]; exact (keys_putF f y fs).1
    · refine (keys_putF f y fs).2 g (wi g fun z => hg ?_)
      show (if g = f then some u else mA g) = none
      rw [if_neg q]; exact z

/-- a new instance, tracked, without attributes -/
theorem Inv.made (I : Inv X pins σ H s) : Inv X pins σ (upd (upd H s.heap.objs.size (.own (s.heap.objs.size + 1))) (s.heap.objs.size + 1) (.ins C s.heap.objs.size []))
    { s with heap := (s.heap.push PySem.W.emptyDict).push (PySem.W.instObj C s.heap.objs.size) } := by
  have e1 : (s.heap.push PySem.W.emptyDict).get? s.heap.objs.size = some PySem.W.emptyDict := Heap.get?_push_size s.heap rfl
  have e2 : ((s.heap.push PySem.W.emptyDict).push (PySem.W.instObj C s.heap.objs.size)).get? (s.heap.objs.size + 1) = some (PySem.W.instObj C s.heap.objs.size) := by
    have := Heap.get?_push_size (s.heap.push PySem.W.emptyDict) (o := PySem.W.instObj C s.heap.objs.size) rfl
    rwa [Heap.size_push] at this
  have e3 : (s.heap.push PySem.W.emptyDict).Ns s.heap.objs.size (fun _ => none) := ⟨PySem.W.emptyDict, #[], _, e1, rfl, (fun e he => absurd he (by simp)), fun _ => rfl⟩
  have I1 := I.laid (a := s.heap.objs.size) (o := .own (s.heap.objs.size + 1)) (h' := s.heap.push PySem.W.emptyDict) (t' := s.toks) (fun b u q => Heap.get?_push_of_some _ q) (Nat.le_refl _) ⟨_, e1⟩
  refine I1.laid (a := s.heap.objs.size + 1) (o := .ins C s.heap.objs.size []) (t' := s.toks) (fun b u q => Heap.get?_push_of_some _ q) (Nat.le_of_eq (Heap.size_push _ _)) ?_
  have ne : s.heap.objs.size ≠ s.heap.objs.size + 1 := Nat.ne_of_lt (Nat.lt_succ_self _)
  refine ⟨by rw [upd_ne ne, upd_same], Nat.zero_le _, ne, e2, fun _ => none, (Heap.Ns1.of_empty e3).at fun o q => Heap.get?_push_of_some _ q, fun _ => True.intro, fun y hy => absurd rfl hy⟩

/-- e.f where nothing but the object is asked: through attributeBase (super) and the last hold -/
theorem attr_of {prog : Program} {w : World} {env : Env} {e : Expr} {f : Str} {pos : Pos} {s : Shared} {Q : Value → Shared → Prop} (hb : attributeBase e f env (eval e env) = eval e env)
    (h : wpAny (model prog w) A (eval e env) (fun o s₁ => wpAny (model prog w) A (getAttr o f true) Q E s₁) E s) : wpAny (model prog w) A (eval (.Attribute e f pos) env) Q E s :=
  Attribute_any_ h (by rw [arm_eval_Attribute, hb])
end

/-! ### readings and rules -/
/-- e.f, an attribute of the instance -/
def tFld (K : PySem.W.Frag) (ta : TE) (f : Str) : TE := fun σ H Q => ta σ H fun x H1 => ∃ a C dx fs v, x = .ref a ∧ H1 a = some (.ins C dx fs) ∧ Cls K C ∧ NoAttr K C f ∧ fs.lookup f = some v ∧ Q v H1
/-- e.f = value -/
def sFld (K : PySem.W.Frag) (ta tv : TE) (f : Str) : TS := fun D σ H => tv σ H fun y H1 => ta σ H1 fun x H2 => ∃ a C dx fs, x = .ref a ∧ H2 a = some (.ins C dx fs) ∧ Cls K C ∧ NoAttr K C f ∧ fs.length < 1000 ∧
  D.nx σ (upd H2 a (.ins C dx (putF f y fs)))
section
variable {X : Cx} {o e value : Expr} {f : Str} {pos pos' tpos : Pos} {ta tv : TE}
theorem pe_fld (he : PE X e ta) (hb : attributeBase e f X.env (eval e X.env) = eval e X.env) : PE X (.Attribute e f pos) (tFld X.K ta f) := by
  intro pins s σ H Q I h
  refine attr_of hb (thn (he pins s σ H _ I h) fun u s1 ⟨x, H1, I1, rx, a, C, dx, fs, v, ex, ea, c, n, l, q⟩ => ?_)
  subst ex
  obtain rfl : u = Value.ref a := rx
  exact getattr_ok I1 ea c n l fun u' s2 I2 ru => ⟨v, H1, I2, ru, q⟩
theorem ps_fld (ha : PE X o ta) (hv : PE X value tv) (hs : swapsWith value (some (.Attribute o f pos')) pos.line X.env = pure false) : PS X (.Assign [.Attribute o f pos'] value pos) (sFld X.K ta tv f) := by
  intro pins s σ H D I h
  refine plainObj_wpAny_Assign_Attribute (thn (hv pins s σ H _ I h) fun u s1 ⟨y, H1, I1, ry, q⟩ => thn (ha pins s1 σ H1 _ I1 q) fun ov s2 ⟨x, H2, I2, rx, a, C, dx, fs, ex, ea, c, n, l, q2⟩ => ?_) hs
  subst ex
  obtain rfl : ov = Value.ref a := rx
  exact setattr_ok I2 ea c n l ry fun s3 I3 => ⟨σ, _, I3, q2⟩
end

/-! ### isinstance -/
section
variable {X : Cx} {pins : List (Addr × Obj)} {σ : St} {H : Hp} {s : Shared} {A : Around} {E : Value → Shared → Prop} {Q : Value → Shared → Prop} {c : Value} {b : Bool}
/-- the type of a value, as the fragment's deciders take it; for an instance its class -/
inductive TyOf (K : PySem.W.Frag) (H : Hp) : V → Value → Prop where
  | non : TyOf K H .non (.type "NoneType")
  | bl (x : Bool) : TyOf K H (.bl x) (.type "bool")
  | int (i : Int) : TyOf K H (.int i) (.type "int")
  | str (x : Str) : TyOf K H (.str x) (.type "str")
  | flt (x : UInt64) : TyOf K H (.flt x) (.type "float")
  | lst {a : Addr} {xs : List V} (e : H a = some (.lst xs)) : TyOf K H (.ref a) (.type "list")
  | frz {a : Addr} {o : Obj} {xs : List V} (e : H a = some (.frz o (.lst xs))) : TyOf K H (.ref a) (.type "list")
  | tup {a : Addr} {xs : List V} (e : H a = some (.tup xs)) : TyOf K H (.ref a) (.type "tuple")
  | dK {a : Addr} {kvs : List (Key × V)} (e : H a = some (.dK kvs)) : TyOf K H (.ref a) (.type "dict")
  | dT {a : Addr} {kvs : List (List Key × V)} (e : H a = some (.dT kvs)) : TyOf K H (.ref a) (.type "dict")
  | ins {a C dx : Addr} {fs : List (Str × V)} (e : H a = some (.ins C dx fs)) (cl : Cls K C) (ha : PySem.W.findIn K (.ref C) "__class__" = some (some (.builtin "object.__class__")))
      (hn : PySem.W.specialIn K (.builtin "object.__class__") "__get__" = some (some (.builtin "getset_descriptor.__get__"))) (htk : PySem.W.takesIn K (.builtin "object.__class__") = some true)
      (hm : PySem.W.mroIn K C (.type "object") = some true) : TyOf K H (.ref a) (.ref C)
/-- isinstance(x, c) for one class c, a built-in or an own one: kitOne's answer -/
theorem isinst_ok {x : V} {u t : Value} (I : Inv X pins σ H s) (rx : RelV x u) (ty : TyOf X.K H x t) (e : PySem.W.kitOne X.K t c = some b) (h : ∀ tk, Q (.bool b) { s with toks := tk }) :
    wpAny (model X.prog X.w) A (call (.builtin "isinstance") [u, c]) Q E s := by
  cases ty with
  | non => cases (show u = Value.none from rx); exact PySem.W.kia_one PySem.W.kitx_none I.kIn True.intro e (fun z => nomatch z) h
  | bl y => cases (show u = Value.bool y from rx); exact PySem.W.kia_one PySem.W.kitx_bool I.kIn True.intro e (fun z => nomatch z) h
  | int i => obtain ⟨t, q⟩ := (show ∃ t, u = Value.int i t from rx); cases q; exact PySem.W.kia_one PySem.W.kitx_int I.kIn True.intro e (fun z => nomatch z) h
  | str y => obtain ⟨t, q⟩ := (show ∃ t, u = Value.str y t from rx); cases q; exact PySem.W.kia_one PySem.W.kitx_str I.kIn True.intro e (fun z => nomatch z) h
  | flt y => obtain ⟨t, q⟩ := (show ∃ t, u = Value.float y t from rx); cases q; exact PySem.W.kia_one PySem.W.kitx_float I.kIn True.intro e (fun z => nomatch z) h
  | @lst a xs ea =>
    cases (show u = Value.ref a from rx)
    obtain ⟨_, _, n, _, h1⟩ := (show ObjOk X.prog X.w H s.heap a (.lst xs) from I.hok a _ ea)
    exact PySem.W.kia_one PySem.W.kitx_list I.kIn ⟨_, h1, rfl⟩ e (fun z => nomatch z) h
  | @frz a ob xs ea =>
    cases (show u = Value.ref a from rx)
    obtain ⟨_, _, _, n, _, h1⟩ := (show ObjOk X.prog X.w H s.heap a (.frz ob (.lst xs)) from I.hok a _ ea)
    exact PySem.W.kia_one PySem.W.kitx_list I.kIn ⟨_, h1, rfl⟩ e (fun z => nomatch z) h
  | @tup a xs ea =>
    cases (show u = Value.ref a from rx)
    obtain ⟨_, _, _, p⟩ := (show ObjOk X.prog X.w H s.heap a (.tup xs) from I.hok a _ ea)
    obtain ⟨o, h1, h2, _⟩ := p
    exact PySem.W.kia_one PySem.W.kitx_tuple I.kIn ⟨o, h1, h2⟩ e (fun z => nomatch z) h
  | @dK a kvs ea =>
    cases (show u = Value.ref a from rx)
    obtain ⟨_, _, vs, _, p⟩ := (show ObjOk X.prog X.w H s.heap a (.dK kvs) from I.hok a _ ea)
    obtain ⟨o, es, ep, h1, h2, _⟩ := p
    exact PySem.W.kia_one PySem.W.kitx_dict I.kIn ⟨o, h1, h2.1⟩ e (fun z => nomatch z) h
  | @dT a kvs ea =>
    cases (show u = Value.ref a from rx)
    obtain ⟨_, _, xs, _, o, es, ep, h1, h2, _⟩ := (show ObjOk X.prog X.w H s.heap a (.dT kvs) from I.hok a _ ea)
    exact PySem.W.kia_one PySem.W.kitx_dict I.kIn ⟨o, h1, h2.1⟩ e (fun z => nomatch z) h
  | @ins a C dx fs ea cl ha hn htk hm =>
    cases (show u = Value.ref a from rx)
    obtain ⟨mA, O, _⟩ := ins_get I.hok ea
    obtain ⟨od, J, _⟩ := O.look
    exact PySem.W.kia_one (PySem.W.kitx_own (cl.get _) cl.hd ha hn htk hm) I.kIn J e (fun z => nomatch z) h
end
end L2

namespace L2
open PySem PySem.Spec PyProof.Rows

/-! ### room -/
structure Room (k : Nat) (A : Around) : Prop where
  hd : A.handled = none
  dp : A.depth + 3 * k + 5 < recursionLimit
  un : A.units + 16 * k + 200 < cLine
theorem Room.mono {j k : Nat} {A : Around} (r : Room k A) (h : j ≤ k) : Room j A := ⟨r.hd, by have := r.dp; omega, by have := r.un; omega⟩
theorem Room.deeper {k : Nat} {A : Around} (r : Room (k + 1) A) (env : Env) : Room k (A.deeper env) :=
  ⟨r.hd, by have := r.dp; show A.depth + 1 + 3 * k + 5 < _; omega, by have := r.un; show A.units + 3 + 16 * k + 200 < _; omega⟩
theorem Room.in1 {k : Nat} {A : Around} (r : Room (k + 1) A) : Room k A.in1 :=
  ⟨r.hd, by have := r.dp; show A.depth + 3 * k + 5 < _; omega, by have := r.un; show A.units + 1 + 16 * k + 200 < _; omega⟩
theorem make_depth {A : Around} {C : Addr} {us : List Value} {kw : List (Str × Value)} : (A.under (.builtin "type.__call__" ⟨.ref C :: us, kw⟩)).depth = A.depth + 1 := by
  first | rfl | simp [Around.under, Code.weight, Code.isCreation, Code.isGuard, Code.isCaller, Code.frames, Code.isFrame, guardIds]
theorem make_units {A : Around} {C : Addr} {us : List Value} {kw : List (Str × Value)} : (A.under (.builtin "type.__call__" ⟨.ref C :: us, kw⟩)).units = A.units + 1 := by
  first | rfl | simp [Around.under, Code.cUnits, Code.frames, Code.isFrame]
theorem Room.make {k : Nat} {A : Around} (r : Room (k + 1) A) (C : Addr) (us : List Value) (kw : List (Str × Value)) : Room k (A.under (.builtin "type.__call__" ⟨.ref C :: us, kw⟩)) :=
  ⟨r.hd, by have := r.dp; rw [make_depth]; omega, by have := r.un; rw [make_units]; omega⟩
theorem Room.depth {k : Nat} {A : Around} (r : Room k A) : A.depth < recursionLimit := by have := r.dp; omega
theorem Room.units {k : Nat} {A : Around} (r : Room k A) : A.units + 64 < cLine := by have := r.un; omega
/-! ### argument lists and displays -/
def tNil : TA := fun _ H Q => Q [] H
def tCons (ta : TE) (tr : TA) : TA := fun σ H Q => ta σ H fun x H1 => tr σ H1 fun xs H2 => Q (x :: xs) H2
section
variable {X : Cx} {e : Expr} {es : List Expr} {te : TE} {t : TA} {pos : Pos}
theorem pa_nil : PA X [] tNil := fun _ _ _ _ H Q I h => Calls.spliced_nil ⟨[], H, I, .nil, h⟩
theorem pa_cons (ha : PE X e te) (hr : PA X es t) (hs : starEach (e :: es) X.env = (false, eval e X.env) :: starEach es X.env := by rfl) : PA X (e :: es) (tCons te t) := by
  intro pos pins s σ H Q I h
  rw [hs]
  show wpAny _ _ (spliced ((false, eval e X.env) :: backTo pos (starEach es X.env))) _ _ s
  refine Calls.spliced_cons (thn (ha pins s σ H _ I h) fun u s1 ⟨x, H1, I1, r1, q1⟩ => ?_)
  exact thn (hr pos pins s1 σ H1 _ I1 q1) fun us s2 ⟨xs, H2, I2, r2, q2⟩ => ⟨x :: xs, H2, I2, .cons r1 r2, q2⟩

/-- a tuple, a list of written items -/
def tTup (t : TA) : TE := fun σ H Q => t σ H fun xs H1 => xs.length ≤ sizeLine ∧ ∀ p, H1 p = none → Q (.ref p) (upd H1 p (.tup xs))
def tLst (t : TA) : TE := fun σ H Q => t σ H fun xs H1 => xs.length ≤ sizeLine ∧ ∀ p, H1 p = none → Q (.ref p) (upd H1 p (.lst xs))
theorem pe_tup {x1} (h : PA X es t) : PE X (.Tuple es x1 pos) (tTup t) := by
  intro pins s σ H Q I hq
  refine wpAny_Tuple_spliced (thn (h pos pins s σ H _ I hq) fun us s1 ⟨xs, H1, I1, r, z, q⟩ => ⟨by rw [← r.length]; exact z, ?_⟩)
  have hf : H1 s1.heap.objs.size = none := I1.hok.fresh (Nat.le_refl _)
  refine ⟨.ref s1.heap.objs.size, upd H1 s1.heap.objs.size (.tup xs), I1.laid (t' := s1.toks) (fun b u e => Heap.get?_push_of_some _ e) (Nat.le_refl _) ?_, rfl, q _ hf⟩
  exact ⟨z, us, r, ⟨_, Heap.get?_push_size _ rfl, rfl, _, rfl⟩⟩
theorem pe_lst (h : PA X es t) : PE X (.List es pos) (tLst t) := by
  intro pins s σ H Q I hq
  refine wpAny_List_spliced (thn (h pos pins s σ H _ I hq) fun us s1 ⟨xs, H1, I1, r, z, q⟩ => ⟨by rw [← r.length]; exact z, ?_⟩)
  have hf : H1 s1.heap.objs.size = none := I1.hok.fresh (Nat.le_refl _)
  refine ⟨.ref s1.heap.objs.size, upd H1 s1.heap.objs.size (.lst xs), I1.laid (t' := s1.toks) (fun b u e => Heap.get?_push_of_some _ e) (Nat.le_refl _) ?_, rfl, q _ hf⟩
  exact ⟨z, us, 0, r, Heap.get?_push_size _ rfl⟩
end

/-! ### what a def promises -/
/-- a def's promise: the bound arguments in the parameters' order, the heap, the wanted end, the wanted exception -/
abbrev Sp := List V → Hp → VK → XK → Prop
/-- how an exception lies behind a call (file 08 gives it): the callers' frames, abstract heap and state ahead of the call, the wish, the exception, the state -/
abbrev CXT := List Env → Hp → Shared → XK → Value → Shared → Prop

/-- the state at a call -/
structure Env0 (P : Program) (w : World) (K : PySem.W.Frag) (mg : Str → Option Value) (base : Heap) (A : Around) (outer : List Env) (s : Shared) (H : Hp) : Prop where
  frames : A.frames = some outer
  mod : Mod K mg base
  bs : ∀ b o, base.get? b = some o → s.heap.get? b = some o ∧ H b = none
  bsz : base.objs.size ≤ s.heap.objs.size
  funs : s.heap.FunFrames base outer
  frf : ∀ b ∈ frs outer, H b = none
  hok : HOk P w H s.heap
  bare : AllBare s.gens
/-- a call's end -/
def CE (outer : List Env) (P : Program) (w : World) (H : Hp) (s : Shared) (Q : VK) (u : Value) (s' : Shared) : Prop :=
  ∃ v H', s'.os = s.os ∧ AllBare s'.gens ∧ Un (frs outer) [] H H' s.heap s'.heap ∧ HOk P w H' s'.heap ∧ RelV v u ∧ Q v H'
def CR (CX : CXT) (outer : List Env) (P : Program) (w : World) (H : Hp) (s : Shared) (Q : VK) (E : XK) (r : Result) (s' : Shared) : Prop :=
  match r with
  | .ok (.ret u) => CE outer P w H s Q u s'
  | .ok _ => False
  | .error e => CX outer H s E e s'
structure FnOk (P : Program) (w : World) (K : PySem.W.Frag) (mg : Str → Option Value) (base : Heap) (CX : CXT) (k : Nat) (f : Addr) (fd : FuncData) (ps : List Str) (sp : Sp) : Prop where
  len : ∀ vs H Q E, sp vs H Q E → vs.length = ps.length
  run : ∀ (A : Around) (outer : List Env) (s : Shared) (H : Hp) (args : Args) (us : List Value) (vs : List V) (Q : VK) (E : XK), Room k A → Env0 P w K mg base A outer s H → BindsTo s fd args (ps.zip us) → Vals vs us → sp vs H Q E →
    codeAny (model P w) A (.call (.ref f) args) (CR CX outer P w H s Q E) s
theorem FnOk.mono {P : Program} {w : World} {K : PySem.W.Frag} {mg : Str → Option Value} {base : Heap} {CX : CXT} {j k : Nat} {f : Addr} {fd : FuncData} {ps : List Str} {sp : Sp} (F : FnOk P w K mg base CX j f fd ps sp) (h : j ≤ k) :
    FnOk P w K mg base CX k f fd ps sp := ⟨F.len, fun A outer s H args us vs Q E hr => F.run A outer s H args us vs Q E (hr.mono h)⟩
/-- a weaker promise -/
theorem FnOk.imp {P : Program} {w : World} {K : PySem.W.Frag} {mg : Str → Option Value} {base : Heap} {CX : CXT} {k : Nat} {f : Addr} {fd : FuncData} {ps : List Str} {sp sp' : Sp} (F : FnOk P w K mg base CX k f fd ps sp)
    (h : ∀ vs H Q E, sp' vs H Q E → sp vs H Q E) : FnOk P w K mg base CX k f fd ps sp' :=
  ⟨fun vs H Q E q => F.len vs H Q E (h _ _ _ _ q), fun A outer s H args us vs Q E hr he hb hv hs => F.run A outer s H args us vs Q E hr he hb hv (h _ _ _ _ hs)⟩

theorem Env0.make {P : Program} {w : World} {K : PySem.W.Frag} {mg : Str → Option Value} {base : Heap} {A : Around} {outer : List Env} {s : Shared} {H : Hp} (e : Env0 P w K mg base A outer s H) (C : Addr) (us : List Value) (kw : List (Str × Value)) :
    Env0 P w K mg base (A.under (.builtin "type.__call__" ⟨.ref C :: us, kw⟩)) outer s H := ⟨by first | exact e.frames | (simpa [Around.under, Code.envs, Code.isFrame, pushEnvs] using e.frames), e.mod, e.bs, e.bsz, e.funs, e.frf, e.hok, e.bare⟩
theorem Env0.in1 {P : Program} {w : World} {K : PySem.W.Frag} {mg : Str → Option Value} {base : Heap} {A : Around} {outer : List Env} {s : Shared} {H : Hp} (e : Env0 P w K mg base A outer s H) :
    Env0 P w K mg base A.in1 outer s H := ⟨e.frames, e.mod, e.bs, e.bsz, e.funs, e.frf, e.hok, e.bare⟩

section
variable {X : Cx} {pins : List (Addr × Obj)} {σ : St} {H : Hp} {s s' : Shared}
/-- from a body: what a callee wants -/
theorem Inv.env0 (I : Inv X pins σ H s) : Env0 X.prog X.w X.K X.mg X.base X.A X.stack s H :=
  ⟨I.ok.frames, I.ok.mod, I.bs, Nat.le_trans I.ok.bsz I.sz, I.stack, I.stkFree, I.hok, I.bare⟩
/-- behind a call -/
theorem Inv.after {Q : VK} {u : Value} (I : Inv X pins σ H s) (h : CE X.stack X.prog X.w H s Q u s') : EP X pins σ Q u s' := by
  obtain ⟨v, H', os, bare, un, hok, r, q⟩ := h
  obtain ⟨hh, g, d, t, os'⟩ := s'
  obtain rfl : os' = s.os := os
  exact ⟨v, H', I.call (h' := hh) (g' := g) (d' := d) (t' := t) (ch := []) un hok bare (fun b z => absurd z (by simp)), r, q⟩
end

/-! ### calls -/
/-- f(..): the written arguments, then the defaults dvs; E: what is wanted of an exception -/
def tCall (sp : Sp) (dvs : List V) (E : XK) (t : TA) : TE := fun σ H Q => t σ H fun vs H1 => sp (vs ++ dvs) H1 Q E
/-- o.m(..) of an instance of the class at C -/
def tMeth (C : Addr) (m : Str) (sp : Sp) (dvs : List V) (E : XK) (ta : TE) (t : TA) : TE := fun σ H Q => ta σ H fun x H1 => ∃ a dx fs, x = .ref a ∧ H1 a = some (.ins C dx fs) ∧ fs.lookup m = none ∧
  t σ H1 fun vs H2 => sp (x :: (vs ++ dvs)) H2 Q E
/-- C(..): a new instance and its dict, then __init__ -/
def tMake (C : Addr) (sp : Sp) (dvs : List V) (E : XK) (t : TA) : TE := fun σ H Q => t σ H fun vs H1 => ∀ x dx, H1 x = none → H1 dx = none → dx ≠ x →
  sp (.ref x :: (vs ++ dvs)) (upd (upd H1 dx (.own x)) x (.ins C dx [])) (fun v H2 => v = .non ∧ Q (.ref x) H2) E

/-- how the parameters are bound: us the positional arguments, kw the keywords' values by name, ds the defaults that fill up -/
def Binds (K : PySem.W.Frag) (fd : FuncData) (ps : List Str) (ds : List Value) : Prop :=
  ∀ (s : Shared) (us : List Value), K.In s.heap → (us ++ ds).length = ps.length → BindsTo s fd ⟨us, []⟩ (ps.zip (us ++ ds))
/-- every parameter is given -/
theorem Binds.all {K : PySem.W.Frag} {fd : FuncData} {ps : List Str} (h : ∀ us : List Value, us.length = ps.length → bindArgs fd ⟨us, []⟩ = pure (ps.zip us)) : Binds K fd ps [] := fun s us _ hl => by
  rw [List.append_nil] at hl ⊢
  exact .of_eq (h us hl)

/-- an exception of a callee reaches what this body wants of exceptions -/
def Passes (CX : CXT) (X : Cx) (E : XK) : Prop := ∀ (pins : List (Addr × Obj)) (σ : St) (H : Hp) (s : Shared) (e : Value) (s' : Shared), Inv X pins σ H s → CX X.stack H s E e s' → X.xe e s'

section
variable {X : Cx} {CX : CXT} {k : Nat} {f C : Addr} {fd : FuncData} {ps : List Str} {sp : Sp} {dvs : List V} {ds : List Value} {E : XK} {x m : Str} {p pos apos : Pos} {e o : Expr} {es : List Expr} {ta : TE} {t : TA}

/-- the callee runs -/
theorem run_fn {pins : List (Addr × Obj)} {σ : St} {H : Hp} {s : Shared} {Q : VK} {us : List Value} {vs : List V} (F : FnOk X.prog X.w X.K X.mg X.base CX k f fd ps sp) (hr : Room k X.A) (hb : Binds X.K fd ps ds) (hd : Vals dvs ds) (hx : Passes CX X E)
    (I : Inv X pins σ H s) (r : Vals vs us) (h : sp (vs ++ dvs) H Q E) : wpAny (model X.prog X.w) X.A (call (.ref f) us) (EP X pins σ Q) X.xe s := by
  have r2 : Vals (vs ++ dvs) (us ++ ds) := r.append hd
  have hl : (us ++ ds).length = ps.length := by rw [← r2.length]; exact F.len _ _ _ _ h
  refine wpAny_call (codeAny_mono (F.run X.A X.stack s H ⟨us, []⟩ (us ++ ds) (vs ++ dvs) Q E hr I.env0 (hb s us I.kIn hl) r2 h) fun r s' hq => ?_)
  cases r with
  | error e => exact hx pins σ H s e s' I hq
  | ok fl =>
    cases fl with
    | ret u => exact I.after hq
    | next => exact False.elim hq
    | brk => exact False.elim hq
    | cont => exact False.elim hq

theorem pe_call (F : FnOk X.prog X.w X.K X.mg X.base CX k f fd ps sp) (hr : Room k X.A) (hg : Gl X x) (hm : X.mg x = some (.ref f)) (hk : PySem.W.keepIn X.K (.ref f) = true) (hb : Binds X.K fd ps ds) (hd : Vals dvs ds) (hx : Passes CX X E)
    (ha : PA X (e :: es) t) (hdb : (x == ("__debug__" : Str)) = false := by decide) (he : starEach (e :: es) X.env = (false, eval e X.env) :: starEach es X.env := by rfl) (hpl : (backTo pos (starEach es X.env)).any (·.1) = false := by rfl) :
    PE X (.Call (.Name x p) (e :: es) [] pos) (tCall sp dvs E t) := by
  intro pins s σ H Q I h
  refine wpAny_Call_Name_kw (ld_glob I hg hm ?_ hdb)
  refine PySem.W.callWith_K (h₀ := X.base) I.ok.mod.kin hk (thn (ha pos pins s σ H _ I h) fun us s1 ⟨vs, H1, I1, r, q⟩ => ⟨I1.kIn, ?_⟩) he hpl
  exact run_fn F hr hb hd hx I1 r q
/-- o.m(e, ..) -/
theorem pe_meth {pl : Sem Bool} (he : PE X o ta) (c : Cls X.K C) (hm : Meth X.K C m f) (F : FnOk X.prog X.w X.K X.mg X.base CX k f fd ps sp) (hr : Room k X.A) (hb : Binds X.K fd ps ds) (hd : Vals dvs ds) (hx : Passes CX X E) (ha : PA X (e :: es) t)
    (hst : starEach (e :: es) X.env = (false, eval e X.env) :: starEach es X.env := by rfl) (hpl : (backTo pos (starEach es X.env)).any (·.1) = false := by rfl)
    (ht : eval (.Call (.Attribute o m apos) (e :: es) [] pos) X.env = (do
      let ov ← eval o X.env
      standAt apos.atName
      let (f, first) ← holding [ov] (getMethod ov m pl)
      callWith pos f first (backTo pos (starEach (e :: es) X.env)) (backToKw pos (keywordEach [] X.env))) := by rfl) :
    PE X (.Call (.Attribute o m apos) (e :: es) [] pos) (tMeth C m sp dvs E ta t) := by
  intro pins s σ H Q I h
  refine PySem.W.methodCall_KW (pl := pl) (thn (he pins s σ H _ I h) fun u s1 ⟨x, H1, I1, rx, a, dx, fs, ex, ea, l, q⟩ => ?_) ht
  subst ex
  obtain rfl : u = Value.ref a := rx
  refine getmeth_ok I1 ea c hm l ?_
  refine PySem.W.callWith_K (first := [.ref a]) (h₀ := X.base) I.ok.mod.kin hm.kp (thn (ha pos pins s1 σ H1 _ I1 q) fun us s2 ⟨vs, H2, I2, r, q2⟩ => ⟨I2.kIn, ?_⟩) hst hpl
  exact run_fn (us := .ref a :: us) (vs := .ref a :: vs) F hr hb hd hx I2 (.cons rfl r) q2
/-- what a class must have to be made -/
structure Mk (K : PySem.W.Frag) (C f : Addr) : Prop where
  makes : PySem.W.makesIn K C = true
  init : PySem.W.findIn K (.ref C) "__init__" = some (some (.ref f))
  fn : PySem.W.isFn K (.ref f) = true
  kp : PySem.W.keepIn K (.ref C) = true

theorem run_make {pins : List (Addr × Obj)} {σ : St} {H : Hp} {s : Shared} {Q : VK} {us : List Value} {vs : List V} (M : Mk X.K C f) (F : FnOk X.prog X.w X.K X.mg X.base CX k f fd ps sp) (hr : Room (k + 1) X.A) (hb : Binds X.K fd ps ds) (hd : Vals dvs ds)
    (hx : Passes CX X E) (I : Inv X pins σ H s) (r : Vals vs us)
    (h : ∀ x dx, H x = none → H dx = none → dx ≠ x → sp (.ref x :: (vs ++ dvs)) (upd (upd H dx (.own x)) x (.ins C dx [])) (fun v H2 => v = .non ∧ Q (.ref x) H2) E) :
    wpAny (model X.prog X.w) X.A (call (.ref C) us) (EP X pins σ Q) X.xe s := by
  have hq := h (s.heap.objs.size + 1) s.heap.objs.size (I.hok.fresh (Nat.le_succ _)) (I.hok.fresh (Nat.le_refl _)) (Nat.ne_of_lt (Nat.lt_succ_self _))
  have I2 := Inv.made (C := C) I
  have r2 : Vals (V.ref (s.heap.objs.size + 1) :: (vs ++ dvs)) (Value.ref (s.heap.objs.size + 1) :: (us ++ ds)) := .cons rfl (r.append hd)
  have hl : (Value.ref (s.heap.objs.size + 1) :: us ++ ds).length = ps.length := by
    have e := r2.length
    rw [F.len _ _ _ _ hq] at e
    exact e.symm
  refine wpAny_call (make_map (f := f) I.kIn M.makes M.init (beq_iff_eq.mp M.fn) (codeAny_mono (F.run _ X.stack _ _ ⟨Value.ref (s.heap.objs.size + 1) :: us, []⟩ (Value.ref (s.heap.objs.size + 1) :: (us ++ ds)) _ _ E (hr.make C us [])
    (I2.env0.make C us []) (hb _ (Value.ref (s.heap.objs.size + 1) :: us) I2.kIn hl) r2 hq) fun r s' hq' => ?_))
  cases r with
  | error e => exact hx pins σ _ _ e s' I2 hq'
  | ok fl =>
    cases fl with
    | ret u =>
      obtain ⟨v, H', I3, rv, ev, q3⟩ := I2.after hq'
      subst ev
      exact ⟨rv, ⟨V.ref (s.heap.objs.size + 1), H', I3, rfl, q3⟩⟩
    | next => exact False.elim hq'
    | brk => exact False.elim hq'
    | cont => exact False.elim hq'
theorem pe_make0 (M : Mk X.K C f) (F : FnOk X.prog X.w X.K X.mg X.base CX k f fd ps sp) (hr : Room (k + 1) X.A) (hg : Gl X x) (hm : X.mg x = some (.ref C)) (hb : Binds X.K fd ps ds) (hd : Vals dvs ds) (hx : Passes CX X E)
    (hdb : (x == ("__debug__" : Str)) = false := by decide) : PE X (.Call (.Name x p) [] [] pos) (tMake C sp dvs E tNil) := by
  intro pins s σ H Q I h
  refine wpAny_Call_Name_kw (ld_glob I hg hm ?_ hdb)
  exact PySem.W.callWith_K0 I.kIn M.kp (run_make (us := []) M F hr hb hd hx I .nil h)
end

/-! ### keywords -/
section
variable {X : Cx} {CX : CXT} {k : Nat} {f C : Addr} {fd : FuncData} {ps ks : List Str} {sp : Sp} {E : XK} {x m : Str} {p pos apos kpos : Pos} {e o : Expr} {es : List Expr} {kws : List Keyword} {te ta : TE} {t tk : TA} {nm : Option Str}
/-- how a call with keywords binds: g puts the positional values us and the keywords' values ws (names ks) in the parameters' order, defaults among them -/
structure KBinds (K : PySem.W.Frag) (fd : FuncData) (ps ks : List Str) (g : List Value → List Value → List Value) (gV : List V → List V → List V) : Prop where
  to : ∀ (s : Shared) (us ws : List Value), K.In s.heap → (g us ws).length = ps.length → BindsTo s fd ⟨us, ks.zip ws⟩ (ps.zip (g us ws))
  rel : ∀ {vs : List V} {us : List Value} {zs : List V} {ws : List Value}, Vals vs us → Vals zs ws → Vals (gV vs zs) (g us ws)
variable {g : List Value → List Value → List Value} {gV : List V → List V → List V}
end

/-! ### a def's body keeps its promise -/
/-- names: the parameters first -/
structure FnScope (N P : List Str) (sc : Scope) : Prop where
  kind : sc.kind = .function
  co : sc.isCoroutine = false
  gen : sc.isGenerator = false
  nd : N.Nodup
  pre : N.take P.length = P
  par : ∀ x ∈ P, sc.names.lookup x = some .local ∨ sc.names.lookup x = some .cell
  nofree : ∀ y ∈ sc.names, y.2 ≠ .free

theorem bindL_out {kindOf : Str → Option NameKind} {x : Str} : ∀ {binds : List (Str × Value)} {m : Str → Option Value}, (∀ v, (x, v) ∉ binds) → bindL kindOf binds m x = m x
  | [], _, _ => rfl
  | (n, v) :: r, m, h => by
    unfold bindL
    rw [bindL_out fun w hw => h w (List.mem_cons_of_mem _ hw)]
    split
    · have : x ≠ n := by rintro rfl; exact h v List.mem_cons_self
      simp [this]
    · rfl
theorem bindC_out {kindOf : Str → Option NameKind} {x : Str} : ∀ {binds : List (Str × Value)} {m : Str → Option Value}, (∀ v, (x, v) ∉ binds) → bindC kindOf binds m x = m x
  | [], _, _ => rfl
  | (n, v) :: r, m, h => by
    unfold bindC
    rw [bindC_out fun w hw => h w (List.mem_cons_of_mem _ hw)]
    split
    · rfl
    · have : x ≠ n := by rintro rfl; exact h v List.mem_cons_self
      simp [this]
theorem bindL_get {kindOf : Str → Option NameKind} {x : Str} {v : Value} : ∀ {P : List Str} {vs : List Value} {i : Nat} {m : Str → Option Value}, P.Nodup → P[i]? = some x → vs[i]? = some v → kindOf x = some .local →
    bindL kindOf (P.zip vs) m x = some v
  | [], _, _, _, _, h, _, _ => by simp at h
  | _ :: _, [], _, _, _, _, h, _ => by simp at h
  | p :: P, w :: vs, 0, m, nd, h1, h2, hk => by
    simp at h1 h2; subst h1; subst h2
    show bindL kindOf ((p, w) :: P.zip vs) m p = _
    unfold bindL
    rw [bindL_out fun v hv => (List.nodup_cons.mp nd).1 (List.of_mem_zip hv).1, if_pos hk]
    simp
  | p :: P, w :: vs, i + 1, m, nd, h1, h2, hk => by
    show bindL kindOf ((p, w) :: P.zip vs) m x = _
    unfold bindL
    exact bindL_get (i := i) (List.nodup_cons.mp nd).2 (by simpa using h1) (by simpa using h2) hk
theorem bindC_get {kindOf : Str → Option NameKind} {x : Str} {v : Value} : ∀ {P : List Str} {vs : List Value} {i : Nat} {m : Str → Option Value}, P.Nodup → P[i]? = some x → vs[i]? = some v → kindOf x ≠ some .local →
    bindC kindOf (P.zip vs) m x = some v
  | [], _, _, _, _, h, _, _ => by simp at h
  | _ :: _, [], _, _, _, _, h, _ => by simp at h
  | p :: P, w :: vs, 0, m, nd, h1, h2, hk => by
    simp at h1 h2; subst h1; subst h2
    show bindC kindOf ((p, w) :: P.zip vs) m p = _
    unfold bindC
    rw [bindC_out fun v hv => (List.nodup_cons.mp nd).1 (List.of_mem_zip hv).1, if_neg hk]
    simp
  | p :: P, w :: vs, i + 1, m, nd, h1, h2, hk => by
    show bindC kindOf ((p, w) :: P.zip vs) m x = _
    unfold bindC
    exact bindC_get (i := i) (List.nodup_cons.mp nd).2 (by simpa using h1) (by simpa using h2) hk

/-- the names' values at the entry -/
def start (N : List Str) (vs : List V) : St := vs.map some ++ List.replicate (N.length - vs.length) none

/-- the context of a def's body, at its entry; an exception leaves the frame, then lies as CX says -/
def cxOf (CX : CXT) (P : Program) (w : World) (K : PySem.W.Frag) (mg : Str → Option Value) (base : Heap) (N : List Str) (qual : Str) (scope : Scope) (f : Addr) (cd : Value) (A : Around) (outer : List Env) (s : Shared) (H : Hp) (E : XK) : Cx where
  prog := P
  w := w
  K := K
  mg := mg
  base := base
  A := A.deeper (envOfC qual scope s.heap.objs.size f cd)
  N := N
  s₀ := s
  H₀ := H
  env := envOfC qual scope s.heap.objs.size f cd
  outer := outer
  stack := envOfC qual scope s.heap.objs.size f cd :: outer
  ex := []
  calm := true
  fn := fun _ => true
  pn := []
  xe := fun e s' => wpAny (model P w) (A.deeper (envOfC qual scope s.heap.objs.size f cd)) (leaving (envOfC qual scope s.heap.objs.size f cd) e) (fun _ s'' => CX outer H s E e s'') (fun e' s'' => CX outer H s E e' s'') s'

theorem cell_has {sc : Scope} {n : Nat} {x : Str} (h : sc.names.lookup x = some .cell) : ∃ c, (cellsFrom n sc.names []).lookup x = some c := by
  have q := PySem.W.cellsFrom_some sc.names n [] (.inl h)
  exact Option.isSome_iff_exists.mp q

theorem inv_start {CX : CXT} {P : Program} {w : World} {K : PySem.W.Frag} {mg : Str → Option Value} {base : Heap} {N ps : List Str} {qual : Str} {scope : Scope} {f : Addr} {cd : Value} {A : Around} {outer : List Env} {s s1 : Shared} {H : Hp} {E : XK} {us : List Value} {vs : List V}
    (S : FnScope N ps scope) (hd : A.handled = none) (e0 : Env0 P w K mg base A outer s H) (hl : vs.length = ps.length) (r : Vals vs us)
    (x : InCallC s s.heap.objs.size (bindL (envOfC qual scope s.heap.objs.size f cd).kindOf (ps.zip us) fun _ => none) (cellsFrom (s.heap.objs.size + 1) scope.names []) (bindC (envOfC qual scope s.heap.objs.size f cd).kindOf (ps.zip us) fun _ => none) s1) :
    Inv (cxOf CX P w K mg base N qual scope f cd A outer s H E) [] (start N vs) H s1 := by
  have hpl : ps.length ≤ N.length := by have := congrArg List.length S.pre; rw [List.length_take] at this; omega
  obtain ⟨h1, tk, rfl, hk⟩ := x.done
  have noA : ∀ b : Addr, b ∉ (cxOf CX P w K mg base N qual scope f cd A outer s H E).ex := fun b z => absurd (show b ∈ ([] : List Addr) from z) (by simp)
  refine ⟨⟨e0.mod, S.kind, rfl, rfl, Nat.le_refl _, fun y z c h1 h2 => ?_, fun y hy => ?_, fun y c _ h => ?_, fun _ => hd, Around.frames_deeper e0.frames, .inr ⟨rfl, rfl⟩, fun b z => absurd z (noA b), e0.bs, e0.bsz, fun b _ _ => noA b, fun b z => absurd z (noA b), e0.funs, e0.frf⟩,
    rfl, e0.bare, Un.kept hk, ⟨_, x.toInCall.ns, fun i y v h1 h2 h3 => ?_⟩, fun y c h => ⟨_, x.cell y c h⟩, e0.hok.fresh (Nat.le_refl _), fun y c h => ?_, fun p hp => absurd (show p ∈ ([] : List (Addr × Obj)) from hp) (by simp), e0.hok.kept hk, ?_⟩
  · exact name_of_addr x.apart (PySem.mem_of_lookup h1) (PySem.mem_of_lookup h2)
  · have hy : scope.names.lookup y = some .cell ∨ scope.names.lookup y = some .free := hy
    rcases hy with hy | hy
    · exact cell_has hy
    · exact absurd rfl (S.nofree _ (PySem.mem_of_lookup hy))
  · exact Nat.le_of_lt (x.above y c (PySem.mem_of_lookup h))
  · have hi : i < vs.length := by
      unfold start at h2
      by_cases hi : i < vs.length
      · exact hi
      · rw [List.getElem?_append_right (by simpa using hi)] at h2
        rw [List.getElem?_replicate] at h2
        split at h2 <;> cases h2
    have ha : vs[i]? = some v := by
      unfold start at h2
      rw [List.getElem?_append_left (by simpa using hi), List.getElem?_map] at h2
      cases e : vs[i]? with
      | none => rw [e] at h2; cases h2
      | some a => rw [e] at h2; cases h2; rfl
    obtain ⟨u, hu, rv⟩ := r.get ha
    have hp : ps[i]? = some y := by
      rw [← S.pre, List.getElem?_take_of_lt (by omega)]; exact h1
    have ndP : ps.Nodup := by rw [← S.pre]; exact S.nd.sublist (List.take_sublist _ _)
    refine ⟨u, rv, ?_⟩
    rcases S.par y (List.mem_of_getElem? hp) with k | k
    · exact .inl ⟨k, bindL_get ndP hp hu k⟩
    · obtain ⟨c, e⟩ := cell_has (n := s.heap.objs.size + 1) k
      refine .inr ⟨.inl k, c, e, ?_⟩
      have q := x.cell y c e
      rw [bindC_get ndP hp hu (by show scope.names.lookup y ≠ _; rw [k]; decide)] at q
      exact q
  · exact e0.hok.fresh (Nat.le_of_lt (x.above y c (PySem.mem_of_lookup h)))
  · unfold start
    show _ = N.length
    rw [List.length_append, List.length_map, List.length_replicate]
    omega

/-- THE RULE: a def (or a method) of the text, by its body. The body's reading t is chosen for each entry; it is run at the parameters' values -/
theorem fn_of {CX : CXT} {P : Program} {w : World} {K : PySem.W.Frag} {mg : Str → Option Value} {base : Heap} {k : Nat} {f : Addr} {name qual : Str} {params : Arguments} {body : List Stmt} {scope : Scope} {dV kV doc pm cdv ct oc : Value} {an od : Option Addr}
    {osl : Array (Option Value)} {N ps : List Str} {sp : Sp} (lk : K.lookup f = some ⟨oc, od, .func (PySem.W.fnOf name qual params body scope dV kV doc pm an cdv ct), osl⟩) (hcd : PySem.W.codeIn K cdv qual = true) (S : FnScope N ps scope)
    (len : ∀ vs H Q E, sp vs H Q E → vs.length = ps.length)
    (hbody : ∀ (A : Around) (outer : List Env) (s : Shared) (H : Hp) (vs : List V) (Q : VK) (E : XK), Room k (A.deeper (envOfC qual scope s.heap.objs.size f cdv)) → sp vs H Q E →
      ∃ t, PSs (cxOf CX P w K mg base N qual scope f cdv A outer s H E) body t ∧ t { nx := fun _ H' => Q .non H', rt := Q } (start N vs) H) :
    FnOk P w K mg base CX (k + 1) f (PySem.W.fnOf name qual params body scope dV kV doc pm an cdv ct) ps sp := by
  refine ⟨len, fun A outer s H args us vs Q E hr e0 hb r hsp => ?_⟩
  have hl := len _ _ _ _ hsp
  have KX : K.In s.heap := e0.mod.kin.keeps fun b o e => (e0.bs b o e).1
  have lim : s.heap.NoLimit := e0.mod.nolimit.keeps fun b o e => (e0.bs b o e).1
  have hkind : ∀ y ∈ ps.zip us, scope.names.lookup y.1 = some .local ∨ (scope.names.lookup y.1 = some .cell ∧ ((cellsFrom (s.heap.objs.size + 1) scope.names []).lookup y.1).isSome = true) := fun ⟨n, v⟩ hy => by
    rcases S.par n (List.of_mem_zip hy).1 with q | q
    · exact .inl q
    · exact .inr ⟨q, PySem.W.cellsFrom_some _ _ _ (.inl q)⟩
  refine codeAny_call_function hr.depth (KX _ _ lk) rfl S.co S.gen rfl (PySem.W.codeRec_of KX hcd) (hb _ _ _ _ ?_)
  refine wpAny_newFunctionEnv_cells S.kind hkind fun env he s1 x => ?_
  subst he
  refine ⟨lim.keeps x.toInCall.keep, codeAny_func ?_⟩
  obtain ⟨t, ht, hq⟩ := hbody A outer s H vs Q E (hr.deeper _) hsp
  have I : Inv (cxOf CX P w K mg base N qual scope f cdv A outer s H E) [] (start N vs) H s1 := inv_start S hr.hd e0 hl r x
  refine wpAny_mono (ht [] s1 (start N vs) H _ I hq) (fun fl s' hs => ?_) fun e s' hs => hs
  have fin : ∀ {σ' : St} {H' : Hp} {v : V} {u : Value}, Inv (cxOf CX P w K mg base N qual scope f cdv A outer s H E) [] σ' H' s' → RelV v u → Q v H' → CE outer P w H s Q u s' :=
    fun {σ' H' v u} J rv q => ⟨v, H', J.os, J.bare, J.base, J.hok, rv, q⟩
  cases fl with
  | ret u =>
    obtain ⟨v, σ', H', J, rv, q⟩ := hs
    exact fin J rv q
  | next =>
    obtain ⟨σ', H', J, q⟩ := hs
    exact fin (v := V.non) (u := Value.none) J rfl q
  | brk =>
    obtain ⟨_, _, _, q⟩ := hs
    exact False.elim q
  | cont =>
    obtain ⟨_, _, _, q⟩ := hs
    exact False.elim q
end L2

namespace L2
open PySem PySem.Spec PyProof.Rows
section
variable {X : Cx} {x : Str} {p pos : Pos} {e : Expr} {es : List Expr} {t : TA} {id T : String} {r : List V → Hp → VK → Prop}

def tCB (r : List V → Hp → VK → Prop) (t : TA) : TE := fun σ H Q => t σ H fun vs H1 => r vs H1 Q
/-- f(e, ..), f a built-in function -/
theorem pe_callB (hc : CallR X (.builtin id) r) (hg : Gl X x) (hm : X.mg x = none) (hv : bootBuiltins x = some (.builtin id)) (ha : PA X (e :: es) t) (hn : x ≠ "__name__" := by decide) (hdb : (x == ("__debug__" : Str)) = false := by decide)
    (he : starEach (e :: es) X.env = (false, eval e X.env) :: starEach es X.env := by rfl) (hpl : (backTo pos (starEach es X.env)).any (·.1) = false := by rfl) : PE X (.Call (.Name x p) (e :: es) [] pos) (tCB r t) := by
  intro pins s σ H Q I h
  refine wpAny_Call_Name_kw (ld_blt I hg hm hv ?_ hn hdb)
  exact PyProof.Rows.callWith_builtin1 (thn (ha pos pins s σ H _ I h) fun us s1 ⟨vs, H1, I1, r1, q1⟩ => hc pins s1 σ H1 vs us Q I1 r1 q1) he hpl
/-- T(e, ..), T a built-in type -/
theorem pe_callTy (hc : CallR X (.type T) r) (hg : Gl X x) (hm : X.mg x = none) (hv : bootBuiltins x = some (.type T)) (ha : PA X (e :: es) t) (hn : x ≠ "__name__" := by decide) (hdb : (x == ("__debug__" : Str)) = false := by decide)
    (he : starEach (e :: es) X.env = (false, eval e X.env) :: starEach es X.env := by rfl) (hpl : (backTo pos (starEach es X.env)).any (·.1) = false := by rfl) : PE X (.Call (.Name x p) (e :: es) [] pos) (tCB r t) := by
  intro pins s σ H Q I h
  refine wpAny_Call_Name_kw (ld_blt I hg hm hv ?_ hn hdb)
  exact PyProof.Rows.callWith_type1 (thn (ha pos pins s σ H _ I h) fun us s1 ⟨vs, H1, I1, r1, q1⟩ => hc pins s1 σ H1 vs us Q I1 r1 q1) he hpl
/-- T() -/
theorem pe_callTy0 (hc : CallR X (.type T) r) (hg : Gl X x) (hm : X.mg x = none) (hv : bootBuiltins x = some (.type T)) (hn : x ≠ "__name__" := by decide) (hdb : (x == ("__debug__" : Str)) = false := by decide) :
    PE X (.Call (.Name x p) [] [] pos) (tCB r tNil) := by
  intro pins s σ H Q I h
  refine wpAny_Call_Name_kw (ld_blt I hg hm hv ?_ hn hdb)
  exact PyProof.Rows.callWith_type0 (hc pins s σ H [] [] Q I .nil h)
end
end L2

namespace HT
open PySem PyProof.Rows

section
open PySem.SeqAt
open PySem.AutoSeq1 (wpAny_loadPart')
open PySem.MeetsSeq PySem.MeetsSeq2 PySem.MeetsSeq3

end

section
variable {prog : Program} {w : World} {A : Around} {E : Value → Shared → Prop} {s : Shared}

/-- t + u, t not empty -/
theorem cat_tup {t b : Addr} {vs ws : List Value} {Q : Value → Shared → Prop} (ht : IsTup s.heap t vs.toArray) (hb : IsTup s.heap b ws.toArray) (hv : vs ≠ [])
    (h1 : ws = [] → Q (.ref t) s) (h2 : ws ≠ [] → Q (.ref s.heap.objs.size) { s with heap := s.heap.push { cls := .type "tuple", data := .seq (vs ++ ws).toArray } })
    (hsz : vs.length + ws.length ≤ sizeLine) : wpAny (model prog w) A (binaryOp .Add (.ref t) (.ref b)) Q E s := by
  obtain ⟨⟨cls, dd, data, sl⟩, ho, hc, n, hd⟩ := id ht
  obtain ⟨⟨cls2, dd2, data2, sl2⟩, ho2, hc2, n2, hd2⟩ := id hb
  simp only at hc hd hc2 hd2
  subst hc hd hc2 hd2
  have e : vs.toArray ++ ws.toArray = (vs ++ ws).toArray := by simp
  by_cases hw : ws = []
  · exact concat_meets ⟨_, ho, rfl⟩ ⟨_, ho2, rfl⟩ noFill_tuple_add seq_tuple_add PySem.F.slot_tuple_add PySem.F.entry_tuple_add (PySem.F.args_tuple_add_2 _ _)
      (tuple_addW1 t b vs.toArray ws.toArray n n2 dd dd2 sl sl2 (by simpa using hv) (by simp [hw])) ⟨ho, ho2, h1 hw⟩
  · refine concat_meets ⟨_, ho, rfl⟩ ⟨_, ho2, rfl⟩ noFill_tuple_add seq_tuple_add PySem.F.slot_tuple_add PySem.F.entry_tuple_add (PySem.F.args_tuple_add_2 _ _)
      (tuple_addW2 t b vs.toArray ws.toArray n n2 dd dd2 sl sl2 (by simpa using hv) (by simpa using hw) (by rw [List.size_toArray, List.size_toArray]; exact hsz)) ⟨ho, ho2, ?_⟩
    rw [e]
    exact h2 hw

/-! ### t[a:b], not the whole -/
/-- a slice's bound as a place among n (d where it is left out) -/
def sIx (n d : Nat) : Option Int → Nat
  | none => d
  | some v => if v < 0 then (v + (n : Int)).toNat else min v.toNat n
theorem sIx_none (n d : Nat) : sIx n d none = d := rfl
theorem sIx_nat (n d k : Nat) : sIx n d (some (k : Int)) = min k n := by
  show (if (k : Int) < 0 then ((k : Int) + (n : Int)).toNat else min (k : Int).toNat n) = min k n
  rw [if_neg (by omega), Int.toNat_natCast]
theorem sIx_le (n d : Nat) (hd : d ≤ n) (o : Option Int) : sIx n d o ≤ n := by
  cases o with
  | none => exact hd
  | some v =>
    show (if v < 0 then (v + (n : Int)).toNat else min v.toNat n) ≤ n
    by_cases hv : v < 0
    · rw [if_pos hv]; omega
    · rw [if_neg hv]; exact Nat.min_le_right _ _
theorem clip_eq (v : Int) (n d : Nat) : (if v < 0 then max (v + (n : Int)) 0 else min v (n : Int)) = ((sIx n d (some v) : Nat) : Int) := by
  show (if v < 0 then max (v + (n : Int)) 0 else min v (n : Int)) = (((if v < 0 then (v + (n : Int)).toNat else min v.toNat n) : Nat) : Int)
  by_cases hv : v < 0
  · simp only [if_pos hv]; omega
  · simp only [if_neg hv]; omega
theorem adjust_gen (lo hi : Option Int) (n : Nat) : Builtin.Slice.sliceAdjust lo hi 1 (n : Int) = (((sIx n 0 lo : Nat) : Int), ((sIx n n hi : Nat) : Int)) := by
  have h1 : ¬ ((1 : Int) < 0) := by omega
  unfold Builtin.Slice.sliceAdjust
  simp only [h1, if_false]
  refine Prod.ext ?_ ?_
  · cases lo with
    | none => rfl
    | some v => exact clip_eq v n 0
  · cases hi with
    | none => rfl
    | some v => exact clip_eq v n n
theorem places_gen (i j : Nat) : Builtin.Slice.slicePlaces (i : Int) (j : Int) 1 = j - i := by
  unfold Builtin.Slice.slicePlaces
  have h1 : (1 : Int) > 0 := by omega
  simp only [h1, if_true, Int.ediv_one]
  split <;> omega
theorem slicePart_ {v : Value} {o : Option Int} {Q : Option Int → Shared → Prop} (p : IsPart v o) (h : Q o s) : wpAny (model prog w) A (Builtin.Slice.slicePartIndex v) Q E s := by
  cases p with
  | none => exact slicePart_none h
  | int i t => exact slicePart_int h
theorem sliceApplied_gen {sl : Addr} {vl vu : Value} {lo hi : Option Int} {n : Nat} {Q : Int × Int × Nat → Shared → Prop} (hs : s.heap.IsSliceOf sl vl vu .none) (pl : IsPart vl lo) (pu : IsPart vu hi)
    (h : Q (((sIx n 0 lo : Nat) : Int), 1, sIx n n hi - sIx n 0 lo) s) : wpAny (model prog w) A (Builtin.Slice.sliceApplied (.ref sl) (pure (n : Int))) Q E s := by
  obtain ⟨os, hos, hcs, hds⟩ := id hs
  unfold Builtin.Slice.sliceApplied Builtin.Slice.sliceFields
  refine wpAny_bind (wpAny_bind (wpAny_field hos hds (x := vl) rfl (wpAny_bind (wpAny_field hos hds (x := vu) rfl (wpAny_bind (wpAny_field hos hds (x := .none) rfl (wpAny_pure ?_)))))))
  refine wpAny_bind (slicePart_none ?_)
  show wpAny _ _ (if ((1 : Int) == 0) = true then _ else _) _ _ s
  rw [if_neg (by decide)]
  refine wpAny_bind (slicePart_ pl (wpAny_bind (slicePart_ pu (wpAny_bind (wpAny_pure ?_)))))
  show wpAny _ _ (match Builtin.Slice.sliceAdjust lo hi 1 (n : Int) with | (lo, hi) => pure (lo, (1 : Int), Builtin.Slice.slicePlaces lo hi 1)) _ _ s
  rw [adjust_gen lo hi n]
  show wpAny _ _ (pure (((sIx n 0 lo : Nat) : Int), (1 : Int), Builtin.Slice.slicePlaces ((sIx n 0 lo : Nat) : Int) ((sIx n n hi : Nat) : Int) 1)) _ _ s
  rw [places_gen]
  exact wpAny_pure h
theorem pick_gen (xs : Array Value) (i k : Nat) : ((List.range k).filterMap fun (m : Nat) => xs[((i : Int) + (m : Int) * 1).toNat]?).toArray = ((xs.toList.drop i).take k).toArray := by
  have e : (fun (m : Nat) => xs[((i : Int) + (m : Int) * 1).toNat]?) = fun m => xs[i + m]? := by
    funext m
    have : ((i : Int) + (m : Int) * 1).toNat = i + m := by omega
    rw [this]
  rw [e]
  have := pick_run xs i k
  rw [List.filterMap_map] at this
  have e2 : ((fun x => xs[x]?) ∘ fun x => i + x) = fun m => xs[i + m]? := rfl
  rw [e2] at this
  rw [this]

theorem getItem_tuple_cut {t sl : Addr} {items : Array Value} {vl vu : Value} {lo hi : Option Int} {Q : Value → Shared → Prop} (ht : IsTup s.heap t items) (hs : s.heap.IsSliceOf sl vl vu .none) (pl : IsPart vl lo) (pu : IsPart vu hi)
    (hw : ¬ (sIx items.size 0 lo = 0 ∧ sIx items.size items.size hi = items.size))
    (h : Q (.ref s.heap.objs.size) { s with heap := s.heap.push { cls := .type "tuple", data := .seq ((items.toList.drop (sIx items.size 0 lo)).take (sIx items.size items.size hi - sIx items.size 0 lo)).toArray } })
    (hsz : items.size ≤ sizeLine) : wpAny (model prog w) A (getItem (.ref t) (.ref sl)) Q E s := by
  have htake : sizeOk (.seq ((items.toList.drop (sIx items.size 0 lo)).take (sIx items.size items.size hi - sIx items.size 0 lo)).toArray) := by
    show ((items.toList.drop (sIx items.size 0 lo)).take (sIx items.size items.size hi - sIx items.size 0 lo)).toArray.size ≤ sizeLine
    rw [List.size_toArray, List.length_take, List.length_drop, Array.length_toList]
    omega
  have hj : sIx items.size items.size hi ≤ items.size := sIx_le _ _ (Nat.le_refl _) hi
  obtain ⟨os, hos, hcs, hds⟩ := id hs
  have hTs : s.TypeIs (.ref sl) "slice" := ⟨os, hos, hcs⟩
  unfold getItem
  try with_reducible refine wpAny_holding ?_
  first | refine wpAny_bind (wpAny_pure ?_) | skip
  refine wpAny_bind (wpAny_sequenceKey ht.typeIs (by decide) ?_)
  refine wpAny_bind (wpAny_callSpecial?_slot (name := Str.ofString "__getitem__") ht.typeIs PyProof.Rows.slot_tuple_getitem
    (wpAny_call_entry PyProof.Rows.slot_tuple_getitem ht.typeIs entry_tuple_getitem ?_ (args_tuple_getitem _ _)))
  show wpAny _ _ (Builtin.Tuple.tupleItemsOf (.ref t) >>= _) _ _ s
  refine wpAny_bind (tupleItemsOf_ ht ?_)
  refine wpAny_bind (wpAny_typeOf hTs ?_)
  rw [if_pos (by decide)]
  refine wpAny_bind (sliceApplied_gen hs pl pu ?_)
  have hno : ¬ ((((sIx items.size 0 lo : Nat) : Int) == 0 && (1 : Int) == 1 && (sIx items.size items.size hi - sIx items.size 0 lo) == items.size) = true) := by
    intro q
    rw [Bool.and_eq_true, Bool.and_eq_true] at q
    have q1 : ((sIx items.size 0 lo : Nat) : Int) = 0 := eq_of_beq q.1.1
    have q2 : sIx items.size items.size hi - sIx items.size 0 lo = items.size := eq_of_beq q.2
    exact hw ⟨by omega, by omega⟩
  show wpAny _ _ (if (((sIx items.size 0 lo : Nat) : Int) == 0 && (1 : Int) == 1 && (sIx items.size items.size hi - sIx items.size 0 lo) == items.size) = true then _ else _) _ _ s
  rw [if_neg hno, pick_gen]
  first
    | exact wpAny_bind (m := Builtin.Tuple.tupleExact _) (wpAny_newObj_type (wpAny_pure ⟨_, rfl, wpAny_pure h⟩) htake)
    | exact wpAny_bind (m := Builtin.Tuple.tupleExact _) (wpAny_newObj_type (wpAny_bind (wpAny_pure (wpAny_pure ⟨_, rfl, wpAny_pure h⟩))) htake)
    | exact wpAny_bind (wpAny_bind (m := Builtin.Tuple.tupleExact _) (wpAny_newObj_type (wpAny_pure (wpAny_pure ⟨_, rfl, wpAny_pure h⟩)) htake))
    | exact wpAny_bind (wpAny_bind (m := Builtin.Tuple.tupleExact _) (wpAny_newObj_type (wpAny_pure ⟨_, rfl, wpAny_pure h⟩) htake))
end
end HT

namespace L2
open PySem PySem.Spec PyProof.Rows

/-! ### the parts of a slice -/
abbrev TO := St → Hp → (Option Int → Hp → Prop) → Prop
/-- a slice's part (left out, or an int) -/
def PO (X : Cx) (e : Option Expr) (t : TO) : Prop :=
  ∀ (pins : List (Addr × Obj)) (s : Shared) (σ : St) (H : Hp) (Q : Option Int → Hp → Prop), Inv X pins σ H s → t σ H Q →
    wpAny (model X.prog X.w) X.A (evalPart e X.env) (fun u s' => ∃ o H', Inv X pins σ H' s' ∧ IsPart u o ∧ Q o H') X.xe s
def tNoPart : TO := fun _ H Q => Q none H
def tPart (t : TE) : TO := fun σ H Q => t σ H fun x H1 => ∃ i, x = .int i ∧ Q (some i) H1

theorem intsAre_of {ns : List Int} : ∀ {us : List Value}, Vals (ns.map V.int) us → IntsAre us ns := by
  induction ns with
  | nil => intro us r; rw [List.map_nil] at r; cases r; exact .nil
  | cons n ns ih =>
    intro us r
    rw [List.map_cons] at r
    cases r with
    | cons r1 r2 =>
      obtain ⟨t, e⟩ := r1
      subst e
      exact .cons n t (ih r2)

section
variable {X : Cx} {e : Expr} {te : TE} {lo hi : Option Expr} {tl th : TO} {pos p2 : Pos}

theorem po_none : PO X none tNoPart := by
  intro pins s σ H Q I h
  rw [evalPart_none]
  exact wpAny_pure ⟨none, H, I, .none, h⟩
theorem po_some (h : PE X e te) : PO X (some e) (tPart te) := by
  intro pins s σ H Q I hw
  rw [evalPart_some]
  refine thn (h pins s σ H _ I hw) fun u s1 ⟨x, H1, I1, r1, q1⟩ => ?_
  obtain ⟨i, rfl, q⟩ := q1
  obtain ⟨t, rfl⟩ := r1
  exact ⟨some i, H1, I1, .int i t, q⟩

/-- what a slice of a value is, by values: the slice object stands at sl -/
def SlR (X : Cx) (r : V → Option Int → Option Int → Hp → VK → Prop) : Prop :=
  ∀ (pins : List (Addr × Obj)) (s : Shared) (σ : St) (H : Hp) (x : V) (v vl vu : Value) (lo hi : Option Int) (sl : Addr) (Q : VK), Inv X pins σ H s → RelV x v → s.heap.IsSliceOf sl vl vu .none → IsPart vl lo → IsPart vu hi → r x lo hi H Q →
    ∃ T id, typeLookup (.type T) "__getitem__" = pure (some (.builtin id)) ∧ s.TypeIs v T ∧ wpAny (model X.prog X.w) X.A (getItem v (.ref sl)) (EP X pins σ Q) X.xe s
theorem SlR.or {r r' : V → Option Int → Option Int → Hp → VK → Prop} (h : SlR X r) (h' : SlR X r') : SlR X (fun x lo hi H Q => r x lo hi H Q ∨ r' x lo hi H Q) := by
  intro pins s σ H x v vl vu lo hi sl Q I rx hs pl pu q
  rcases q with q | q
  · exact h pins s σ H x v vl vu lo hi sl Q I rx hs pl pu q
  · exact h' pins s σ H x v vl vu lo hi sl Q I rx hs pl pu q
def tSl (r : V → Option Int → Option Int → Hp → VK → Prop) (te : TE) (tl th : TO) : TE := fun σ H Q => te σ H fun x H1 => tl σ H1 fun l H2 => th σ H2 fun u H3 => r x l u H3 Q
/-- a[lo:hi], any a -/
theorem pe_slice {r : V → Option Int → Option Int → Hp → VK → Prop} (hr : SlR X r) (he : PE X e te) (hl : PO X lo tl) (hu : PO X hi th) : PE X (.Subscript e (.Slice lo hi none p2) pos) (tSl r te tl th) := by
  intro pins s σ H Q I h
  refine Subscript_ (thn (he pins s σ H _ I h) fun v s1 ⟨x, H1, I1, r1, q1⟩ => ?_)
  refine wpAny_Slice (thn (hl pins s1 σ H1 _ I1 q1) fun vl s2 ⟨l, H2, I2, pl, q2⟩ => thn (hu pins s2 σ H2 _ I2 q2) fun vu s3 ⟨u, H3, I3, pu, q3⟩ => ?_)
  rw [evalPart_none]
  refine wpAny_pure ?_
  have I4 : Inv X pins σ H3 { s3 with heap := s3.heap.push { cls := .type "slice", data := .fields #[vl, vu, .none] } } := I3.kept (t' := s3.toks) fun b ob q => Heap.get?_push_of_some _ q
  obtain ⟨T, id, hT, ht, hg⟩ := hr pins { s3 with heap := s3.heap.push { cls := .type "slice", data := .fields #[vl, vu, .none] } } σ H3 x v vl vu l u s3.heap.objs.size Q I4 r1 (Heap.IsSliceOf.new ..) pl pu q3
  show wpAny (model X.prog X.w) X.A (subscriptTail e (.Slice lo hi none p2) v (.ref s3.heap.objs.size)) (EP X pins σ Q) X.xe { s3 with heap := s3.heap.push { cls := .type "slice", data := .fields #[vl, vu, .none] } }
  exact tail_any (ops := [.ref s3.heap.objs.size, v]) ht hT hg (by with_unfolding_all rfl)

/-- the items of xs[lo:hi] -/
def cutV (xs : List V) (lo hi : Option Int) : List V := (xs.drop (HT.sIx xs.length 0 lo)).take (HT.sIx xs.length xs.length hi - HT.sIx xs.length 0 lo)
theorem cutV_length (xs : List V) (lo hi : Option Int) : (cutV xs lo hi).length ≤ xs.length := by
  unfold cutV
  rw [List.length_take, List.length_drop]
  omega
/-- t[lo:hi], not the whole of it (the whole would be t itself) -/
def rSlT (K : PySem.W.Frag) : V → Option Int → Option Int → Hp → VK → Prop := fun x lo hi H Q => ∃ a xs, x = .ref a ∧ SqT K H a xs ∧
  ¬ (HT.sIx xs.length 0 lo = 0 ∧ HT.sIx xs.length xs.length hi = xs.length) ∧ ∀ p, H p = none → Q (.ref p) (upd H p (.tup (cutV xs lo hi)))
theorem sl_tup : SlR X (rSlT X.K) := by
  intro pins s σ H x v vl vu lo hi sl Q I rx hs pl pu h
  obtain ⟨a, xs, rfl, hx, hw, q⟩ := h
  cases rx
  obtain ⟨its, r, ht, hz⟩ := I.tuple hx
  have hlen : its.toArray.size = xs.length := by rw [List.size_toArray]; exact r.length.symm
  refine ⟨"tuple", _, PyProof.Rows.slot_tuple_getitem.lookup, ht.typeIs, ?_⟩
  refine HT.getItem_tuple_cut ht hs pl pu (by rw [hlen]; exact hw) ?_ (by rw [hlen]; exact hz)
  rw [hlen]
  refine ⟨.ref s.heap.objs.size, _, I.laid (t' := s.toks) (o := .tup (cutV xs lo hi)) (fun b ob q => Heap.get?_push_of_some _ q) (Nat.le_refl _) ?_, rfl, q _ (I.hok.fresh (Nat.le_refl _))⟩
  exact ⟨Nat.le_trans (cutV_length xs lo hi) hz, _, (r.drop (HT.sIx xs.length 0 lo)).take (HT.sIx xs.length xs.length hi - HT.sIx xs.length 0 lo), IsTup.new _ _⟩

/-! ### t < u, t + u -/
/-- t + u, t not empty: u empty gives t itself -/
def rCatT (K : PySem.W.Frag) : R2 := fun x y H Q => ∃ a b xs ys, x = .ref a ∧ y = .ref b ∧ SqT K H a xs ∧ SqT K H b ys ∧ xs ≠ [] ∧ xs.length + ys.length ≤ sizeLine ∧
  (ys = [] → Q (.ref a) H) ∧ (ys ≠ [] → ∀ p, H p = none → Q (.ref p) (upd H p (.tup (xs ++ ys))))
theorem Vals.nil_iff {xs : List V} {us : List Value} (r : Vals xs us) : us = [] ↔ xs = [] := by
  cases r with
  | nil => simp
  | cons _ _ => simp
theorem op_catT : OpR X (binaryOp .Add) (rCatT X.K) := by
  intro pins s σ H x y v u Q I rx ry h
  obtain ⟨a, b, xs, ys, rfl, rfl, ha, hb, hx, hz, q1, q2⟩ := h
  cases rx
  cases ry
  obtain ⟨its, r1, p1, _⟩ := I.tuple ha
  obtain ⟨its2, r2, p2, _⟩ := I.tuple hb
  refine HT.cat_tup p1 p2 (fun z => hx (r1.nil_iff.mp z)) (fun z => ⟨.ref a, H, I, rfl, q1 (r2.nil_iff.mp z)⟩) (fun z => ?_) (by rw [← r1.length, ← r2.length]; exact hz)
  refine ⟨.ref s.heap.objs.size, _, I.laid (t' := s.toks) (o := .tup (xs ++ ys)) (fun b ob q => Heap.get?_push_of_some _ q) (Nat.le_refl _) ?_, rfl, q2 (fun w => z (r2.nil_iff.mpr w)) _ (I.hok.fresh (Nat.le_refl _))⟩
  exact ⟨by rw [List.length_append]; exact hz, _, r1.append r2, IsTup.new _ _⟩
end
end L2

namespace L2
open PySem PySem.Spec PyProof.Rows

/-! ### places -/
/-- the place that an index of any sign means -/
def ixN (n : Nat) (i : Int) : Option Nat := if 0 ≤ i then (if i < n then some i.toNat else none) else if -(n : Int) ≤ i then some (i + n).toNat else none
def atI {α : Type} (xs : List α) (i : Int) : Option α := (ixN xs.length i).bind fun j => xs[j]?
theorem ixN_seq {n : Nat} {i : Int} {j : Nat} (h : ixN n i = some j) : seqIndex? i n = some j ∧ j < n ∧ -(n : Int) ≤ i ∧ i < n := by
  unfold ixN at h
  by_cases h0 : 0 ≤ i
  · rw [if_pos h0] at h
    by_cases h1 : i < n
    · rw [if_pos h1] at h
      have e : i.toNat = j := Option.some.inj h
      exact ⟨by rw [seqIndex_of h0 h1, e], by omega, by omega, h1⟩
    · rw [if_neg h1] at h; cases h
  · rw [if_neg h0] at h
    by_cases h1 : -(n : Int) ≤ i
    · rw [if_pos h1] at h
      have e : (i + n).toNat = j := Option.some.inj h
      exact ⟨by rw [seqIndex_neg (by omega) h1, e], by omega, h1, by omega⟩
    · rw [if_neg h1] at h; cases h
theorem atI_get {α : Type} {xs : List α} {i : Int} {v : α} (h : atI xs i = some v) : ∃ j, seqIndex? i xs.length = some j ∧ xs[j]? = some v ∧ j < xs.length ∧ -(xs.length : Int) ≤ i ∧ i < xs.length := by
  unfold atI at h
  cases e : ixN xs.length i with
  | none => rw [e] at h; cases h
  | some j =>
    rw [e] at h
    obtain ⟨h1, h2, h3, h4⟩ := ixN_seq e
    exact ⟨j, h1, h, h2, h3, h4⟩
theorem atI_nat {α : Type} {xs : List α} {j : Nat} {v : α} (h : xs[j]? = some v) : atI xs (j : Int) = some v := by
  have hj : j < xs.length := (List.getElem?_eq_some_iff.mp h).1
  have e : ixN xs.length (j : Int) = some j := by
    unfold ixN
    rw [if_pos (by omega), if_pos (by omega)]; simp
  unfold atI; rw [e]; exact h
theorem atI_last {α : Type} (xs : List α) (v : α) : atI (xs ++ [v]) (-1) = some v := by
  have hl : (xs ++ [v]).length = xs.length + 1 := by simp
  have e : ixN (xs ++ [v]).length (-1) = some xs.length := by
    unfold ixN
    rw [hl, if_neg (by decide), if_pos (by omega)]
    congr 1
    omega
  unfold atI
  rw [e]
  show (xs ++ [v])[xs.length]? = some v
  simp

/-! ### what may be subscripted -/
/-- what stands as an index of a plain subscript -/
def PlainIx (b : Expr) : Prop := ∀ o i, subscripted b false o i = operate [o, i] (getItem o i)
/-- a subscript by values -/
def IxR (X : Cx) (r : R2) : Prop :=
  ∀ (value slice : Expr) (pins : List (Addr × Obj)) (s : Shared) (σ : St) (H : Hp) (x y : V) (v u : Value) (Q : VK), Inv X pins σ H s → RelV x v → RelV y u → r x y H Q →
    subscripted slice false v u = operate [v, u] (getItem v u) → wpAny (model X.prog X.w) X.A (subscriptTail value slice v u) (EP X pins σ Q) X.xe s
/-- a call of a builtin's method by values: the receiver, the arguments -/
def MtR (X : Cx) (id : String) (r : V → List V → Hp → VK → Prop) : Prop :=
  ∀ (pins : List (Addr × Obj)) (s : Shared) (σ : St) (H : Hp) (x : V) (xs : List V) (v : Value) (us : List Value) (Q : VK), Inv X pins σ H s → RelV x v → Vals xs us → r x xs H Q →
    wpAny (model X.prog X.w) X.A (call (.builtin id) (v :: us)) (EP X pins σ Q) X.xe s
section
variable {X : Cx} {a b : Expr} {ta tb : TE} {pos : Pos}
theorem IxR.or {r r' : R2} (h : IxR X r) (h' : IxR X r') : IxR X (fun x y H Q => r x y H Q ∨ r' x y H Q) := by
  intro value slice pins s σ H x y v u Q I rx ry q hs
  rcases q with q | q
  · exact h value slice pins s σ H x y v u Q I rx ry q hs
  · exact h' value slice pins s σ H x y v u Q I rx ry q hs
theorem MtR.or {id : String} {r r' : V → List V → Hp → VK → Prop} (h : MtR X id r) (h' : MtR X id r') : MtR X id (fun x xs H Q => r x xs H Q ∨ r' x xs H Q) := by
  intro pins s σ H x xs v us Q I rx rs q
  rcases q with q | q
  · exact h pins s σ H x xs v us Q I rx rs q
  · exact h' pins s σ H x xs v us Q I rx rs q
/-- a[b] -/
theorem pe_ix {r : R2} (hr : IxR X r) (ha : PE X a ta) (hb : PE X b tb) (hs : PlainIx b) : PE X (.Subscript a b pos) (tOp r ta tb) := by
  intro pins s σ H Q I h
  exact Subscript_ (binT ha hb I h fun v u s2 x y H2 I2 rx ry q => hr a b pins s2 σ H2 x y v u Q I2 rx ry q (hs _ _))

def rIxL (K : PySem.W.Frag) : R2 := fun x y H Q => ∃ p xs i v, x = .ref p ∧ y = .int i ∧ SqL K H p xs ∧ atI xs i = some v ∧ Q v H
def rIxT (K : PySem.W.Frag) : R2 := fun x y H Q => ∃ p xs i v, x = .ref p ∧ y = .int i ∧ SqT K H p xs ∧ atI xs i = some v ∧ Q v H
def rIxS : R2 := fun x y H Q => ∃ z i c, x = .str z ∧ y = .int i ∧ z.length ≤ sizeLine ∧ atI z.cps.toList i = some c ∧ Q (.str ⟨#[c]⟩) H
theorem ix_list : IxR X (rIxL X.K) := by
  intro value slice pins s σ H x y v u Q I rx ry h hs
  obtain ⟨p, xs, i, z, rfl, rfl, hq, he, q⟩ := h
  cases rx
  obtain ⟨t, rfl⟩ := ry
  obtain ⟨its, r, pl, hz⟩ := I.list hq
  obtain ⟨j, h1, h2, h3, h4, h5⟩ := atI_get he
  obtain ⟨w, ew, rw'⟩ := r.get h2
  have hl := r.length
  have hn := line63
  have fin : EP X pins σ Q w s := ⟨z, H, I, rw', q⟩
  by_cases h0 : 0 ≤ i
  · have hj : i.toNat = j := by
      rw [seqIndex_of h0 h5] at h1
      exact Option.some.inj h1
    exact item_listR pl.isList h0 (by omega) (by rw [hj]; simpa using ew) fin hs
  · have hj : (i + (its.toArray.size : Int)).toNat = j := by
      rw [seqIndex_neg (by omega) h4] at h1
      rw [List.size_toArray, ← hl]
      exact Option.some.inj h1
    exact subscriptTail_builtinR (x := w) pl.isList.typeIs slot_list_getitem.lookup
      (wpAny_getItem_list_neg (Q := fun r s' => r = w ∧ EP X pins σ Q r s') pl.isList (by omega) (by rw [List.size_toArray] <;> omega) (by omega) (by rw [hj]; simpa using ew) ⟨rfl, fin⟩) hs
theorem ix_tup : IxR X (rIxT X.K) := by
  intro value slice pins s σ H x y v u Q I rx ry h hs
  obtain ⟨p, xs, i, z, rfl, rfl, hq, he, q⟩ := h
  cases rx
  obtain ⟨t, rfl⟩ := ry
  obtain ⟨its, r, pl, hz⟩ := I.tuple hq
  obtain ⟨j, h1, h2, h3, h4, h5⟩ := atI_get he
  obtain ⟨w, ew, rw'⟩ := r.get h2
  have hl := r.length
  have hn := line63
  have fin : EP X pins σ Q w s := ⟨z, H, I, rw', q⟩
  exact subscriptTail_builtinR (x := w) pl.typeIs slot_tuple_getitem.lookup
    (getItem_tuple (j := j) (Q := fun r s' => r = w ∧ EP X pins σ Q r s') pl (by omega) (by omega) (by rw [List.size_toArray, ← hl]; exact h1) (by simpa using ew) ⟨rfl, fin⟩) hs
/-! ### xs[i] = v, any sign -/
theorem Inv.lst {pins : List (Addr × Obj)} {σ : St} {H : Hp} {s : Shared} {p : Addr} {xs : List V} (I : Inv X pins σ H s) (h : H p = some (.lst xs)) :
    ∃ (its : List Value) (n : Nat), Vals xs its ∧ s.heap.get? p = some { cls := .type "list", data := .seq its.toArray n } ∧ xs.length ≤ sizeLine := by
  obtain ⟨z, its, n, r, e⟩ := I.hok p _ h
  exact ⟨its, n, r, e, z⟩
/-! ### slices -/
theorem slice_bounds (lo hi : Option Int) (n : Nat) : (sliceBounds lo hi none n).1 = ((HT.sIx n 0 lo : Nat) : Int) ∧ (sliceBounds lo hi none n).2.1 = ((HT.sIx n n hi : Nat) : Int) ∧ (sliceBounds lo hi none n).2.2 = 1 := by
  refine ⟨?_, ?_, rfl⟩
  · cases lo with
    | none => simp [sliceBounds, HT.sIx]
    | some i =>
      simp only [sliceBounds, HT.sIx, Option.getD_none, show (1 : Int) > 0 by decide, if_true]
      by_cases h : i < 0
      · simp only [h, if_true] <;> omega
      · simp only [h, if_false] <;> omega
  · cases hi with
    | none => simp [sliceBounds, HT.sIx]
    | some i =>
      simp only [sliceBounds, HT.sIx, Option.getD_none, show (1 : Int) > 0 by decide, if_true]
      by_cases h : i < 0
      · simp only [h, if_true] <;> omega
      · simp only [h, if_false] <;> omega
theorem slicePick_cut (its : List Value) (lo hi : Option Int) : slicePick its.toArray lo hi none = ((its.drop (HT.sIx its.length 0 lo)).take (HT.sIx its.length its.length hi - HT.sIx its.length 0 lo)).toArray := by
  obtain ⟨h1, h2, h3⟩ := slice_bounds lo hi its.toArray.size
  unfold slicePick
  rw [h1, h2, h3]
  simp only [sliceRange_one, pick_run, List.size_toArray] <;> rfl
/-- xs[lo:hi] of a list: a new list -/
def rSlL (K : PySem.W.Frag) : V → Option Int → Option Int → Hp → VK → Prop := fun x lo hi H Q => ∃ a xs, x = .ref a ∧ SqL K H a xs ∧ ∀ p, H p = none → Q (.ref p) (upd H p (.lst (cutV xs lo hi)))
theorem sl_list : SlR X (rSlL X.K) := by
  intro pins s σ H x v vl vu lo hi sl Q I rx hs pl pu h
  obtain ⟨a, xs, rfl, hx, q⟩ := h
  cases rx
  obtain ⟨its, r, ht, hz⟩ := I.list hx
  have hlen := r.length
  refine ⟨"list", _, slot_list_getitem.lookup, ht.isList.typeIs, ?_⟩
  refine wpAny_getItem_list_slice ht.isList hs pl pu .none (by simp) ?_ (by rw [List.size_toArray] <;> omega)
  rw [slicePick_cut, ← hlen]
  refine ⟨.ref s.heap.objs.size, _, I.laid (t' := s.toks) (o := .lst (cutV xs lo hi)) (fun b ob q => Heap.get?_push_of_some _ q) (Nat.le_refl _) ?_, rfl, q _ (I.hok.fresh (Nat.le_refl _))⟩
  exact ⟨Nat.le_trans (cutV_length xs lo hi) hz, _, 0, (r.drop (HT.sIx xs.length 0 lo)).take (HT.sIx xs.length xs.length hi - HT.sIx xs.length 0 lo), Heap.get?_push_size _ rfl⟩

/-! ### in, not in: flat items -/
def flatV : V → Bool
  | .non => true
  | .bl _ => true
  | .int _ => true
  | .str _ => true
  | _ => false
/-- == of flat values -/
def eqV : V → V → Bool
  | .non, .non => true
  | .bl a, .bl b => a == b
  | .bl a, .int b => (if a then 1 else 0) == b
  | .int a, .bl b => a == (if b then 1 else 0)
  | .int a, .int b => a == b
  | .str a, .str b => a == b
  | _, _ => false
theorem eqAt_V {A : Around} {s : Shared} {y x : V} {u v : Value} (ry : RelV y u) (rx : RelV x v) (fy : flatV y = true) (fx : flatV x = true) : SeqAt.EqAt A s u v (eqV y x) := by
  cases y with
  | non =>
    cases ry
    cases x with
    | non => cases rx; exact SeqAt.EqAt.same _
    | bl b => cases rx; exact SeqAt.EqAt.none_bool b
    | int b => obtain ⟨t, rfl⟩ := rx; exact SeqAt.EqAt.none_int b t
    | str b => obtain ⟨t, rfl⟩ := rx; exact SeqAt.EqAt.none_str b t
    | _ => exact absurd (show false = true from fx) Bool.false_ne_true
  | bl a =>
    cases ry
    cases x with
    | non => cases rx; exact SeqAt.EqAt.bool_none a
    | bl b => cases rx; exact SeqAt.EqAt.bool_bool a b
    | int b => obtain ⟨t, rfl⟩ := rx; exact SeqAt.EqAt.bool_int a b t
    | str b => obtain ⟨t, rfl⟩ := rx; exact SeqAt.EqAt.bool_str a b t
    | _ => exact absurd (show false = true from fx) Bool.false_ne_true
  | int a =>
    obtain ⟨t', rfl⟩ := ry
    cases x with
    | non => cases rx; exact SeqAt.EqAt.int_none a t'
    | bl b => cases rx; exact SeqAt.EqAt.int_bool a t' b
    | int b => obtain ⟨t, rfl⟩ := rx; exact SeqAt.EqAt.int_int a t' b t
    | str b => obtain ⟨t, rfl⟩ := rx; exact SeqAt.EqAt.int_str a t' b t
    | _ => exact absurd (show false = true from fx) Bool.false_ne_true
  | str a =>
    obtain ⟨t', rfl⟩ := ry
    cases x with
    | non => cases rx; exact SeqAt.EqAt.str_none a t'
    | bl b => cases rx; exact SeqAt.EqAt.str_bool a t' b
    | int b => obtain ⟨t, rfl⟩ := rx; exact SeqAt.EqAt.str_int a t' b t
    | str b => obtain ⟨t, rfl⟩ := rx; exact SeqAt.EqAt.str_str a t' b t
    | _ => exact absurd (show false = true from fx) Bool.false_ne_true
  | _ => exact absurd (show false = true from fy) Bool.false_ne_true
/-- the items' answers, read off the values (a value's own answer does not lean on its token) -/
def eqU (x : V) (u : Value) : Bool := match u with
  | .none => eqV .non x
  | .bool b => eqV (.bl b) x
  | .int i _ => eqV (.int i) x
  | .str z _ => eqV (.str z) x
  | _ => false
theorem eqU_of {x y : V} {u : Value} (r : RelV y u) (f : flatV y = true) : eqU x u = eqV y x := by
  cases y with
  | non => cases r; rfl
  | bl b => cases r; rfl
  | int i => obtain ⟨t, rfl⟩ := r; rfl
  | str z => obtain ⟨t, rfl⟩ := r; rfl
  | _ => exact absurd (show false = true from f) Bool.false_ne_true
theorem any_eqU {x : V} : ∀ {xs : List V} {us : List Value}, Vals xs us → xs.all flatV = true → us.any (eqU x) = xs.any fun y => eqV y x
  | _, _, .nil, _ => rfl
  | y :: xs, u :: us, .cons r t, f => by
    rw [List.all_cons, Bool.and_eq_true] at f
    rw [List.any_cons, List.any_cons, eqU_of r f.1, any_eqU t f.2]
theorem mem_eqAt {A : Around} {s : Shared} {x : V} {v : Value} (rx : RelV x v) (fx : flatV x = true) : ∀ {xs : List V} {us : List Value}, Vals xs us → xs.all flatV = true → ∀ u ∈ us, SeqAt.EqAt A s u v (eqU x u)
  | _, _, .nil, _ => fun u hu => by cases hu
  | y :: xs, u :: us, .cons r t, f => fun u' hu => by
    rw [List.all_cons, Bool.and_eq_true] at f
    rcases List.mem_cons.mp hu with rfl | hu
    · rw [eqU_of r f.1]; exact eqAt_V r rx f.1 fx
    · exact mem_eqAt rx fx t f.2 u' hu
def inV (x : V) (xs : List V) : Bool := xs.any fun y => eqV y x
/-- x in a list or tuple of flat items -/
def rIn (K : PySem.W.Frag) (neg : Bool) : R2 := fun x y H Q => ∃ p xs, y = .ref p ∧ (SqL K H p xs ∨ SqT K H p xs) ∧ flatV x = true ∧ xs.all flatV = true ∧ Q (.bl (if neg then !inV x xs else inV x xs)) H
theorem op_in_seq : OpR X (compareOp .In) (rIn X.K false) := by
  intro pins s σ H x y v u Q I rx ry h
  obtain ⟨p, xs, rfl, hq, fx, fs, q⟩ := h
  cases ry
  rcases hq with hq | hq
  · obtain ⟨its, r, pl, hz⟩ := I.list hq
    refine SeqAt.in_listAt (eqU x) pl.isList (fun w hw => mem_eqAt rx fx r fs w (by simpa using hw)) ⟨.bl _, H, I, rfl, ?_⟩
    rw [show its.toArray.any (eqU x) = its.any (eqU x) by simp, any_eqU r fs]
    exact q
  · obtain ⟨its, r, pl, hz⟩ := I.tuple hq
    refine SeqAt.in_tupleAt (eqU x) pl (fun w hw => mem_eqAt rx fx r fs w (by simpa using hw)) ⟨.bl _, H, I, rfl, ?_⟩
    rw [show its.toArray.any (eqU x) = its.any (eqU x) by simp, any_eqU r fs]
    exact q
/-! ### len, list(x), tuple(x) of any list or tuple that is read -/
theorem call_len_seq : CallR X (.builtin "len") (fun xs H Q => ∃ p ys, xs = [.ref p] ∧ (SqL X.K H p ys ∨ SqT X.K H p ys) ∧ Q (.int ys.length) H) := by
  intro pins s σ H xs us Q I r h
  obtain ⟨p, ys, rfl, hq, q⟩ := h
  obtain ⟨u, rfl, rx⟩ := vals1 r
  cases rx
  have hn := line63
  rcases hq with hq | hq
  · obtain ⟨its, r', pl, hz⟩ := I.list hq
    have hlen := r'.length
    exact Calls.call_len_list pl.isList (by simp only [List.size_toArray] <;> omega) ⟨.int ys.length, H, I.tok _, ⟨s.toks + 1, by rw [List.size_toArray, hlen]⟩, q⟩
  · obtain ⟨its, r', pl, hz⟩ := I.tuple hq
    have hlen := r'.length
    exact len_tuple pl (by simp only [List.size_toArray] <;> omega) ⟨.int ys.length, H, I.tok _, ⟨s.toks + 1, by rw [List.size_toArray, hlen]⟩, q⟩
theorem call_len_str : CallR X (.builtin "len") (fun xs H Q => ∃ z, xs = [.str z] ∧ z.length ≤ sizeLine ∧ Q (.int z.length) H) := by
  intro pins s σ H xs us Q I r h
  obtain ⟨z, rfl, hz, q⟩ := h
  obtain ⟨u, rfl, t, rfl⟩ := vals1 r
  have hn := line63
  exact len_str (by omega) ⟨.int z.length, H, I.tok _, ⟨_, rfl⟩, q⟩
theorem CallR.or {f : Value} {r r' : List V → Hp → VK → Prop} (h : CallR X f r) (h' : CallR X f r') : CallR X f (fun xs H Q => r xs H Q ∨ r' xs H Q) := by
  intro pins s σ H xs us Q I rs q
  rcases q with q | q
  · exact h pins s σ H xs us Q I rs q
  · exact h' pins s σ H xs us Q I rs q
theorem call_list_of : CallR X (.type "list") (fun xs H Q => ∃ p ys, xs = [.ref p] ∧ (SqL X.K H p ys ∨ SqT X.K H p ys) ∧ ∀ l, H l = none → Q (.ref l) (upd H l (.lst ys))) := by
  intro pins s σ H xs us Q I r h
  obtain ⟨p, ys, rfl, hq, q⟩ := h
  obtain ⟨u, rfl, rx⟩ := vals1 r
  cases rx
  have fin : ∀ (its : List Value), Vals ys its → ys.length ≤ sizeLine → ∀ (h' : Heap) (c' : Nat), (∀ b o', s.heap.get? b = some o' → h'.get? b = some o') →
      h'.get? s.heap.objs.size = some { cls := .type "list", dict := none, data := .seq its.toArray c', slots := #[] } → EP X pins σ Q (.ref s.heap.objs.size) { s with heap := h' } := fun its r' hz h' c' kp e =>
    ⟨.ref s.heap.objs.size, _, I.laid (t' := s.toks) kp (Nat.le_refl _) (show ObjOk X.prog X.w _ h' _ (.lst ys) from ⟨hz, its, c', r', e⟩), rfl, q _ (I.hok.fresh (Nat.le_refl _))⟩
  rcases hq with hq | hq
  · obtain ⟨its, r', pl, hz⟩ := I.list hq
    have hlen := r'.length
    obtain ⟨o, ho, hc, n, hd⟩ := pl.isList
    exact call_list_seq p (.inl rfl) ho hc hd (fun h' c' kp e => fin its r' hz h' c' kp e) (by simp only [List.size_toArray] <;> omega)
  · obtain ⟨its, r', pl, hz⟩ := I.tuple hq
    have hlen := r'.length
    obtain ⟨o, ho, hc, n, hd⟩ := pl
    exact call_list_seq p (.inr rfl) ho hc hd (fun h' c' kp e => fin its r' hz h' c' kp e) (by simp only [List.size_toArray] <;> omega)
theorem call_tuple_of : CallR X (.type "tuple") (fun xs H Q => ∃ p ys, xs = [.ref p] ∧ ((SqL X.K H p ys ∧ ∀ l, H l = none → Q (.ref l) (upd H l (.tup ys))) ∨ (SqT X.K H p ys ∧ Q (.ref p) H))) := by
  intro pins s σ H xs us Q I r h
  obtain ⟨p, ys, rfl, h⟩ := h
  obtain ⟨u, rfl, rx⟩ := vals1 r
  cases rx
  rcases h with ⟨hq, q⟩ | ⟨hq, q⟩
  · obtain ⟨its, r', pl, hz⟩ := I.list hq
    have hlen := r'.length
    refine call_tuple_list pl.isList (fun h' kp => ?_) (by simp only [List.size_toArray] <;> omega)
    have I1 : Inv X pins σ H { s with heap := h' } := I.kept (t' := s.toks) kp
    have I2 : Inv X pins σ (upd H h'.objs.size (.tup ys)) { s with heap := h'.push { cls := .type "tuple", data := .seq its.toArray } } :=
      I1.laid (t' := s.toks) (fun b o e => Heap.get?_push_of_some _ e) (Nat.le_refl _) (show ObjOk X.prog X.w _ _ _ (.tup ys) from ⟨hz, its, r', IsTup.new _ _⟩)
    exact ⟨.ref h'.objs.size, _, I2, rfl, q _ (I1.hok.fresh (Nat.le_refl _))⟩
  · obtain ⟨its, r', pl, hz⟩ := I.tuple hq
    exact call_tuple_same pl ⟨.ref p, H, I, rfl, q⟩

/-! ### the call of a builtin's method: o.m(..) -/
/-- the value is of that builtin type -/
def tyV (K : PySem.W.Frag) (T : String) (x : V) (H : Hp) : Prop := match x with
  | .str _ => T = "str"
  | .int _ => T = "int"
  | .ref p => (T = "list" ∧ ∃ xs, SqL K H p xs) ∨ (T = "tuple" ∧ ∃ o, K.lookup p = some o ∧ o.cls = .type "tuple" ∧ o.dict = none) ∨
      (T = "dict" ∧ ((∃ kvs, H p = some (.dK kvs)) ∨ ∃ kvs, H p = some (.dT kvs))) ∨ (T = "set" ∧ ∃ S n, H p = some (.set S n))
  | _ => False
theorem tyV_is {pins : List (Addr × Obj)} {σ : St} {H : Hp} {s : Shared} {T : String} {x : V} {v : Value} (I : Inv X pins σ H s) (r : RelV x v) (ty : tyV X.K T x H) :
    s.TypeIs v T ∧ ∀ a, v = .ref a → ∃ ob, s.heap.get? a = some ob ∧ ob.dict = none := by
  cases x with
  | str z =>
    obtain ⟨t, rfl⟩ := r
    cases (show T = "str" from ty)
    exact ⟨typeIs_str s z t, fun _ e => nomatch e⟩
  | int i =>
    obtain ⟨t, rfl⟩ := r
    cases (show T = "int" from ty)
    exact ⟨typeIs_int s i t, fun _ e => nomatch e⟩
  | ref p =>
    cases r
    rcases ty with ⟨rfl, xs, hq⟩ | ⟨rfl, o, hk, hc, hd⟩ | ⟨rfl, hk⟩ | ⟨rfl, S, n, hk⟩
    · obtain ⟨its, _, pl, _⟩ := I.list hq
      refine ⟨pl.isList.typeIs, fun a e => ?_⟩
      cases e
      obtain ⟨o, n, e, c, hd, _⟩ := pl
      exact ⟨o, e, hd⟩
    · refine ⟨⟨o, I.kIn p o hk, hc⟩, fun a e => ?_⟩
      cases e
      exact ⟨o, I.kIn _ o hk, hd⟩
    · have z : ∃ o, s.heap.get? p = some o ∧ o.ExactDict := by
        rcases hk with ⟨kvs, hk⟩ | ⟨kvs, hk⟩
        · obtain ⟨_, _, _, _, o, _, _, e, ex, _⟩ := I.hok p _ hk
          exact ⟨o, e, ex⟩
        · obtain ⟨_, _, _, _, o, _, _, e, ex, _⟩ := I.hok p _ hk
          exact ⟨o, e, ex⟩
      obtain ⟨o, e, ex⟩ := z
      refine ⟨⟨o, e, ex.1⟩, fun a e2 => ?_⟩
      cases e2
      exact ⟨o, e, ex.2.1⟩
    · obtain ⟨o, _, _, _, e, ex, _⟩ := I.hok p _ hk
      refine ⟨⟨o, e, ex.1⟩, fun a e2 => ?_⟩
      cases e2
      exact ⟨o, e, ex.2.1⟩
  | _ => exact False.elim ty
def tBM0 (K : PySem.W.Frag) (T : String) (r : V → List V → Hp → VK → Prop) (to : TE) : TE := fun σ H Q => to σ H fun x H1 => tyV K T x H1 ∧ r x [] H1 Q
def tBM (K : PySem.W.Frag) (T : String) (r : V → List V → Hp → VK → Prop) (to : TE) (t : TA) : TE := fun σ H Q => to σ H fun x H1 => tyV K T x H1 ∧ t σ H1 fun xs H2 => r x xs H2 Q
variable {o e : Expr} {es : List Expr} {to : TE} {t : TA} {name : Str} {apos cpos : Pos} {T id : String} {r : V → List V → Hp → VK → Prop}
theorem pe_bm0 (pa : PlainAttrs T) (slot : Slot T name id) (hty : typeOf (.builtin id) = pure (.type "method_descriptor")) (hm : MtR X id r) (ho : PE X o to)
    (hbase : attributeBase o name X.env (eval o X.env) = eval o X.env := by rfl) (hline : (apos.endLine == cpos.line) = true := by rfl) : PE X (.Call (.Attribute o name apos) [] [] cpos) (tBM0 X.K T r to) := by
  intro pins s σ H Q I h
  refine wpAny_Call_method0_late hbase hline (thn (ho pins s σ H _ I h) fun v s1 ⟨x, H1, I1, r1, ty, q1⟩ => ?_)
  obtain ⟨h1, h2⟩ := tyV_is I1 r1 ty
  exact ⟨T, id, pa, slot, hty, h1, h2, Calls.callWith_builtin rfl (PySem.evalArgs_none (hm pins s1 σ H1 x [] v [] Q I1 r1 .nil q1))⟩
theorem pe_bm (pa : PlainAttrs T) (slot : Slot T name id) (hty : typeOf (.builtin id) = pure (.type "method_descriptor")) (hm : MtR X id r) (ho : PE X o to) (ha : PA X (e :: es) t)
    (hbase : attributeBase o name X.env (eval o X.env) = eval o X.env := by rfl)
    (hfew : ((backTo cpos (starEach (e :: es) X.env)).all (fun x => !x.1) && (backToKw cpos (keywordEach [] X.env)).all (fun x => x.1.isSome)
      && decide ((e :: es).length + ([] : List Keyword).length + (if ([] : List Keyword).isEmpty then 0 else 1) < 30)) = true := by rfl)
    (hline : (apos.endLine == cpos.line) = true := by rfl) (hs : starEach (e :: es) X.env = (false, eval e X.env) :: starEach es X.env := by rfl) (hplain : (backTo cpos (starEach es X.env)).any (·.1) = false := by rfl) :
    PE X (.Call (.Attribute o name apos) (e :: es) [] cpos) (tBM X.K T r to t) := by
  intro pins s σ H Q I h
  refine wpAny_Call_method_late hbase hfew hline rfl (thn (ho pins s σ H _ I h) fun v s1 ⟨x, H1, I1, r1, ty, q1⟩ => ?_)
  obtain ⟨h1, h2⟩ := tyV_is I1 r1 ty
  refine ⟨T, id, pa, slot, hty, h1, h2, ?_⟩
  have hA := ha cpos pins s1 σ H1 _ I1 q1
  rw [hs] at hA ⊢
  refine Calls.callWith_builtin (by show (false || (backTo cpos (starEach es X.env)).any (·.1)) = false; rw [hplain] <;> rfl) (Calls.evalArgs_plain ?_)
  exact thn hA fun us s2 ⟨vs, H2, I2, r2, q2⟩ => hm pins s2 σ H2 x vs v us Q I2 r1 r2 q2
/- xs.append(e), list.index on a module's tuple .. are MtR facts of 06m -/
end
end L2

namespace L2
open PySem PySem.Spec PyProof.Rows

def MtM (X : Cx) (id : String) (r : V → List V → Hp → VK → Prop) : Prop :=
  ∀ (pins : List (Addr × Obj)) (s : Shared) (σ : St) (H : Hp) (x : V) (xs : List V) (v : Value) (us : List Value) (Q : VK), Inv X pins σ H s → RelV x v → Vals xs us → r x xs H Q →
    wpAny (model X.prog X.w) X.A (call (.builtin id) (v :: us)) (EP X pins σ Q) X.xe s

/-! ### lists of values -/
theorem Vals.one : ∀ {x : V} {us : List Value}, Vals [x] us → ∃ u, us = [u] ∧ RelV x u
  | _, _, .cons r .nil => ⟨_, rfl, r⟩
theorem Vals.two : ∀ {x y : V} {us : List Value}, Vals [x, y] us → ∃ u v, us = [u, v] ∧ RelV x u ∧ RelV y v
  | _, _, _, .cons r (.cons q .nil) => ⟨_, _, rfl, r, q⟩
theorem Vals.zero : ∀ {us : List Value}, Vals [] us → us = []
  | _, .nil => rfl
theorem Vals.dropLast {xs : List V} {us : List Value} (h : Vals xs us) : Vals xs.dropLast us.dropLast := by
  induction h with
  | nil => exact .nil
  | cons r t ih =>
    cases t with
    | nil => exact .nil
    | cons q t' => exact .cons r ih
theorem Vals.eraseIdx : ∀ {xs : List V} {us : List Value} (i : Nat), Vals xs us → Vals (xs.eraseIdx i) (us.eraseIdx i)
  | _, _, _, .nil => .nil
  | _, _, 0, .cons _ t => t
  | _, _, i + 1, .cons r t => .cons r (Vals.eraseIdx i t)
theorem Vals.reverse {xs : List V} {us : List Value} (h : Vals xs us) : Vals xs.reverse us.reverse := by
  induction h with
  | nil => exact .nil
  | cons r t ih => rw [List.reverse_cons, List.reverse_cons]; exact Vals.append ih (.cons r .nil)
theorem erase_last {α : Type} (l : List α) : l.eraseIdx (l.length - 1) = l.dropLast := by
  induction l with
  | nil => rfl
  | cons a r ih =>
    cases r with
    | nil => rfl
    | cons b r =>
      have e : (a :: b :: r).length - 1 = ((b :: r).length - 1) + 1 := by
        have h1 : (a :: b :: r).length = r.length + 2 := rfl
        have h2 : (b :: r).length = r.length + 1 := rfl
        omega
      rw [e, List.eraseIdx_cons_succ, ih]
      all_goals rfl
section
variable {X : Cx} {pins : List (Addr × Obj)} {σ : St} {H : Hp} {s : Shared} {l b : Addr} {xs ys zs : List V}

/-! ### the two steps: a tracked list is rewritten, a new list is laid -/
theorem Inv.lset {its its' : List Value} {n : Nat} {f : Array Value → Array Value} {t' : Nat} (I : Inv X pins σ H s) (hH : H l = some (.lst xs))
    (e : s.heap.get? l = some { cls := .type "list", data := .seq its.toArray n }) (hf : f its.toArray = its'.toArray) (hv : Vals ys its') (hz : ys.length ≤ sizeLine) :
    Inv X pins σ (upd H l (.lst ys)) { s with heap := s.heap.update l (Obj.mapSeq f), toks := t' } := by
  have q := PySem.IsL.update e f
  rw [hf] at q
  refine I.write (x := l) (e := l) (by rw [hH]; exact trivial) (.inl rfl) (fun b' u hb hu => (Heap.get?_update_other s.heap (Obj.mapSeq f) (Ne.symm hb)).trans hu) ⟨_, q⟩ ?_
  exact ⟨hz, its', _, hv, q⟩
theorem Inv.lnew {its : List Value} {t' : Nat} (I : Inv X pins σ H s) (hv : Vals ys its) (hz : ys.length ≤ sizeLine) :
    Inv X pins σ (upd H s.heap.objs.size (.lst ys)) { s with heap := s.heap.push { cls := .type "list", data := .seq its.toArray }, toks := t' } :=
  I.laid (fun _ _ q => Heap.get?_push_of_some _ q) (Nat.le_refl _) ⟨hz, its, 0, hv, Heap.get?_push_size _ rfl⟩
theorem Inv.fresh (I : Inv X pins σ H s) : H s.heap.objs.size = none := I.hok.fresh (Nat.le_refl _)
theorem Inv.lstM (I : Inv X pins σ H s) (hH : H l = some (.lst xs)) : xs.length ≤ sizeLine ∧ ∃ (its : List Value) (n : Nat), Vals xs its ∧ xs.length = its.length ∧ s.heap.get? l = some { cls := .type "list", data := .seq its.toArray n } := by
  obtain ⟨z, its, n, r, e⟩ := I.hok l _ hH
  exact ⟨z, its, n, r, r.length, e⟩

theorem notLongL {n : Nat} (h : n ≤ sizeLine) : Builtin.List.listTooLong n = false := by
  unfold Builtin.List.listTooLong
  exact decide_eq_false (by omega)
end

section
variable {X : Cx}

/-! ### methods -/
def rAppend : V → List V → Hp → VK → Prop := fun x vs H Q => ∃ l xs y, x = .ref l ∧ vs = [y] ∧ H l = some (.lst xs) ∧ xs.length < sizeLine ∧ Q .non (upd H l (.lst (xs ++ [y])))
theorem mt_append : MtM X "list.append" rAppend := by
  intro pins s σ H x vs v us Q I rx rv h
  obtain ⟨l, xs, y, rfl, rfl, hH, hz, q⟩ := h
  cases rx
  obtain ⟨u, rfl, ru⟩ := rv.one
  obtain ⟨z, its, n, r, hl, e⟩ := I.lstM hH
  refine call_meets F.slot_list_append ⟨_, e, rfl⟩ F.entry_list_append (F.args_list_append_2 _ _) (PySem.list_append l its.toArray n u (by rw [List.size_toArray]; omega)) ⟨e, ?_⟩
  refine ⟨.non, _, I.lset (its' := its ++ [u]) hH e (by simp) (r.append (.cons ru .nil)) ?_, rfl, q⟩
  rw [List.length_append, List.length_singleton]
  omega

def rExtend : V → List V → Hp → VK → Prop := fun x vs H Q => ∃ l b xs zs, x = .ref l ∧ vs = [.ref b] ∧ H l = some (.lst xs) ∧ H b = some (.lst zs) ∧ xs.length + zs.length ≤ sizeLine ∧ Q .non (upd H l (.lst (xs ++ zs)))
def rPop : V → List V → Hp → VK → Prop := fun x vs H Q => ∃ l xs y, x = .ref l ∧ vs = [] ∧ H l = some (.lst xs) ∧ xs[xs.length - 1]? = some y ∧ Q y (upd H l (.lst xs.dropLast))
theorem mt_pop : MtM X "list.pop" rPop := by
  intro pins s σ H x vs v us Q I rx rv h
  obtain ⟨l, xs, y, rfl, rfl, hH, hy, q⟩ := h
  cases rx
  have hus := rv.zero
  subst hus
  obtain ⟨z, its, n, r, hl, e⟩ := I.lstM hH
  obtain ⟨u, hu, ru⟩ := r.get hy
  have hy' : its.toArray[its.toArray.size - 1]? = some u := by
    show its.toArray[its.length - 1]? = some u
    rw [← Array.getElem?_toList, ← hl]
    exact hu
  refine call_meets F.slot_list_pop ⟨_, e, rfl⟩ F.entry_list_pop (F.args_list_pop_1 _) (MeetsSeq.list_pop_last l its.toArray n u hy' (by rw [List.size_toArray]; omega)) ⟨e, ?_⟩
  refine ⟨y, _, I.lset (its' := its.dropLast) hH e ?_ r.dropLast ?_, ru, q⟩
  · show its.toArray.eraseIdxIfInBounds (its.toArray.size - 1) = its.dropLast.toArray
    rw [List.size_toArray, List.eraseIdxIfInBounds_toArray, erase_last]
  · rw [List.length_dropLast]
    omega

def rReverse : V → List V → Hp → VK → Prop := fun x vs H Q => ∃ l xs, x = .ref l ∧ vs = [] ∧ H l = some (.lst xs) ∧ Q .non (upd H l (.lst xs.reverse))
def rClear : V → List V → Hp → VK → Prop := fun x vs H Q => ∃ l xs, x = .ref l ∧ vs = [] ∧ H l = some (.lst xs) ∧ Q .non (upd H l (.lst []))
theorem mt_clear : MtM X "list.clear" rClear := by
  intro pins s σ H x vs v us Q I rx rv h
  obtain ⟨l, xs, rfl, rfl, hH, q⟩ := h
  cases rx
  have hus := rv.zero
  subst hus
  obtain ⟨z, its, n, r, hl, e⟩ := I.lstM hH
  refine call_meets F.slot_list_clear ⟨_, e, rfl⟩ F.entry_list_clear (F.args_list_clear_1 _) (AutoSeq1.list_clear_list_0 l its.toArray n (by rw [List.size_toArray]; omega)) ⟨e, ?_⟩
  exact ⟨.non, _, I.lset (its' := []) (ys := []) hH e rfl .nil (Nat.zero_le _), rfl, q⟩

/-! ### list + list, list += list, list * int -/
def rCat : R2 := fun x y H Q => ∃ l b xs zs, x = .ref l ∧ y = .ref b ∧ H l = some (.lst xs) ∧ H b = some (.lst zs) ∧ xs.length + zs.length ≤ sizeLine ∧ ∀ p, H p = none → Q (.ref p) (upd H p (.lst (xs ++ zs)))
theorem op_cat : OpR X (binaryOp .Add) rCat := by
  intro pins s σ H x y v u Q I rx ry h
  obtain ⟨l, b, xs, zs, rfl, rfl, hH, hB, hz, q⟩ := h
  cases rx
  cases ry
  obtain ⟨z, its, n, r, hl, e⟩ := I.lstM hH
  obtain ⟨z2, its2, n2, r2, hl2, e2⟩ := I.lstM hB
  refine PySem.P.add_list e e2 ?_ (by rw [List.size_toArray, List.size_toArray]; omega)
  have ea : its.toArray ++ its2.toArray = (its ++ its2).toArray := by simp
  rw [ea]
  exact ⟨.ref _, _, I.lnew (t' := s.toks) (r.append r2) (by rw [List.length_append]; omega), rfl, q _ I.fresh⟩
/-! ### del xs[i] -/
end

/-! ### xs[a:b] = ys -/
section
variable {prog : Program} {w : World} {A : Around} {E : Value → Shared → Prop} {s : Shared}
set_option maxRecDepth 100000 in
end

section
variable {X : Cx}
end
end L2

namespace Att
open PySem PySem.W PySem.Calls PyProof.Rows

/-! ### the script -/
theorem ints_of_wellAll {P : Params} {h : Heap} : ∀ (ns : List Int) (vs : List Value), WellAll P h vs (ns.map WData.int) → IntsAre vs ns := by
  intro ns
  induction ns with
  | nil =>
    intro vs w
    rw [List.map_nil] at w
    cases w
    exact .nil
  | cons n ns ih =>
    intro vs w
    rw [List.map_cons] at w
    cases w with
    | cons a b =>
      cases a
      exact .cons _ _ (ih _ b)

theorem script_of {l : OpenLaw} {n : Nat} (hn : l.most = some n) {P : Params} {h : Heap} {args : List WData} {vals : List Value}
    (hpre : l.row.toRowW.claim.pre args = true) (hwl : WellAll P h vals args) :
    ∃ a vs ns, vals = [Value.ref a] ∧ args = [WData.list (ns.map WData.int)] ∧ h.get? a = some { cls := .type "list", data := .seq vs.toArray } ∧ IntsAre vs ns ∧ ns.length ≤ n := by
  have hsh : WShape.hasAll [] args [.list .int] = true := (pre_splitW hpre).1
  have hc : l.pre.holds [] { args := args } = true := (pre_splitW hpre).2
  obtain ⟨d, r, rfl, h1, h2⟩ := hasAllW_cons hsh
  obtain rfl := hasAllW_nil h2
  obtain ⟨xs, rfl, h3⟩ := hasW_list h1
  obtain ⟨ns, rfl⟩ := items_int h3
  have hlen : ns.length ≤ n := by
    unfold OpenLaw.pre at hc
    have h4 : (WTm.not (.lt (.lit (.int (n : Int))) (.len (.arg 0)))).holds [] { args := [.list (ns.map .int)] } = true := by
      have h4 := (holds_andW hc).1
      rw [hn] at h4
      exact h4
    have h5 := condW_of h4 (w_not (w_lt w_lit (w_len_list (w_arg rfl))))
    rw [List.length_map] at h5
    refine Nat.le_of_not_lt fun q => ?_
    have q' : (n : Int) < ((ns.length : Nat) : Int) := by omega
    first
      | (rw [decide_eq_true q'] at h5; exact absurd h5 (by decide))
      | (simp at h5; omega)
  cases hwl with
  | cons w1 w2 =>
    cases w2
    cases w1 with
    | list ho hall => exact ⟨_, _, ns, rfl, rfl, ho, ints_of_wellAll ns _ hall, hlen⟩

theorem post_true (l : OpenLaw) (args : List WData) : l.row.toRowW.claim.post args (.bool true) args = true :=
  postW_of (r := l.row.toRowW) (X := (true == true))
    (show WShape.has [] (.bool true) .bool = true by first | rfl | decide | simp [WShape.has, WShape.arms, WShape.armsAll])
    (show (WTm.eq .res (.lit (.bool true))).value [] { args := args, res := some (.bool true), after := args } = some (.bool (true == true)) from w_eq_bool (w_res rfl) w_lit) rfl

/-! ### the attachment: holds_open's last premise (the goal 'hc' behind k_head) from a wpAny of the law's body -/
/-- the same from a codeAny of the CALL (for a layer whose function contracts speak of calls) -/
theorem attach_call {l : OpenLaw} {n : Nat} {q : Program} {loose : List Str} {XP : (Str → Option Value) → Heap → Prop} {YP : World → Heap → Prop} {d : DefRec}
    (hn : l.most = some n) (hdf : d.params.defaults = [])
    (call : ∀ (w : World) (s₀ s₁ : Shared) (mg mb : Str → Option Value) (fa : Addr) (o : Obj) (pm cd doc : Value) (a : Addr) (vs : List Value) (ns : List Int),
      Ground q loose [] XP w s₀ mg mb s₁.heap → YP w s₁.heap →
      s₁.heap.get? fa = some o → o.data = .func (docDef d.name d.params d.body d.scope pm cd doc) → s₁.heap.CodeRec cd d.name → mg d.name = some (.ref fa) →
      s₁.heap.get? a = some { cls := .type "list", data := .seq vs.toArray } → IntsAre vs ns → ns.length ≤ n → s₁.gens = #[] →
      codeAny (model l.prog w) callerA (.call (.ref fa) ⟨[.ref a], []⟩) (fun r s' => r = .ok (.ret (.bool true)) ∧ OldK s₁.heap s'.heap ∧ s'.os = s₁.os ∧ AllBare s'.gens) s₁) :
    WalkO q loose XP YP l.row.toRowW d [] (fun f vs => PySem.call f vs) := by
  intro w s₀ s₁ mg mb G Y fa o pm cd doc dV kV ho hd hcd hD hmg hg args vals as hpre hlay hrd hwl hlo
  obtain rfl : dV = .none := Dflts.none hD hdf
  obtain rfl : kV = .none := Dflts.noKw hD
  obtain ⟨a, vs, ns, rfl, rfl, hobj, hints, hlen⟩ := script_of hn hpre hwl
  refine enter_call (codeAny_mono (call w s₀ s₁ mg mb fa o pm cd doc a vs ns G Y ho (fd_plain hd) hcd hmg hobj hints hlen hg) fun r s' hq => ?_)
  obtain ⟨rfl, h2, h3, h4⟩ := hq
  exact ⟨.inl ⟨.bool true, .bool true, [], rfl, fun _ => rfl, .bool true, post_true l _, fun _ => ⟨List.Pairwise.nil, fun _ hm => (nomatch hm)⟩⟩, h2, h3, h4⟩

/-! ### rules over ANY heap (no ledger) from facts about the written part K: the library's own take a ledger (News) for what they write -/
section
variable {prog : Program} {w : World} {A : Around} {E : Value → Shared → Prop} {s : Shared} {K : Frag}

/-! the whole heap as the ledger: makes every rule that writes through a ledger a rule over any heap -/
def ledger (h : Heap) (L d : Addr) : List (Addr × Obj) := (List.range h.objs.size).filterMap fun a => if a = L ∨ a = d then none else (h.get? a).map fun o => (a, o)
end
end Att

namespace L2
open PySem PySem.Spec PyProof.Rows

theorem vals_ints : ∀ {vs : List Value} {ns : List Int}, IntsAre vs ns → Vals (ns.map V.int) vs
  | _, _, .nil => .nil
  | _, _, .cons n t h => .cons ⟨t, rfl⟩ (vals_ints h)

/-- nothing is tracked but the script, known to the object (or it is an object of the module) -/
def Only (H : Hp) : Prop := ∀ b, H b = none ∨ ∃ o xs, H b = some (.frz o (.lst xs))

/-- THE HEAD: the law's promise, at the heap behind the top. F, the promise of the law's def, may use that base is part of the heap (so K.In base, base.Ns mainGlobals mg stand in Mod) -/
theorem law_call {P : Program} {w : World} {K : PySem.W.Frag} {mg mb : Str → Option Value} {CX : CXT} {k : Nat} {fa a : Addr} {fd : FuncData} {x : Str} {sp : Sp} {s₁ : Shared} {vs : List Value} {ns : List Int}
    (KX : K.In s₁.heap) (hns : s₁.heap.Ns mainGlobals mg) (hb : s₁.heap.Ns builtinsNs mb) (hbb : ∀ x : Str, x ≠ "__name__" → mb x = bootBuiltins x) (hlim : s₁.heap.NoLimit) (hg : s₁.gens = #[])
    (ha : s₁.heap.get? a = some { cls := .type "list", data := .seq vs.toArray }) (hi : IntsAre vs ns) (hl : ns.length ≤ sizeLine) (hr : Room k callerA)
    (F : ∀ base : Heap, K.In base → base.Ns mainGlobals mg → FnOk P w K mg base CX k fa fd [x] sp) (hbind : ∀ (s : Shared) (u : Value), BindsTo s fd ⟨[u], []⟩ [(x, u)])
    (hsp : ∀ H : Hp, Only H → SqL K H a (ns.map V.int) → sp [.ref a] H (fun v _ => v = .bl true) fun _ _ _ => False)
    (hCX : ∀ H e s', CX [] H s₁ (fun _ _ _ => False) e s' → False) :
    codeAny (model P w) callerA (.call (.ref fa) ⟨[.ref a], []⟩) (fun r s' => r = .ok (.ret (.bool true)) ∧ OldK s₁.heap s'.heap ∧ s'.os = s₁.os ∧ AllBare s'.gens) s₁ := by
  have rv := vals_ints hi
  have lenV := hi.length
  -- from an abstract heap in which nothing but the script may be tracked
  have core : ∀ H : Hp, Only H → SqL K H a (ns.map V.int) → HOk P w H s₁.heap → (∀ b, H b ≠ none → b = a) → (H a ≠ none → K.lookup a = none) →
      codeAny (model P w) callerA (.call (.ref fa) ⟨[.ref a], []⟩) (fun r s' => r = .ok (.ret (.bool true)) ∧ OldK s₁.heap s'.heap ∧ s'.os = s₁.os ∧ AllBare s'.gens) s₁ := by
    intro H hO hS hok hA hK
    have base_of : ∀ {b : Addr} {o : Obj}, s₁.heap.get? b = some o → H b = none → (hidT s₁.heap H).get? b = some o := fun e n => hidT_get e n
    have noA : ∀ {b : Addr} {o : Obj} {es : Array DictEntry} {ep : Nat}, s₁.heap.get? b = some o → o.data = .dict es ep → H b = none := fun {b o es ep} e d => by
      cases q : H b with
      | none => rfl
      | some u =>
        have e' : b = a := hA b (by rw [q]; simp)
        subst e'
        rw [ha] at e; cases e
        have d' : Data.seq vs.toArray _ = Data.dict es ep := d
        cases d'
    have nsK : ∀ {b : Addr} {m : Str → Option Value}, s₁.heap.Ns b m → (hidT s₁.heap H).Ns b m := fun {b m} ⟨o, es, ep, e, d, r⟩ => ⟨o, es, ep, base_of e (noA e d), d, r⟩
    have hKb : K.In (hidT s₁.heap H) := fun b o e => base_of (KX b o e) (by
      cases q : H b with
      | none => rfl
      | some u =>
        have e' : b = a := hA b (by rw [q]; simp)
        subst e'
        rw [hK (by rw [q]; simp)] at e; cases e)
    have hM : Mod K mg (hidT s₁.heap H) := ⟨hKb, nsK hns, ⟨mb, nsK hb, hbb⟩, let ⟨mc, h1, h2⟩ := hlim; ⟨mc, nsK h1, h2⟩⟩
    have e0 : Env0 P w K mg (hidT s₁.heap H) callerA [] s₁ H := ⟨rfl, hM, fun b o e => of_hidT e, Nat.le_of_eq (hidT_size _ _), trivial, fun b hb => absurd (show b ∈ ([] : List Addr) from hb) (by simp), hok, .of_eq hg⟩
    refine codeAny_mono ((F _ hKb (nsK hns)).run callerA [] s₁ H ⟨[.ref a], []⟩ [.ref a] [.ref a] _ _ hr e0 (hbind s₁ (.ref a)) (.cons rfl .nil) (hsp H hO hS)) fun r s' h => ?_
    cases r with
    | error e => exact (hCX H e s' h).elim
    | ok fl =>
      cases fl with
      | next => exact False.elim h
      | brk => exact False.elim h
      | cont => exact False.elim h
      | ret u =>
        obtain ⟨v, H', os, bare, un, hok', r', q⟩ := h
        have q' : v = .bl true := q
        subst q'
        obtain rfl : u = Value.bool true := r'
        refine ⟨rfl, OldK.of_keep fun b o e => ?_, os, bare⟩
        cases q : H b with
        | none => exact un.keep b o e q (by intro z; exact absurd (show b ∈ ([] : List Addr) from z) (by simp)) (by simp)
        | some u =>
          rcases hO b with z | ⟨ob, xs, z⟩
          · rw [q] at z; cases z
          · have z2 := un.frzs b ob _ z
            obtain ⟨e1, _⟩ := hok b _ z
            obtain ⟨e2, _⟩ := hok' b _ z2
            rw [e] at e1; cases e1
            exact e2
  cases hk : K.lookup a with
  | some o =>
    -- the script is one of the module's own objects
    have e := KX a o hk
    rw [ha] at e
    cases e
    refine core (fun _ => none) (fun _ => .inl rfl) (.inr ⟨_, vs.toArray, _, hk, rfl, rfl, rfl, by rw [List.size_toArray, lenV]; exact hl, by simpa using rv⟩) (fun b u z => by have z' : (none : Option HO) = some u := z; cases z') (fun b z => absurd rfl z) fun z => absurd rfl z
  | none =>
    refine core (fun b => if b = a then some (.frz { cls := .type "list", data := .seq vs.toArray } (.lst (ns.map V.int))) else none) (fun b => ?_) (.inl (.inr ⟨{ cls := .type "list", data := .seq vs.toArray }, if_pos rfl⟩)) (fun b u z => ?_) (fun b z => ?_) fun _ => hk
    · by_cases hb : b = a
      · exact .inr ⟨_, _, if_pos hb⟩
      · exact .inl (if_neg hb)
    · by_cases hb : b = a
      · have z' := (if_pos hb).symm.trans z
        cases z'
        subst hb
        exact ⟨ha, by rw [List.length_map]; exact hl, vs, _, rv, ha⟩
      · have z' := (if_neg hb).symm.trans z
        cases z'
    · by_cases hb : b = a
      · exact hb
      · exact absurd (if_neg hb) z
end L2

namespace L2
open PySem PySem.Spec PyProof.Rows

abbrev KOf {K : PySem.W.Frag} {h : Heap} (_ : K.In h) : PySem.W.Frag := K

/-- the goal that k_head leaves (case hc), from the law's promise. F gives the function object fd (K's own) once, then the promise over every base -/
theorem walk_of {l : PySem.W.OpenLaw} {n k : Nat} {q : Program} {loose : List Str} {XP : (Str → Option Value) → Heap → Prop} {YP : World → Heap → Prop} {d : DefRec} {K : Params → PySem.W.Frag} {CX : World → CXT} {sp : World → Sp} {x : Str}
    (hn : l.most = some n) (hn2 : n ≤ sizeLine) (hdf : d.params.defaults = []) (hr : Room k callerA)
    (hY : ∀ (w : World) (h : Heap), YP w h → (K w.params).In h)
    (F : ∀ (w : World) (mg : Str → Option Value) (fa : Addr) (h : Heap), (K w.params).In h → h.Ns mainGlobals mg → mg d.name = some (.ref fa) →
      ∃ fd : FuncData, (∀ (s : Shared) (u : Value), BindsTo s fd ⟨[u], []⟩ [(x, u)]) ∧
        ∀ base : Heap, (K w.params).In base → base.Ns mainGlobals mg → FnOk l.prog w (K w.params) mg base (CX w) k fa fd [x] (sp w))
    (hsp : ∀ (w : World) (H : Hp) (a : Addr) (ns : List Int), ns.length ≤ n → Only H → SqL (K w.params) H a (ns.map V.int) → sp w [.ref a] H (fun v _ => v = .bl true) fun _ _ _ => False)
    (hCX : ∀ (w : World) (H : Hp) (s : Shared) (e : Value) (s' : Shared), CX w [] H s (fun _ _ _ => False) e s' → False) :
    PySem.W.WalkO q loose XP YP l.row.toRowW d [] (fun f vs => PySem.call f vs) := by
  refine Att.attach_call hn hdf fun w s₀ s₁ mg mb fa o pm cd doc a vs ns G Y ho hd hcd hmg hobj hints hlen hg => ?_
  have KX := hY w _ Y
  obtain ⟨fd, hb, hF⟩ := F w mg fa _ KX G.T.g hmg
  exact law_call KX G.T.g G.T.b G.T.builtins G.T.nolimit hg hobj hints (Nat.le_trans hlen hn2) hr hF hb (fun H hO hS => hsp w H a ns hlen hO hS) fun H e s' => hCX w H s₁ e s'
end L2

/- THE LAST THEOREM (shape; LID, My.* are yours):
   My.Adr: a structure of the addresses that your layer names (classes, functions); My.Txt K t: a structure (Prop) of the equations over K;
   My.txt_mk : {K} {implicit addresses ..} (e1 : nsIn K mainGlobals "law" = some (some (.ref f))) (e2 : K.lookup f = some ⟨oc, od, .func (fnOf "law" "law" params body scope dV kV doc pm an cdv ct), sl⟩) (e3 : codeIn K cdv "law" = true) .. : ∃ t, My.Txt K t

set_option maxRecDepth 100000 in
set_option maxHeartbeats 0 in
theorem PySem.Challenge.cw_LID_holds : PySem.Challenge.rw_LID.Holds := by
  w_on; o_law; k_head; (case hw => w_witness2)
  k_fill
  refine L2.walk_of (l := PySem.Challenge.rw_LID) (n := 63) (k := 40) (x := "script") (CX := fun w => ..) (sp := fun _ => My.sp_law) rfl (by decide) rfl ⟨rfl, by decide, by decide⟩ (fun w h Y => PySem.W.kIn_of Y) ?F ?S ?C
  case F =>
    intro w mg fa h KX G hmg
    have T : ∃ t, My.Txt (L2.KOf KX) t := by
      dsimp only [L2.KOf]                          -- K must stand as «<heap const> w.params» for k_is
      refine' My.txt_mk ?e1 ?e2 ?e3 ..
      (case e1 => PySem.W.k_is)                    -- in the order: a name -> its address -> its object -> its parts
      (case e2 => PySem.W.k_is)
      ..
    obtain ⟨t, T⟩ := T
    have e0 := hmg.symm.trans (PySem.W.mg_of KX G T.law)
    cases e0                                       -- fa is the law's own address
    exact ⟨_, fun s u => .of_eq rfl, fun base kb nb => My.law_fn T kb nb⟩     -- if «.of_eq rfl» comes too early: refine' ⟨_, ?b, fun base kb nb => My.law_fn T kb nb⟩; exact fun s u => .of_eq rfl
  case S => exact fun w H a ns hl hO hS => ..
  case C => exact ..
(the tactic k_is has no namespace: write k_is) -/

/-! SHORT WORDS over the layer: a def of the text, its body, what a loop and a test want. -/
namespace L2
open PySem PySem.Spec PyProof.Rows

/-! ### the text by places -/
/-- the j-th statement of a class's body -/
def inClass (s : Stmt) (j : Nat) : Stmt := match s with
  | .ClassDef _ _ _ body _ _ _ _ _ _ _ => body.getD j (.Pass ⟨0, 0, 0, 0⟩)
  | _ => .Pass ⟨0, 0, 0, 0⟩
def defArgs (s : Stmt) : Arguments := match s with
  | .FunctionDef _ a _ _ _ _ _ _ _ _ => a
  | _ => { posonlyargs := [], args := [], vararg := none, kwonlyargs := [], kw_defaults := [], kwarg := none, defaults := [] }
def defBody (s : Stmt) : List Stmt := match s with
  | .FunctionDef _ _ b _ _ _ _ _ _ _ => b
  | _ => []
def defScope (s : Stmt) : Scope := match s with
  | .FunctionDef _ _ _ _ _ _ sc _ _ _ => sc
  | _ => { kind := .function, names := [], isGenerator := false, isCoroutine := false }

/-! ### no exception leaves a def -/
abbrev CX0 : CXT := fun _ _ _ _ _ _ => False
abbrev E0 : XK := fun _ _ _ => False
theorem pass0 {X : Cx} : Passes CX0 X E0 := fun _ _ _ _ _ _ _ h => h.elim

/-! ### a def (or method) of the text as it stands behind the top -/
structure Fun (K : PySem.W.Frag) (x qual : Str) (st : Stmt) (f : Addr) (fd : FuncData) : Prop where
  ex : ∃ (oc : Value) (od : Option Addr) (kV doc pm : Value) (an : Option Addr) (cdv ct : Value) (osl : Array (Option Value)),
    fd = PySem.W.fnOf x qual (defArgs st) (defBody st) (defScope st) .none kV doc pm an cdv ct ∧ K.lookup f = some ⟨oc, od, .func fd, osl⟩ ∧ PySem.W.codeIn K cdv qual = true
  kp : PySem.W.keepIn K (.ref f) = true
section
variable {P : Program} {w : World} {K : PySem.W.Frag} {mg : Str → Option Value} {base : Heap}
/-- THE RULE for a def: its body as a term of rules, and the reading of that term -/
theorem Fun.ok {x qual : Str} {st : Stmt} {f : Addr} {fd : FuncData} {N ps : List Str} {k : Nat} {sp : Sp} (F : Fun K x qual st f fd) (S : FnScope N ps (defScope st)) (len : ∀ vs H Q E, sp vs H Q E → vs.length = ps.length)
    (hbody : ∀ (cdv : Value) (A : Around) (outer : List Env) (s : Shared) (H : Hp) (vs : List V) (Q : VK) (E : XK), Room k (A.deeper (envOfC qual (defScope st) s.heap.objs.size f cdv)) → sp vs H Q E →
      ∃ t, PSs (cxOf CX0 P w K mg base N qual (defScope st) f cdv A outer s H E).nox (defBody st) t ∧ t { nx := fun _ H' => Q .non H', rt := Q } (start N vs) H) : FnOk P w K mg base CX0 (k + 1) f fd ps sp := by
  obtain ⟨oc, od, kV, doc, pm, an, cdv, ct, osl, rfl, lk, hcd⟩ := F.ex
  refine fn_of lk hcd S len fun A outer s H vs Q E hr hsp => ?_
  obtain ⟨t, h, q⟩ := hbody cdv A outer s H vs Q E hr hsp
  exact ⟨t, h.nox, q⟩
/-- how its arguments bind (no defaults): h is «fun _ _ _ _ _ _ us hl => match us, hl with | [_, _], _ => rfl», one _ a parameter -/
theorem Fun.binds {x qual : Str} {st : Stmt} {f : Addr} {fd : FuncData} {ps : List Str} (F : Fun K x qual st f fd)
    (h : ∀ (kV doc pm : Value) (an : Option Addr) (cdv ct : Value) (us : List Value), us.length = ps.length → bindArgs (PySem.W.fnOf x qual (defArgs st) (defBody st) (defScope st) .none kV doc pm an cdv ct) ⟨us, []⟩ = pure (ps.zip us)) : Binds K fd ps [] := by
  obtain ⟨oc, od, kV, doc, pm, an, cdv, ct, osl, rfl, lk, hcd⟩ := F.ex
  exact .all (h kV doc pm an cdv ct)
theorem fun_mk {x qual : Str} {st : Stmt} {f : Addr} {oc : Value} {od an : Option Addr} {osl : Array (Option Value)} {kV doc pm cdv ct : Value} (l : K.lookup f = some ⟨oc, od, .func (PySem.W.fnOf x qual (defArgs st) (defBody st) (defScope st) .none kV doc pm an cdv ct), osl⟩)
    (c : PySem.W.codeIn K cdv qual = true) (k : PySem.W.keepIn K (.ref f) = true) : Fun K x qual st f (PySem.W.fnOf x qual (defArgs st) (defBody st) (defScope st) .none kV doc pm an cdv ct) := ⟨⟨oc, od, kV, doc, pm, an, cdv, ct, osl, rfl, l, c⟩, k⟩
end
/-! ### expressions in short: the name that stands in the i-th slot -/
section
variable {X : Cx}
theorem pv (i : Nat) {x : Str} {pos : Pos} (hN : X.N[i]? = some x := by rfl) (hv : Vis X.env.scope x := by first | exact Or.inl rfl | exact Or.inr (Or.inl rfl) | exact Or.inr (Or.inr rfl)) (hd : (x == ("__debug__" : Str)) = false := by decide)
    (hcd : (x == ("__classdict__" : Str)) = false := by decide) : PE X (.Name x pos) (tVar i) := pe_var hN hv hd hcd
end

/-! ### tests -/
theorem iteF {A B : Prop} (h : B) : if false = true then A else B := by
  rw [if_neg Bool.false_ne_true]
  exact h
theorem iteT {A B : Prop} (h : A) : if true = true then A else B := by
  rw [if_pos rfl]
  exact h
theorem ite2 {c A B : Prop} [Decidable c] (h1 : c → A) (h2 : ¬ c → B) : if c then A else B := by
  by_cases h : c
  · rw [if_pos h]
    exact h1 h
  · rw [if_neg h]
    exact h2 h
/-! ### heaps -/
/-- all that was tracked is as it was -/
def Same (H H' : Hp) : Prop := ∀ b o, H b = some o → H' b = some o
theorem Same.refl (H : Hp) : Same H H := fun _ _ h => h
theorem Same.trans {H H1 H2 : Hp} (a : Same H H1) (b : Same H1 H2) : Same H H2 := fun c o h => b c o (a c o h)
theorem Same.free {H H' : Hp} (e : Same H H') {l : Addr} (h : H' l = Option.none) : H l = Option.none := by
  cases q : H l with
  | none => rfl
  | some o =>
    rw [e l o q] at h
    cases h
theorem Same.seq {K : PySem.W.Frag} {H H' : Hp} {a : Addr} {xs : List V} (e : Same H H') (h : SqL K H a xs) : SqL K H' a xs := by
  rcases h with (h | ⟨o, h⟩) | h
  · exact .inl (.inl (e _ _ h))
  · exact .inl (.inr ⟨o, e _ _ h⟩)
  · exact .inr h

end L2

set_option Elab.async false
set_option linter.all false
set_option maxRecDepth 100000
set_option maxHeartbeats 4000000
namespace L3
open PySem PySem.Spec PyProof.Rows L2
abbrev St := L2.St

/-- the inner names' values: an own name has none yet, a captured one has its slot's -/
def sub (ix : List (Option Nat)) (σ : St) : St := ix.map fun o => o.bind fun j => (σ[j]?).join

theorem thnF {α : Type} {t : Sem α} {Q Q' : α → Shared → Prop} {M : Model} {A : Around} {E : Value → Shared → Prop} {s : Shared} (h : wpAny M A t Q (fun _ _ => False) s) (hQ : ∀ a s, Q a s → Q' a s) : wpAny M A t Q' E s :=
  wpAny_mono h hQ fun _ _ z => z.elim

/-- the tests behind a comprehension's for -/
def PTs (X : Cx) (ifs : List Expr) (t : TT) : Prop :=
  ∀ (pins : List (Addr × Obj)) (s : Shared) (σ : St) (H : Hp) (Q : Bool → Hp → Prop), Inv X pins σ H s → t σ H Q →
    wpAny (model X.prog X.w) X.A (forIn ifs true fun c r => if r = true then do let ok ← isTrue c X.env (eval c X.env); pure (ForInStep.yield ok) else pure (ForInStep.yield r)) (TP X pins σ Q) X.xe s
def tTrue : TT := fun _ H Q => Q true H
theorem pts_nil {X : Cx} : PTs X [] tTrue := fun _ _ _ H _ I h => wpAny_tests_nil ⟨H, I, h⟩
theorem pts_one {X : Cx} {c : Expr} {t : TT} (h : PT X c t) : PTs X [c] t := fun pins s σ H Q I q => wpAny_tests_one (h pins s σ H Q I q)

/-! ### what is captured -/
def closOf (scope : Scope) (env : Env) : List (Str × Addr) := (scope.names.filter fun y => y.2 == .free).reverse.map fun y => (y.1, (env.cells.lookup y.1).getD 0)

theorem clos_loop {env : Env} : ∀ (ns : List (Str × NameKind)) (acc : List (Str × Addr)), (∀ y ∈ ns, y.2 = .free → (env.cells.lookup y.1).isSome = true) →
    (forIn ns acc fun (x : Str × NameKind) (r : List (Str × Addr)) => if x.2 == .free then do let a ← cellOf env x.1; pure (ForInStep.yield ((x.1, a) :: r)) else pure (ForInStep.yield r) : Sem (List (Str × Addr))) =
      pure ((ns.filter fun y => y.2 == .free).reverse.map (fun y => (y.1, (env.cells.lookup y.1).getD 0)) ++ acc) := by
  intro ns
  induction ns with
  | nil => intro acc _; rfl
  | cons y r ih =>
    intro acc h
    have hr : ∀ z ∈ r, z.2 = .free → (env.cells.lookup z.1).isSome = true := fun z hz => h z (List.mem_cons_of_mem _ hz)
    rw [List.forIn_cons]
    by_cases hf : (y.2 == NameKind.free) = true
    · have hs := h y List.mem_cons_self (by simpa using hf)
      obtain ⟨c, hc⟩ := Option.isSome_iff_exists.mp hs
      have e1 : cellOf env y.1 = pure c := by unfold cellOf; rw [hc]
      rw [if_pos hf, e1, pure_bind, pure_bind]
      refine (ih _ hr).trans ?_
      rw [List.filter_cons_of_pos (by simpa using hf), List.reverse_cons, List.map_append]
      simp [hc]
    · rw [if_neg hf, pure_bind]
      refine (ih _ hr).trans ?_
      rw [List.filter_cons_of_neg (by simpa using hf)]
theorem clos_eq {scope : Scope} {env : Env} (h : ∀ y ∈ scope.names, y.2 = .free → (env.cells.lookup y.1).isSome = true) : closureFor scope env = pure (closOf scope env) := by
  have e := clos_loop (env := env) scope.names [] h
  rw [List.append_nil] at e
  unfold closureFor
  rw [show closOf scope env = (scope.names.filter fun y => y.2 == .free).reverse.map (fun y => (y.1, (env.cells.lookup y.1).getD 0)) from rfl]
  rw [← pure_bind (m := Sem) ((scope.names.filter fun y => y.2 == .free).reverse.map (fun y => (y.1, (env.cells.lookup y.1).getD 0))) pure, ← e]
theorem lookup_pairs {β : Type} (f : Str → β) : ∀ (l : List (Str × NameKind)) (x : Str), (l.map fun y => (y.1, f y.1)).lookup x = if x ∈ l.map (·.1) then some (f x) else none
  | [], x => by simp
  | y :: r, x => by
    rw [List.map_cons, List.lookup_cons, lookup_pairs f r x]
    by_cases e : x = y.1
    · subst e; simp
    · have hb : (x == y.1) = false := by simpa using e
      rw [hb]
      by_cases hm : x ∈ r.map (·.1)
      · rw [if_pos hm, if_pos (by rw [List.map_cons]; exact List.mem_cons_of_mem _ hm)]
      · rw [if_neg hm, if_neg (by rw [List.map_cons]; intro z; rcases List.mem_cons.mp z with z | z; exact e z; exact hm z)]
theorem clos_some {scope : Scope} {env : Env} {x : Str} {c : Addr} (h : ∀ y ∈ scope.names, y.2 = .free → (env.cells.lookup y.1).isSome = true) (e : (closOf scope env).lookup x = some c) : env.cells.lookup x = some c := by
  unfold closOf at e
  rw [lookup_pairs (fun z => (env.cells.lookup z).getD 0)] at e
  split at e
  · rename_i hx
    obtain ⟨y, hy, rfl⟩ := List.mem_map.mp hx
    obtain ⟨h1, h2⟩ := List.mem_filter.mp (List.mem_reverse.mp hy)
    obtain ⟨d, hd⟩ := Option.isSome_iff_exists.mp (h y h1 (by simpa using h2))
    have e' := Option.some.inj e
    rw [hd] at e' ⊢
    exact congrArg some e'
  · cases e
theorem clos_has {scope : Scope} {env : Env} {x : Str} (hx : (x, NameKind.free) ∈ scope.names) : ∃ c, (closOf scope env).lookup x = some c := by
  unfold closOf
  rw [lookup_pairs (fun z => (env.cells.lookup z).getD 0), if_pos]
  · exact ⟨_, rfl⟩
  · exact List.mem_map.mpr ⟨(x, .free), List.mem_reverse.mpr (List.mem_filter.mpr ⟨hx, by simp⟩), rfl⟩
theorem relabel_kind {env : Env} : ∀ {names : List (Str × NameKind)} {x : Str} {k : NameKind},
    (names.map fun (n, k) => if (k == NameKind.free && env.scope.kind == .function && env.kindOf n == some .cell) then (n, NameKind.cell) else (n, k)).lookup x = some k →
      names.lookup x = some k ∨ (k = .cell ∧ names.lookup x = some .free)
  | [], _, _, h => by simp at h
  | (n, k0) :: r, x, k, h => by
    rw [List.map_cons] at h
    dsimp only at h
    cases hx : x == n with
    | true =>
      by_cases hc : (k0 == NameKind.free && env.scope.kind == .function && env.kindOf n == some .cell) = true
      · rw [if_pos hc] at h
        simp only [List.lookup_cons, hx] at h ⊢
        have : k0 = .free := by
          have h1 := (Bool.and_eq_true _ _ ▸ ((Bool.and_eq_true _ _ ▸ hc).1)).1
          simpa using h1
        exact .inr ⟨(Option.some.inj h).symm, by rw [this]⟩
      · rw [if_neg hc] at h
        simp only [List.lookup_cons, hx] at h ⊢
        exact .inl h
    | false =>
      have h' : (r.map fun (n, k) => if (k == NameKind.free && env.scope.kind == .function && env.kindOf n == some .cell) then (n, NameKind.cell) else (n, k)).lookup x = some k := by
        by_cases hc : (k0 == NameKind.free && env.scope.kind == .function && env.kindOf n == some .cell) = true
        · rw [if_pos hc] at h; simpa only [List.lookup_cons, hx] using h
        · rw [if_neg hc] at h; simpa only [List.lookup_cons, hx] using h
      simp only [List.lookup_cons, hx]
      exact relabel_kind h'
theorem relabel_free {env : Env} : ∀ {names : List (Str × NameKind)} {x : Str}, names.lookup x = some .free →
    (names.map fun (n, k) => if (k == NameKind.free && env.scope.kind == .function && env.kindOf n == some .cell) then (n, NameKind.cell) else (n, k)).lookup x = some .cell ∨
    (names.map fun (n, k) => if (k == NameKind.free && env.scope.kind == .function && env.kindOf n == some .cell) then (n, NameKind.cell) else (n, k)).lookup x = some .free
  | [], _, h => by simp at h
  | (n, k0) :: r, x, h => by
    rw [List.map_cons]
    dsimp only
    cases hx : x == n with
    | true =>
      simp only [List.lookup_cons, hx] at h
      have e : k0 = .free := Option.some.inj h
      by_cases hc : (k0 == NameKind.free && env.scope.kind == .function && env.kindOf n == some .cell) = true
      · rw [if_pos hc]; exact .inl (by simp only [List.lookup_cons, hx])
      · rw [if_neg hc]; exact .inr (by simp only [List.lookup_cons, hx]; rw [e])
    | false =>
      simp only [List.lookup_cons, hx] at h
      have ih := relabel_free (env := env) h
      by_cases hc : (k0 == NameKind.free && env.scope.kind == .function && env.kindOf n == some .cell) = true
      · rw [if_pos hc]; simpa only [List.lookup_cons, hx] using ih
      · rw [if_neg hc]; simpa only [List.lookup_cons, hx] using ih

/-- what is asked of a comprehension's names; sc, N: the names around it -/
structure CompOk (sc : Scope) (N Nc : List Str) (ix : List (Option Nat)) (scope : Scope) : Prop where
  kind : scope.kind = .function
  nocell : ∀ y ∈ scope.names, y.2 ≠ .cell
  names : ∀ y ∈ scope.names, y.2 = .local → scope.names.lookup y.1 = some .local
  free : ∀ y ∈ scope.names, y.2 = .free → sc.names.lookup y.1 = some .cell ∨ sc.names.lookup y.1 = some .free
  len : ix.length = Nc.length
  chk : ((ix.zip Nc).all fun p => match p.1 with | none => true | some j => N[j]? == some p.2 && scope.names.lookup p.2 == some .free) = true
theorem CompOk.at_ {sc : Scope} {N Nc : List Str} {ix : List (Option Nat)} {scope : Scope} (o : CompOk sc N Nc ix scope) {i j : Nat} {x : Str} (h1 : ix[i]? = some (some j)) (h2 : Nc[i]? = some x) : N[j]? = some x ∧ scope.names.lookup x = some .free := by
  have hm : (some j, x) ∈ ix.zip Nc := by
    refine List.mem_of_getElem? (i := i) ?_
    rw [List.getElem?_zip_eq_some]
    exact ⟨h1, h2⟩
  have q := List.all_eq_true.mp o.chk _ hm
  have q' := Bool.and_eq_true _ _ ▸ q
  exact ⟨by simpa using q'.1, by simpa using q'.2⟩

/-- the context of a comprehension's block -/
def cxComp (X : Cx) (Nc : List Str) (scope : Scope) (cl : List (Str × Addr)) (C : Addr) (s : Shared) (H : Hp) (fp : List Addr) : Cx where
  prog := X.prog
  w := X.w
  K := X.K
  mg := X.mg
  base := X.base
  A := X.A
  N := Nc
  s₀ := s
  H₀ := H
  env := compEnvC scope cl C X.env
  outer := X.stack
  stack := X.stack
  ex := fp
  fn := fun x => (cl.lookup x).isNone
  calm := X.calm
  pn := X.pn
  xe := fun _ _ => False

/-- the turns of a comprehension, by an invariant: the new list stands at D -/
def CompW (J : It) (D : Addr) (g : TG) (tt : TT) (te : TE) (σ0 : St) (H1 : Hp) (Q : VK) : Prop :=
  ∃ W : Nat → Nat → St → Hp → Prop, (∃ m, W 0 m σ0 (upd H1 D (.lst []))) ∧ ∀ i m σ' H', W i m σ' H' → (J.stop i H' ∧ Q (.ref D) H') ∨
    (J.go i H' ∧ ∃ (N : V → St → Hp → Prop) (N0 : St → Hp → Prop), (∀ v σ2 H5, N v σ2 H5 → ∃ xs, H5 D = some (.lst xs) ∧ xs.length < sizeLine ∧ ∃ m', m' < m ∧ W (i + 1) m' σ2 (upd H5 D (.lst (xs ++ [v])))) ∧
      (∀ σ2 H4, N0 σ2 H4 → ∃ m', m' < m ∧ W (i + 1) m' σ2 H4) ∧ ∀ x H2, J.yld i H' x H2 → g x σ' H2 fun σ2 H3 => tt σ2 H3 fun c H4 => if c = true then te σ2 H4 fun v H5 => N v σ2 H5 else N0 σ2 H4)
def tComp (wi : TI) (ix : List (Option Nat)) (g : TG) (tt : TT) (te : TE) : TE := fun σ H Q => wi σ H fun J H1 => ∀ D, H1 D = none → CompW J D g tt te (sub ix σ) H1 Q

theorem loop_of {prog : Program} {w : World} {A : Around} {R : Result → Shared → Prop} {s : Shared} {elt target iter : Expr} {ifs : List Expr} {scope : Scope} {pos : Pos} {it acc : Value} {env : Env} (J : Nat → Shared → Prop)
    (turn : ∀ n s, J n s → wpAny (model prog w) A (pyNext it) (fun r s1 => match r with
      | none => R (.ok .next) s1
      | some v => wpAny (model prog w) A (letOwnedTupleGo target it v) (fun _ s2 => wpAny (model prog w) A (assign target env v) (fun _ s3 =>
          wpAny (model prog w) A (forIn ifs true fun c r => if r = true then do let ok ← isTrue c env (eval c env); pure (ForInStep.yield ok) else pure (ForInStep.yield r)) (fun ok s4 =>
            if ok = true then wpAny (model prog w) A (eval elt env) (fun x s5 => wpAny (model prog w) A (call (.builtin "list.append") [acc, x]) (fun _ s6 => ∃ m, m < n ∧ J m s6) (fun _ _ => False) s5) (fun _ _ => False) s4
            else ∃ m, m < n ∧ J m s4) (fun _ _ => False) s3) (fun _ _ => False) s2) (fun _ _ => False) s1) (fun _ _ => False) s)
    (n : Nat) (h : J n s) : codeAny (model prog w) A (.compLoop (.ListComp elt [⟨target, iter, ifs, 0⟩] scope pos) 0 it acc env) R s := by
  refine codeAny_loop rfl J (fun k t hJ => ?_) n h
  show wpAny _ A ((compTurn (.ListComp elt [⟨target, iter, ifs, 0⟩] scope pos) 0 it acc env).onRaise _) _ _ t
  refine wpAny_noted ?_
  rw [compTurn_list]
  refine wpAny_bind (wpAny_standAt (wpAny_bind (thnF (turn k t hJ) fun r s1 h1 => ?_)))
  cases r with
  | none => exact wpAny_pure h1
  | some v =>
    refine wpAny_bind (thnF h1 fun _ s2 h2 => wpAny_bind (thnF h2 fun _ s3 h3 => wpAny_bind (thnF h3 fun ok s4 h4 => ?_)))
    cases ok with
    | false => exact wpAny_pure ⟨rfl, h4⟩
    | true => exact wpAny_bind (wpAny_bind (thnF h4 fun x s5 h5 => wpAny_bind (thnF h5 fun _ s6 h6 => wpAny_pure (wpAny_pure ⟨rfl, h6⟩))))

section
variable {X : Cx} {pins : List (Addr × Obj)} {σ : St} {H : Hp} {s : Shared} {Nc : List Str} {ix : List (Option Nat)} {scope : Scope}
theorem all_cells (I : Inv X pins σ H s) (ok : CompOk X.env.scope X.N Nc ix scope) : ∀ y ∈ scope.names, y.2 = .free → (X.env.cells.lookup y.1).isSome = true := fun y hy hf => by
  obtain ⟨c, hc⟩ := I.ok.has y.1 (ok.free y hy hf)
  rw [hc]; rfl
/-- the block begins: s is the state with the new list, C the block's own dict -/
theorem comp_start {fp : List Addr} {h1 : Heap} {t' : Nat} (I : Inv X pins σ H s) (ok : CompOk X.env.scope X.N Nc ix scope) (hf : ∀ b ∈ fp, FpOk X pins H b) (hob : ∀ b ∈ fp, ∃ o, s.heap.get? b = some o)
    {m : Str → Option Value} (hn : h1.Ns s.heap.objs.size m) (hk : ∀ b o, s.heap.get? b = some o → h1.get? b = some o) :
    Inv (cxComp X Nc scope (closOf scope X.env) s.heap.objs.size s H fp) pins (sub ix σ) H { s with heap := h1, toks := t' } := by
  have ac := all_cells I ok
  have old : ∀ {b : Addr} {o : Obj}, s.heap.get? b = some o → b ≠ s.heap.objs.size := fun e => Nat.ne_of_lt (Heap.lt_size e)
  refine ⟨⟨I.ok.mod, ?_, I.ok.glob, I.ok.blt, Nat.le_refl _, ?_, ?_, ?_, I.ok.hd, I.ok.frames, .inl rfl, ?_, I.bs, Nat.le_trans I.ok.bsz I.sz, ?_, ?_, I.stack, I.stkFree⟩, rfl, I.bare, Un.kept hk, ⟨m, hn, ?_⟩, ?_, ?_, ?_, ?_, I.hok.kept hk, ?_⟩
  · exact ok.kind
  · intro x y c e1 e2
    exact I.ok.inj x y c (clos_some ac e1) (clos_some ac e2)
  · intro x hx
    have key : ∀ k, (relabel scope X.env).names.lookup x = some k → (k = .cell ∨ k = .free) → ∃ c, (closOf scope X.env).lookup x = some c := fun k e hkk => by
      rcases relabel_kind e with q | ⟨_, q⟩
      · rcases hkk with rfl | rfl
        · exact absurd rfl (ok.nocell _ (PySem.mem_of_lookup q))
        · exact clos_has (PySem.mem_of_lookup q)
      · exact clos_has (PySem.mem_of_lookup q)
    rcases hx with e | e
    · exact key _ e (.inl rfl)
    · exact key _ e (.inr rfl)
  · intro x c hfn e
    have e' : (closOf scope X.env).lookup x = some c := e
    have hfn' : ((closOf scope X.env).lookup x).isNone = true := hfn
    rw [e'] at hfn'; cases hfn'
  · intro b hb
    obtain ⟨o, e⟩ := hob b hb
    obtain ⟨f0, f1, f2, f3, f4, f5⟩ := hf b hb
    exact ⟨old e, fun x c q => f4 x c (clos_some ac q)⟩
  · intro b o e hb
    obtain ⟨f0, f1, f2, f3, f4, f5⟩ := hf b hb
    rcases f3 with z | z
    · exact I.ok.noex b o e z
    · exact absurd (Nat.lt_of_lt_of_le (Nat.lt_of_lt_of_le (Heap.lt_size e) I.ok.bsz) z) (Nat.lt_irrefl _)
  · intro b hb hz
    obtain ⟨f0, f1, f2, f3, f4, f5⟩ := hf b hb
    rcases List.mem_cons.mp (I.stkSub b hz) with z | z
    · exact f1 z
    · exact f2 z
  · intro i x v e1 e2 e3
    have e1 : Nc[i]? = some x := e1
    unfold sub at e2
    rw [List.getElem?_map] at e2
    cases hi : ix[i]? with
    | none => rw [hi] at e2; cases e2
    | some o =>
      cases o with
      | none => rw [hi] at e2; cases e2
      | some j =>
        obtain ⟨hN, hfree⟩ := ok.at_ hi e1
        have e4 : σ[j]? = some (some v) := by
          rw [hi] at e2
          have e2' : some ((σ[j]?).join) = some (some v) := e2
          have e5 := Option.some.inj e2'
          cases hj : σ[j]? with
          | none => rw [hj] at e5; cases e5
          | some z => rw [hj] at e5; exact congrArg some e5
        have hvis : Vis X.env.scope x := by
          rcases ok.free (x, .free) (PySem.mem_of_lookup hfree) rfl with q | q
          · exact .inr (.inl q)
          · exact .inr (.inr q)
        obtain ⟨m0, hn0, hl⟩ := I.loc
        obtain ⟨u, r, lk⟩ := hl j x v hN e4 hvis
        refine ⟨u, r, .inr ⟨relabel_free hfree, ?_⟩⟩
        rcases lk with ⟨q, _⟩ | ⟨_, c, hc, z⟩
        · rcases ok.free (x, .free) (PySem.mem_of_lookup hfree) rfl with q2 | q2
          · exact absurd (q.symm.trans q2) (by decide)
          · exact absurd (q.symm.trans q2) (by decide)
        · obtain ⟨d, hd⟩ := clos_has (env := X.env) (PySem.mem_of_lookup hfree)
          have := clos_some ac hd
          rw [hc] at this; cases this
          obtain ⟨oc, e5, e6⟩ := z
          exact ⟨c, hd, oc, hk c oc e5, e6⟩
  · intro x c e
    obtain ⟨v, oc, e5, e6⟩ := I.cell x c (clos_some ac e)
    exact ⟨v, oc, hk c oc e5, e6⟩
  · exact I.hok.fresh (Nat.le_refl _)
  · intro x c e
    exact I.freeC x c (clos_some ac e)
  · intro p hp
    obtain ⟨e, n, ne, nf, d⟩ := I.pin p hp
    refine ⟨hk _ _ e, n, old e, fun z => ?_, d⟩
    rcases List.mem_cons.mp (I.stkSub p.1 z) with q | q
    · exact ne q
    · exact nf q
  · unfold sub
    rw [List.length_map]
    exact ok.len
/-- the block has ended -/
theorem comp_end {fp : List Addr} {cl : List (Str × Addr)} {C : Addr} {σ' : St} {H' : Hp} {s' : Shared} {h' : Heap} (I : Inv X pins σ H s) (hf : ∀ b ∈ fp, FpOk X pins H b) (hC : s.heap.get? C = none)
    (J : Inv (cxComp X Nc scope cl C s H fp) pins σ' H' s') (sb : Heap.SameBut C s'.heap h') : Inv X pins σ H' { s' with heap := h' } := by
  have u : Un (frs X.stack) fp H H' s.heap s'.heap := J.base
  have hCf : H' C = none := J.free
  have hCn : ∀ {b : Addr} {o : Obj}, s.heap.get? b = some o → b ≠ C := fun e z => by rw [z, hC] at e; cases e
  refine I.call' (s' := { s' with heap := h' }) (ch := fp) J.os ⟨fun b o e n h1 h2 => ?_, fun b o e n h1 h2 => ?_, u.free, fun b o e h2 => ?_, u.tups, u.frzs, u.tbls⟩ ?_ J.bare fun b hb => ?_
  · exact (sb.2 b (hCn e)).trans (u.keep b o e n h1 h2)
  · obtain ⟨sl, q⟩ := u.slot b o e n h1 h2
    exact ⟨sl, (sb.2 b (hCn e)).trans q⟩
  · obtain ⟨o', q⟩ := u.there b o e h2
    exact ⟨o', (sb.2 b (hCn e)).trans q⟩
  · intro b o e
    refine (J.hok b o e).stay (fun c v hc q => (sb.2 c ?_).trans q) (fun _ q => q) fun _ _ q => q
    rintro rfl
    rcases hc with z | z
    · rw [← z, hCf] at e; cases e
    · rw [hCf] at z; cases z
  · obtain ⟨f0, f1, f2, f3, f4, f5⟩ := hf b hb
    exact ⟨f3, f1, f4, f5⟩

theorem comp_run {elt tg iter : Expr} {ifs : List Expr} {pos pos2 : Pos} {wi : TI} {g : TG} {tt : TT} {te : TE} {use : Option (Value → Sem Unit)} {QV : Value → Shared → Prop} {Q : VK} (I : L2.Inv X pins σ H s) (h : tComp wi ix g tt te σ H Q)
    (fin : ∀ (D C : Addr) (H' : Hp) (s' : Shared) (m : Str → Option Value), L2.Inv X pins σ H' s' → FpOk X pins H' C → s'.heap.Ns C m → Q (.ref D) H' → compPost (model X.prog X.w) X.A X.xe use QV (.ref D) C (.ok .next) s')
    (ok : CompOk X.env.scope X.N Nc ix scope) (hc : X.calm = true) (hi : PI X tg iter wi)
    (hg : ∀ cl C s H fp, PG (cxComp X Nc scope cl C s H fp) tg g) (ht : ∀ cl C s H fp, PTs (cxComp X Nc scope cl C s H fp) ifs tt) (he : ∀ cl C s H fp, PE (cxComp X Nc scope cl C s H fp) elt te)
    (hs : ∀ x, foldedSetIterable iter X.env x = pure x := by intro _; rfl) : wpAny (model X.prog X.w) X.A (comprehension (.ListComp elt [⟨tg, iter, ifs, 0⟩] scope pos) scope X.env pos2 (newList []) false (eval iter X.env) use) QV X.xe s := by
  refine wpAny_comprehension_free (use := use) (cl := closOf scope X.env) rfl hs (clos_eq (all_cells I ok)) ok.kind ok.names (thn (hi pins s σ H _ I h) fun v s1 q1 => thn q1 fun itv s2 q2 => ?_)
  obtain ⟨it, fp, tn, J, H1, e, I2, T, st2, f2, q⟩ := q2
  subst e
  have hD : H1 s2.heap.objs.size = none := I2.hok.fresh (Nat.le_refl _)
  obtain ⟨W, ⟨m0, w0⟩, turn⟩ := q _ hD
  refine wpAny_newObj_type ?_
  have I3 : Inv X pins σ (upd H1 s2.heap.objs.size (.lst [])) { s2 with heap := s2.heap.push { cls := .type "list", data := .seq ([] : List Value).toArray } } :=
    I2.laid (t' := s2.toks) (fun b u e => Heap.get?_push_of_some _ e) (Nat.le_refl _) ⟨Nat.zero_le _, [], 0, .nil, Heap.get?_push_size _ rfl⟩
  have hob2 := T.obj 0 _ st2
  have f3 : ∀ b ∈ fp, FpOk X pins (upd H1 s2.heap.objs.size (.lst [])) b := fun b hb => by
    obtain ⟨o, e, _⟩ := hob2 b hb
    obtain ⟨f0, fr⟩ := f2 b hb
    exact ⟨by rw [upd_ne (Nat.ne_of_lt (Heap.lt_size e))]; exact f0, fr⟩
  have st3 : tn 0 (s2.heap.push { cls := .type "list", data := .seq ([] : List Value).toArray }) := T.keep 0 _ _ st2 fun b _ o e => Heap.get?_push_of_some _ e
  generalize hs3 : ({ s2 with heap := s2.heap.push { cls := .type "list", data := .seq ([] : List Value).toArray } } : Shared) = s3 at I3 ⊢
  have st3' : tn 0 s3.heap := by rw [← hs3]; exact st3
  refine wpAny_newFunctionEnv ok.nocell (by intro y hy; simp at hy) (fun h1 hns hsb => ?_) ok.kind
  have k1 : ∀ b o, s3.heap.get? b = some o → h1.get? b = some o := fun b o e => (hsb.2 b (Nat.ne_of_lt (Heap.lt_size e))).trans (Heap.get?_push_of_some _ e)
  have hob3 : ∀ b ∈ fp, ∃ o, s3.heap.get? b = some o := fun b hb => let ⟨o, e, _⟩ := T.obj 0 _ st3' b hb; ⟨o, e⟩
  have I4 : Inv (cxComp X Nc scope (closOf scope X.env) s3.heap.objs.size s3 (upd H1 s2.heap.objs.size (.lst [])) fp) pins (sub ix σ) (upd H1 s2.heap.objs.size (.lst [])) { s3 with heap := h1, toks := s3.toks + ([] : List (Str × Value)).length } :=
    comp_start I3 ok f3 hob3 hns k1
  have st4 : tn 0 h1 := T.keep 0 _ _ st3' fun b _ o e => k1 b o e
  have hC : s3.heap.get? s3.heap.objs.size = none := Heap.get?_none_of_le (Nat.le_refl _)
  generalize hX : cxComp X Nc scope (closOf scope X.env) s3.heap.objs.size s3 (upd H1 s2.heap.objs.size (.lst [])) fp = Y at I4
  have stat : ∀ {H' : Hp}, (∀ b ∈ fp, H' b = none) → ∀ b ∈ fp, FpOk Y pins H' b := fun {H'} hn b hb => by
    obtain ⟨o, e⟩ := hob3 b hb
    obtain ⟨f0, f1, ff, f3', f4, f5⟩ := f3 b hb
    have nst : b ∉ frs X.stack := fun z => by
      rcases List.mem_cons.mp (I3.stkSub b z) with z | z
      · exact f1 z
      · exact ff z
    subst hX
    exact ⟨hn b hb, Nat.ne_of_lt (Heap.lt_size e), nst, .inl hb, fun x c q => f4 x c (clos_some (all_cells I3 ok) q), f5⟩
  have fin' : ∀ {σ' : St} {H' : Hp} {s' : Shared}, L2.Inv Y pins σ' H' s' → Q (.ref s2.heap.objs.size) H' → compPost (model X.prog X.w) X.A X.xe use QV (.ref s2.heap.objs.size) s3.heap.objs.size (.ok .next) s' := fun {σ' H' s'} J' qq => by
    subst hX
    obtain ⟨m', hn', _⟩ := id J'.loc
    have hCn : H' s3.heap.objs.size = none := J'.free
    exact fin _ _ H' s' m' (comp_end (h' := s'.heap) I3 f3 hC J' (.refl ..)) (I3.fpOk (Nat.le_refl _) hCn) hn' qq
  have loop : codeAny (model X.prog X.w) X.A (.compLoop (.ListComp elt [⟨tg, iter, ifs, 0⟩] scope pos) 0 (.ref it) (.ref s2.heap.objs.size) Y.env)
      (compPost (model X.prog X.w) X.A X.xe use QV (.ref s2.heap.objs.size) s3.heap.objs.size) { s3 with heap := h1, toks := s3.toks + ([] : List (Str × Value)).length } := by
    have eP : Y.prog = X.prog := by subst hX; rfl
    have eW : Y.w = X.w := by subst hX; rfl
    have eK : Y.K = X.K := by subst hX; rfl
    have eA : Y.A = X.A := by subst hX; rfl
    have eE : Y.xe = fun _ _ => False := by subst hX; rfl
    have eC : Y.calm = true := by subst hX; exact hc
    have hgY : PG Y tg g := by subst hX; exact hg _ _ _ _ _
    have htY : PTs Y ifs tt := by subst hX; exact ht _ _ _ _ _
    have heY : PE Y elt te := by subst hX; exact he _ _ _ _ _
    unfold PG at hgY
    unfold PTs at htY
    unfold PE at heY
    rw [eP, eW, eA, eE] at hgY htY heY
    refine loop_of (fun n s' => ∃ i σ' H', Inv Y pins σ' H' s' ∧ tn i s'.heap ∧ (∀ b ∈ fp, H' b = none) ∧ W i n σ' H') ?_ m0 ⟨0, sub ix σ, _, I4, st4, fun b hb => (f3 b hb).1, w0⟩
    rintro n s5 ⟨i, σ5, H5, I5, st5, fr5, w5⟩
    have TI := T.item Y eP eW eK eC i pins s5 σ5 H5 (fun _ _ => False) I5 (stat fr5) st5
    have TD := T.done Y eP eW eK eC i pins s5 σ5 H5 (fun _ _ => False) I5 (stat fr5) st5
    rw [eA] at TI TD
    rcases turn i n σ5 H5 w5 with ⟨stop, qn⟩ | ⟨go, N, N0, hN, hN0, step⟩
    · refine thn (TD stop) fun r s6 ⟨hr, I6⟩ => ?_
      subst hr
      exact fin' I6 qn
    · refine thn (TI go) fun r s6 ⟨u, hr, h6⟩ => ?_
      subst hr
      refine thn h6 fun _ s7 ⟨x, H7, I7, r7, y7, st7, fr7⟩ => ?_
      have I7' := I7.pinned (stat fr7) (T.obj _ _ st7)
      refine thn (hgY _ s7 σ5 H7 x u _ I7' r7 (step x H7 y7)) fun _ s8 ⟨σ8, H8, I8, q8⟩ => ?_
      refine thn (htY _ s8 σ8 H8 _ I8 q8) fun c s9 ⟨H9, I9, q9⟩ => ?_
      have back : ∀ {σa : St} {Ha : Hp} {sa : Shared}, Inv Y (pins ++ pinsAt fp s7.heap) σa Ha sa → (∃ m', m' < n ∧ W (i + 1) m' σa Ha) → ∃ m, m < n ∧ ∃ i σ' H', Inv Y pins σ' H' sa ∧ tn i sa.heap ∧ (∀ b ∈ fp, H' b = none) ∧ W i m σ' H' := fun {σa Ha sa} Ia ⟨m', hm, wa⟩ => by
        refine ⟨m', hm, i + 1, σa, Ha, Ia.unpinned, T.keep _ _ _ st7 fun b hb o e => (Ia.pin (b, o) (List.mem_append_right _ (List.mem_append_right _ (mem_pinsAt hb e)))).1, fun b hb => ?_, wa⟩
        obtain ⟨o, e, d⟩ := T.obj _ _ st7 b hb
        exact (Ia.pin (b, o) (List.mem_append_right _ (List.mem_append_right _ (mem_pinsAt hb e)))).2.1
      cases c with
      | false => exact back I9 (hN0 _ _ (by simpa using q9))
      | true =>
        rw [if_pos rfl] at q9 ⊢
        refine thn (heY _ s9 σ8 H9 _ I9 q9) fun z s10 ⟨v10, H10, I10, r10, q10⟩ => ?_
        obtain ⟨xs, hx, hz, q10⟩ := hN _ _ _ q10
        have ap := mt_append (X := Y) (pins ++ pinsAt fp s7.heap) s10 σ8 H10 (.ref s2.heap.objs.size) [v10] (.ref s2.heap.objs.size) [z] (fun _ Hb => ∃ m', m' < n ∧ W (i + 1) m' σ8 Hb) I10 rfl (.cons r10 .nil) ⟨_, xs, v10, rfl, rfl, hx, hz, q10⟩
        rw [eP, eW, eA, eE] at ap
        exact thn ap fun _ s11 ⟨_, H11, I11, _, q11⟩ => back I11 q11
  have eenv : Y.env = compEnvC scope (closOf scope X.env) s3.heap.objs.size X.env := by subst hX; rfl
  rw [eenv] at loop
  exact codeAny_compStart_list loop (T.self X.A 0 _ _ _ st4 loop)
theorem pe_comp {elt tg iter : Expr} {ifs : List Expr} {pos : Pos} {wi : TI} {g : TG} {tt : TT} {te : TE} (ok : CompOk X.env.scope X.N Nc ix scope) (hc : X.calm = true) (hi : PI X tg iter wi)
    (hg : ∀ cl C s H fp, PG (cxComp X Nc scope cl C s H fp) tg g) (ht : ∀ cl C s H fp, PTs (cxComp X Nc scope cl C s H fp) ifs tt) (he : ∀ cl C s H fp, PE (cxComp X Nc scope cl C s H fp) elt te)
    (hs : ∀ x, foldedSetIterable iter X.env x = pure x := by intro _; rfl) : PE X (.ListComp elt [⟨tg, iter, ifs, 0⟩] scope pos) (tComp wi ix g tt te) := by
  intro pins s σ H Q I h
  rw [eval_ListComp]
  refine comp_run (use := none) I h (fun D C H' s' m I' f hn qq => ?_) ok hc hi hg ht he hs
  obtain ⟨f0, f1, f2, f3, f4, f5⟩ := f
  exact ⟨m, hn, fun h' sb => ⟨.ref D, H', I'.turned (t' := s'.toks) (fun b o hb e => (sb.2 b hb).trans e) f0 f1 f3 f4 f5, rfl, qq⟩⟩
/-- name = [..]: the name is stored ahead of the block's end -/
theorem ps_setComp {i : Nat} {x : Str} {elt tg iter : Expr} {ifs : List Expr} {pos spos pos' : Pos} {wi : TI} {g : TG} {tt : TT} {te : TE} (hN : X.N.Nodup) (hi : X.N[i]? = some x) (hx : X.env.kindOf x = some .local)
    (ok : CompOk X.env.scope X.N Nc ix scope) (hc : X.calm = true) (hit : PI X tg iter wi)
    (hg : ∀ cl C s H fp, PG (cxComp X Nc scope cl C s H fp) tg g) (ht : ∀ cl C s H fp, PTs (cxComp X Nc scope cl C s H fp) ifs tt) (he : ∀ cl C s H fp, PE (cxComp X Nc scope cl C s H fp) elt te)
    (hsw : swapsWith (.ListComp elt [⟨tg, iter, ifs, 0⟩] scope pos) (some (.Name x pos')) spos.line X.env = pure true := by rfl)
    (hs : ∀ x, foldedSetIterable iter X.env x = pure x := by intro _; rfl) : PS X (.Assign [.Name x pos'] (.ListComp elt [⟨tg, iter, ifs, 0⟩] scope pos) spos) (tAsg (tComp wi ix g tt te) (gName i)) := by
  intro pins s σ H D I h
  rw [exec_Assign_Name_used _ _ _ _ hsw]
  refine wpAny_bind (wpAny_standAt (wpAny_bind ?_))
  show wpAny _ X.A (do let _ ← comprehension (.ListComp elt [⟨tg, iter, ifs, 0⟩] scope pos) scope X.env _ (newList []) false (eval iter X.env) (some (assign (.Name x pos') X.env))) _ _ s
  refine wpAny_bind (thn (comp_run (use := some (assign (.Name x pos') X.env)) (QV := fun _ s' => SP X pins D .next s') I h (fun L C H' s' m I' f hn qq => ?_) ok hc hit hg ht he hs) fun _ s' q => wpAny_pure (wpAny_pure q))
  obtain ⟨f0, f1, f2, f3, f4, f5⟩ := f
  refine wpAny_assign_Name (store_ok2 (v := .ref L) I' hN hi (.inl hx) rfl (fun s2 I2 ⟨a, sb, ha⟩ => ?_) (.inr hx))
  have hCa : C ≠ a := by
    rintro rfl
    rcases ha with z | z
    · exact f1 z
    · exact f4 _ _ z rfl
  exact ⟨m, hn.sameBut sb hCa, fun h' sb' => ⟨_, H', I2.turned (t' := s2.toks) (fun b o hb e => (sb'.2 b hb).trans e) f0 f1 f3 f4 f5, qq⟩⟩
end
end L3

set_option Elab.async false
set_option linter.all false
set_option maxRecDepth 100000
set_option maxHeartbeats 4000000
namespace L3
open PySem PySem.Spec PyProof.Rows L2

section
variable {prog : Program} {w : World} {A : Around} {E : Value → Shared → Prop} {R : Result → Shared → Prop}

set_option maxHeartbeats 8000000 in
end

/-- a set of so many things stands at a -/
def SetN (a : Addr) (n : Nat) : HO := .ext fun h => ∃ o es ep t, h.get? a = some o ∧ o.ExactSet ∧ o.data = .set es ep t ∧ t.fits es.size = true ∧ es.size = n

section
variable {X : Cx}
/-- len of such a set -/
theorem call_lenS : CallR X (.builtin "len") (fun xs H Q => ∃ a n, xs = [.ref a] ∧ H a = some (SetN a n) ∧ n < 4000 ∧ Q (.int n) H) := by
  intro pins s σ H xs us Q I r h
  obtain ⟨a, n, rfl, ha, hn, q⟩ := h
  obtain ⟨u, rfl, ru⟩ := vals1 r
  obtain rfl : u = Value.ref a := ru
  obtain ⟨⟨o, es, ep, t, e1, e2, e3, e4, e5⟩, _⟩ := I.hok a _ ha
  refine call_len_set e1 e2 e3 e4 (by omega) ?_
  exact ⟨.int n, H, I.tok _, ⟨_, by rw [e5]⟩, q⟩
end
end L3

set_option Elab.async false
set_option linter.all false
set_option maxRecDepth 100000
set_option maxHeartbeats 4000000
namespace L3
open PySem PySem.Spec PyProof.Rows L2

/-! ### sorting -/
def sortI (ns : List Int) : List Int := ns.mergeSort fun a b => decide (a ≤ b)
theorem sortI_perm (ns : List Int) : (sortI ns).Perm ns := List.mergeSort_perm _ _
def leS (a b : Str) : Bool := !decide (b.cps.toList < a.cps.toList)
def sortS (ss : List Str) : List Str := ss.mergeSort leS
theorem sortS_perm (ss : List Str) : (sortS ss).Perm ss := List.mergeSort_perm _ _
theorem vals_bools : ∀ {bs : List Bool} {us : List Value}, Vals (bs.map V.bl) us → ∀ (i : Nat) v, us[i]? = some v → ∃ b, bs[i]? = some b ∧ v = .bool b
  | [], _, .nil, i, v, h => by simp at h
  | b :: r, _, .cons a c, 0, v, h => by simp at h; subst h; exact ⟨b, rfl, a⟩
  | b :: r, _, .cons a c, i + 1, v, h => by
    obtain ⟨b', e, q⟩ := vals_bools c i v (by simpa using h)
    exact ⟨b', by simpa using e, q⟩

section
variable {X : Cx}
/-- sorted, of texts or of ints -/
def rSorted (K : PySem.W.Frag) : List V → Hp → VK → Prop := fun xs H Q => (∃ (p : Addr) (ss : List Str), xs = [.ref p] ∧ SqL K H p (ss.map V.str) ∧ ss.length < 64 ∧ ∀ l, H l = none → Q (.ref l) (upd H l (.lst ((sortS ss).map V.str)))) ∨ (∃ (p : Addr) (ns : List Int), xs = [.ref p] ∧ SqL K H p (ns.map V.int) ∧ ns.length < 64 ∧ ∀ l, H l = none → Q (.ref l) (upd H l (.lst ((sortI ns).map V.int))))
/-! ### all, any of a list of truths -/
theorem range_all {bs : List Bool} : ((List.range bs.length).all fun i => (bs[i]?).getD true) = bs.all id := by
  induction bs with
  | nil => rfl
  | cons b r ih =>
    rw [List.length_cons, List.range_succ_eq_map, List.all_cons, List.all_map, List.all_cons, ← ih]
    rfl
theorem call_all (hc : X.calm = true) : CallR X (.builtin "all") (fun xs H Q => ∃ (p : Addr) (bs : List Bool), xs = [.ref p] ∧ SqL X.K H p (bs.map V.bl) ∧ Q (.bl (bs.all id)) H) := by
  intro pins s σ H xs us Q I r h
  obtain ⟨p, bs, rfl, hq, q⟩ := h
  obtain ⟨u, rfl, ru⟩ := vals1 r
  obtain rfl : u = Value.ref p := ru
  obtain ⟨its, rv, pl, hz⟩ := I.list hq
  have el := rv.length
  rw [List.length_map] at el
  have hlt : p < s.heap.objs.size := by obtain ⟨_, e, _⟩ := pl.isList; exact Heap.lt_size e
  refine call_all_walk (wpAny_pyIter_list pl.isList ?_)
  refine ⟨s.heap.objs.size, [s.heap.objs.size, p], [s.heap.objs.size], its.toArray.size, _, _, fun i => (bs[i]?).getD true, rfl, Walks.list (A := X.A.in1) (by simpa using I.ok.hd hc) _ p (Nat.ne_of_lt hlt) its.toArray,
    ⟨⟨_, Heap.get?_push_size _ rfl, rfl, rfl⟩, pl.isList.push _⟩, fun i v s' Q' E' hP hQ => ?_, fun h' tk hk => ?_⟩
  · obtain ⟨b, e, rfl⟩ := vals_bools rv i v (by simpa using hP)
    simp only [e, Option.getD_some] at hQ
    exact wpAny_truthy_bool hQ
  · rw [List.size_toArray, ← el, range_all]
    exact ⟨.bl _, H, I.kept fun b o e => hk b o (by simpa using Nat.ne_of_lt (Heap.lt_size e)) (Heap.get?_push_of_some _ e), rfl, q⟩
/-! ### range(n) as a value, list(range(n)) -/
def upTo (n : Int) : List Int := (List.range n.toNat).map fun (k : Nat) => (k : Int)
theorem vals_range {its : List Value} {n : Nat} {lo : Int} (h : ItemsOf (fun i v => ∃ t, v = .int (lo + i * 1) t) its.toArray n) : Vals ((List.range n).map fun (k : Nat) => V.int (lo + (k : Int))) its := by
  obtain ⟨h1, h2⟩ := h
  rw [List.size_toArray] at h1
  induction its generalizing n lo with
  | nil => simp at h1; subst h1; exact .nil
  | cons u r ih =>
    cases n with
    | zero => simp at h1
    | succ n =>
      rw [List.range_succ_eq_map, List.map_cons, List.map_map]
      obtain ⟨t, e⟩ := h2 0 u (by simp)
      refine .cons ⟨t, by rw [e]; simp⟩ ?_
      have := ih (n := n) (lo := lo + 1) (by simpa using h1) (fun j v hj => by
        obtain ⟨t, e⟩ := h2 (j + 1) v (by simpa using hj)
        exact ⟨t, by rw [e]; congr 1; push_cast; omega⟩)
      refine (show Vals _ r from ?_)
      have e2 : (List.range n).map (fun (k : Nat) => V.int (lo + 1 + (k : Int))) = (List.range n).map ((fun (k : Nat) => V.int (lo + (k : Int))) ∘ Nat.succ) := by
        apply List.map_congr_left
        intro k _
        simp only [Function.comp]
        congr 1
        push_cast
        omega
      rw [← e2]; exact this
theorem call_list_rng (hc : X.calm = true) : CallR X (.type "list") (fun xs H Q => ∃ (p : Addr) (j : Int), xs = [.ref p] ∧ H p = some (.rng 0 j) ∧ 0 ≤ j ∧ j ≤ 1000000 ∧ ∀ l, H l = none → Q (.ref l) (upd H l (.lst ((upTo j).map V.int)))) := by
  intro pins s σ H xs us Q I r h
  obtain ⟨p, j, rfl, hp, h0, h1, q⟩ := h
  obtain ⟨u, rfl, ru⟩ := vals1 r
  obtain rfl : u = Value.ref p := ru
  obtain ⟨t, u, v, e⟩ := I.hok p _ hp
  refine call_list_range (a := 0) (b := j) (c := 1) (n := j.toNat) (I.ok.hd hc) e (small_one (by omega) (by omega) (by omega) (by omega)) (by rw [rangeSize_one]; split <;> omega) (by omega) fun h' tk acc c' hk he hi => ?_
  have hv : Vals ((upTo j).map V.int) acc.toList := by
    have := vals_range (its := acc.toList) (n := j.toNat) (lo := 0) (by simpa using hi)
    unfold upTo
    rw [List.map_map]
    have e2 : (List.range j.toNat).map (fun (k : Nat) => V.int (0 + (k : Int))) = (List.range j.toNat).map (V.int ∘ fun (k : Nat) => (k : Int)) := by
      apply List.map_congr_left
      intro k _
      simp
    rw [← e2]; exact this
  have hz : ((upTo j).map V.int).length ≤ sizeLine := by unfold upTo; rw [List.length_map, List.length_map, List.length_range, sizeLine_eq]; omega
  exact ⟨.ref s.heap.objs.size, _, I.laid (o := .lst ((upTo j).map V.int)) hk (Nat.le_refl _) ⟨hz, acc.toList, c', hv, by simpa using he⟩, rfl, q _ (I.hok.fresh (Nat.le_refl _))⟩

/-! ### xs[::-1] -/
def tRev (K : PySem.W.Frag) (te : TE) (ts : TO) : TE := fun σ H Q => te σ H fun x H1 => ts σ H1 fun k H2 => ∃ a xs, x = .ref a ∧ k = some (-1) ∧ SqL K H2 a xs ∧ ∀ p, H2 p = none → Q (.ref p) (upd H2 p (.lst xs.reverse))
theorem pe_rev {e st : Expr} {te : TE} {ts : TO} {pos p2 : Pos} (he : PE X e te) (hs : PO X (some st) ts) : PE X (.Subscript e (.Slice none none (some st) p2) pos) (tRev X.K te ts) := by
  intro pins s σ H Q I h
  refine Subscript_ (thn (he pins s σ H _ I h) fun v s1 ⟨x, H1, I1, r1, q1⟩ => ?_)
  refine wpAny_Slice ?_
  rw [evalPart_none]
  refine wpAny_pure (wpAny_pure (thn (hs pins s1 σ H1 _ I1 q1) fun vk s3 ⟨k, H3, I3, pk, q3⟩ => ?_))
  obtain ⟨a, xs, rfl, rfl, hq, q⟩ := q3
  obtain rfl : v = Value.ref a := r1
  obtain ⟨its, r, ht, hz⟩ := I3.list hq
  have hlen := r.length
  have I4 : Inv X pins σ H3 { s3 with heap := s3.heap.push { cls := .type "slice", data := .fields #[.none, .none, vk] } } := I3.kept (t' := s3.toks) fun b ob q => Heap.get?_push_of_some _ q
  obtain ⟨its4, r4, ht4, hz4⟩ := I4.list hq
  have hlen4 := r4.length
  show wpAny (model X.prog X.w) X.A (subscriptTail e (.Slice none none (some st) p2) (.ref a) (.ref s3.heap.objs.size)) (EP X pins σ Q) X.xe { s3 with heap := s3.heap.push { cls := .type "slice", data := .fields #[.none, .none, vk] } }
  refine tail_any (ops := [.ref a, .ref s3.heap.objs.size]) ht4.isList.typeIs slot_list_getitem.lookup ?_ (by with_unfolding_all rfl)
  refine wpAny_getItem_list_slice ht4.isList (Heap.IsSliceOf.new ..) .none .none pk (by simp) ?_ (by rw [List.size_toArray] <;> omega)
  rw [PySem.W.krv_pick]
  refine ⟨.ref _, _, I4.laid (t' := s3.toks) (o := .lst xs.reverse) (fun b ob q => Heap.get?_push_of_some _ q) (Nat.le_refl _) ?_, rfl, q _ (I4.hok.fresh (Nat.le_refl _))⟩
  exact ⟨by rw [List.length_reverse]; exact hz, its4.reverse, 0, r4.reverse, Heap.get?_push_size _ rfl⟩
end

/-! ### == of things within things -/
mutual
inductive Dp (K : PySem.W.Frag) (H : Hp) : V → PyData → Prop
  | non : Dp K H .non .none
  | bl (b) : Dp K H (.bl b) (.bool b)
  | int (i) : Dp K H (.int i) (.int i)
  | str (x) : Dp K H (.str x) (.str x)
  | lst {a xs ds} : SqL K H a xs → DpAll K H xs ds → Dp K H (.ref a) (.list ds)
  | tup {a xs ds} : SqT K H a xs → DpAll K H xs ds → Dp K H (.ref a) (.tuple ds)
inductive DpAll (K : PySem.W.Frag) (H : Hp) : List V → List PyData → Prop
  | nil : DpAll K H [] []
  | cons {v d vs ds} : Dp K H v d → DpAll K H vs ds → DpAll K H (v :: vs) (d :: ds)
end
section
variable {X : Cx} {pins : List (Addr × Obj)} {σ : St} {H : Hp} {s : Shared}
mutual
theorem Dp.reads (I : Inv X pins σ H s) : ∀ {v : V} {d : PyData} {u : Value}, Dp X.K H v d → RelV v u → ∃ as, Reads s.heap u d as
  | _, _, u, .non, r => by cases (show u = Value.none from r); exact ⟨_, .none⟩
  | _, _, u, .bl b, r => by cases (show u = Value.bool b from r); exact ⟨_, .bool b⟩
  | _, _, u, .int i, r => by obtain ⟨t, e⟩ := (show ∃ t, u = Value.int i t from r); cases e; exact ⟨_, .int i t⟩
  | _, _, u, .str x, r => by obtain ⟨t, e⟩ := (show ∃ t, u = Value.str x t from r); cases e; exact ⟨_, .str x t⟩
  | _, _, u, .lst (a := a) h hs, r => by
    cases (show u = Value.ref a from r)
    obtain ⟨its, rv, pl, _⟩ := I.list h
    obtain ⟨o, ho, hc, n, hd⟩ := pl.isList
    obtain ⟨as, q⟩ := DpAll.reads I hs rv
    exact ⟨_, .list ho hc hd (by simpa using q)⟩
  | _, _, u, .tup (a := a) h hs, r => by
    cases (show u = Value.ref a from r)
    obtain ⟨its, rv, ⟨o, ho, hc, n, hd⟩, _⟩ := I.tuple h
    obtain ⟨as, q⟩ := DpAll.reads I hs rv
    exact ⟨_, .tuple ho hc hd (by simpa using q)⟩
theorem DpAll.reads (I : Inv X pins σ H s) : ∀ {vs : List V} {ds : List PyData} {us : List Value}, DpAll X.K H vs ds → Vals vs us → ∃ as, ReadsAll s.heap us ds as
  | _, _, _, .nil, .nil => ⟨_, .nil⟩
  | _, _, _, .cons h hs, .cons r rs => by
    obtain ⟨as, a⟩ := h.reads I r
    obtain ⟨bs, b⟩ := hs.reads I rs
    exact ⟨_, .cons a b⟩
end
def rEqD (K : PySem.W.Frag) (neg : Bool) : R2 := fun x y H Q => ∃ d e, Dp K H x d ∧ Dp K H y e ∧ d.canLay0 = true ∧ e.canLay0 = true ∧ d.depth ≤ 60 ∧ Q (.bl (if neg then !PyData.eqv d e else PyData.eqv d e)) H
theorem op_eqD (hu : X.A.units + 64 < cLine) : OpR X (compareOp .Eq) (rEqD X.K false) := by
  intro pins s σ H x y u v Q I rx ry h
  obtain ⟨d, e, hx, hy, c1, c2, dp, q⟩ := h
  obtain ⟨as, a⟩ := hx.reads I rx
  obtain ⟨bs, b⟩ := hy.reads I ry
  exact SeqAt.compareEq_reads a b c1 c2 (by omega) ⟨.bl _, H, I, rfl, q⟩
/-! ### isinstance(x, T), T built in -/
def rIsi (K : PySem.W.Frag) (T : String) : List V → Hp → VK → Prop := fun xs H Q => ∃ x t b, xs = [x, .ty T] ∧ TyOf K H x t ∧ PySem.W.kitOne K t (.type T) = some b ∧ Q (.bl b) H
theorem call_isi (T : String) : CallR X (.builtin "isinstance") (rIsi X.K T) := by
  intro pins s σ H xs us Q I r h
  obtain ⟨x, t, b, rfl, ht, hk, q⟩ := h
  obtain ⟨u, v, rfl, ru, rv⟩ := vals2 r
  obtain rfl : v = Value.type T := rv
  exact isinst_ok I ru ht hk fun tk => ⟨.bl b, H, I.tok _, rfl, q⟩
end
example (K : PySem.W.Frag) : PySem.W.kitOne K (.type "int") (.type "list") = some false := by rfl
example (K : PySem.W.Frag) : PySem.W.kitOne K (.type "bool") (.type "int") = some true := by rfl
end L3

set_option Elab.async false
set_option linter.all false
set_option maxRecDepth 100000
set_option maxHeartbeats 4000000
namespace L3
open PySem PySem.Spec PyProof.Rows L2

section
variable {X : Cx} {pins : List (Addr × Obj)} {σ : St} {H : Hp} {s : Shared} {h' : Heap}
end

/-- enumerate of the list at a: a new pair each turn -/
def Ite (K : PySem.W.Frag) (a : Addr) : It :=
  ⟨fun i H => ∃ xs x, SqL K H a xs ∧ xs[i]? = some x, fun i H x H' => ∃ p v, x = .ref p ∧ H p = none ∧ H' = upd H p (.tup [.int i, v]) ∧ ∀ xs, SqL K H a xs → xs[i]? = some v, fun i H => ∃ xs, SqL K H a xs ∧ xs.length ≤ i⟩
section
variable {X : Cx}
def iEnum (K : PySem.W.Frag) (ta : TA) : TI := fun σ H R => ta σ H fun vs H1 => ∃ a xs, vs = [.ref a] ∧ Rd H1 a (.lst xs) ∧ R (Ite K a) H1
end
end L3

set_option Elab.async false
set_option linter.all false
set_option maxRecDepth 100000
set_option maxHeartbeats 4000000
namespace L3
open PySem PySem.Spec PyProof.Rows L2

/-! ### heaps: what is new -/
def New (H H' : Hp) : Hp := fun b => if (H b).isSome = true then none else H' b
def hide (D : Addr) (H : Hp) : Hp := fun b => if b = D then none else H b
theorem New.of {H H' : Hp} {b : Addr} {o : HO} (h : New H H' b = some o) : H b = none ∧ H' b = some o := by
  unfold New at h
  split at h
  · cases h
  · rename_i q
    refine ⟨?_, h⟩
    cases e : H b with
    | none => rfl
    | some u => rw [e] at q; exact absurd rfl q
theorem New.mk {H H' : Hp} {b : Addr} {o : HO} (h : H b = none) (h' : H' b = some o) : New H H' b = some o := by
  unfold New
  rw [h]
  exact h'
theorem New.sub {H H' : Hp} : Same (New H H') H' := fun _ _ h => (New.of h).2
theorem New.mono {H H1 H2 H3 : Hp} (a : Same H H1) (b : Same H2 H3) : Same (New H1 H2) (New H H3) := fun c o h =>
  let ⟨h1, h2⟩ := New.of h
  New.mk (a.free h1) (b c o h2)
theorem same_upd {H : Hp} {p : Addr} {o : HO} (h : H p = none) : Same H (upd H p o) := fun b u e => by rw [upd_ne (ne_of_none e h)]; exact e
theorem hide_sub {D : Addr} {H : Hp} : Same (hide D H) H := fun b o h => by
  unfold hide at h
  split at h
  · cases h
  · exact h
theorem hide_some {D b : Addr} {H : Hp} {o : HO} (h : hide D H b = some o) : b ≠ D ∧ H b = some o := by
  unfold hide at h
  split at h
  · cases h
  · rename_i q; exact ⟨q, h⟩
theorem hide_mk {D b : Addr} {H : Hp} {o : HO} (n : b ≠ D) (h : H b = some o) : hide D H b = some o := by
  unfold hide
  rw [if_neg n]; exact h
/-- all but one address -/
def SameX (D : Addr) (H H' : Hp) : Prop := ∀ b o, b ≠ D → H b = some o → H' b = some o
theorem Same.x {D : Addr} {H H' : Hp} (h : Same H H') : SameX D H H' := fun b o _ e => h b o e
theorem SameX.refl {D : Addr} (H : Hp) : SameX D H H := fun _ _ _ e => e
theorem SameX.trans {D : Addr} {H H1 H2 : Hp} (a : SameX D H H1) (b : SameX D H1 H2) : SameX D H H2 := fun c o n e => b c o n (a c o n e)
theorem SameX.upd {D : Addr} {H H' : Hp} {o : HO} (a : SameX D H H') : SameX D H (upd H' D o) := fun c u n e => by rw [upd_ne n]; exact a c u n e
theorem SameX.same {D : Addr} {H H' : Hp} (a : SameX D H H') (h : H D = none) : Same H H' := fun c u e => a c u (ne_of_none e h) e
theorem Same.seqT {K : PySem.W.Frag} {H H' : Hp} {a : Addr} {xs : List V} (e : Same H H') (h : SqT K H a xs) : SqT K H' a xs := by
  rcases h with (h | ⟨o, h⟩) | h
  · exact .inl (.inl (e _ _ h))
  · exact .inl (.inr ⟨o, e _ _ h⟩)
  · exact .inr h

/-! ### a comprehension's reading -/
theorem comp_gen {J : It} {n : Nat} {D : Addr} {g : TG} {tt : TT} {te : TE} {σ0 : St} {H0 : Hp} {Q : VK} (Pv : Nat → St → Hp → Prop) (h0 : Pv 0 σ0 (upd H0 D (.lst [])))
    (hgo : ∀ i σ H, i < n → Pv i σ H → J.go i H) (hst : ∀ σ H, Pv n σ H → J.stop n H)
    (hs : ∀ i x σ H H2, i < n → Pv i σ H → J.yld i H x H2 → ∀ (N : V → St → Hp → Prop) (N0 : St → Hp → Prop), (∀ v σ2 H5 ys, H5 D = some (.lst ys) → ys.length < sizeLine → Pv (i + 1) σ2 (upd H5 D (.lst (ys ++ [v]))) → N v σ2 H5) → (∀ σ2 H4, Pv (i + 1) σ2 H4 → N0 σ2 H4) →
      g x σ H2 fun σ2 H3 => tt σ2 H3 fun c H4 => if c = true then te σ2 H4 fun v H5 => N v σ2 H5 else N0 σ2 H4)
    (hd : ∀ σ H, Pv n σ H → Q (.ref D) H) :
    CompW J D g tt te σ0 H0 Q := by
  refine ⟨fun i m σ H => m = n - i ∧ i ≤ n ∧ Pv i σ H, ⟨n, by simp, Nat.zero_le _, h0⟩, ?_⟩
  rintro i m σ H ⟨rfl, hi, p⟩
  by_cases hlt : i < n
  · refine .inr ⟨hgo i σ H hlt p, fun v σ2 H5 => ∃ ys, H5 D = some (.lst ys) ∧ ys.length < sizeLine ∧ Pv (i + 1) σ2 (upd H5 D (.lst (ys ++ [v]))), fun σ2 H4 => Pv (i + 1) σ2 H4, ?_, ?_, ?_⟩
    · rintro v σ2 H5 ⟨ys, a, b, c⟩
      exact ⟨ys, a, b, n - (i + 1), by omega, rfl, hlt, c⟩
    · intro σ2 H4 q
      exact ⟨n - (i + 1), by omega, rfl, hlt, q⟩
    · intro x H2 y
      exact hs i x σ H H2 hlt p y _ _ (fun v σ2 H5 ys a b c => ⟨ys, a, b, c⟩) fun _ _ q => q
  · have e : i = n := by omega
    subst e
    exact .inl ⟨hst σ H p, hd σ H p⟩

/-- [f(x) for x in xs]: what each element is, by the heap that is new at its turn -/
theorem comp_map {K : PySem.W.Frag} {a D : Addr} {xs : List V} {te : TE} {τ : St} {H0 : Hp} {Q : VK} (hD : H0 D = none) (hq : SqL K H0 a xs) (hz : xs.length ≤ sizeLine) (R : Nat → V → Hp → Prop) (mono : ∀ i v H H', Same H H' → R i v H → R i v H')
    (step : ∀ i x H (N : V → Hp → Prop), xs[i]? = some x → Same H0 H → (∀ v H4, Same H H4 → R i v (New H H4) → N v H4) → te (some x :: τ) H N)
    (fin : ∀ H' ys, H' D = some (.lst ys) → Same H0 H' → ys.length = xs.length → (∀ i v, ys[i]? = some v → R i v (New H0 H')) → Q (.ref D) H') :
    CompW (Itl K a) D (gName 0) tTrue te (none :: τ) H0 Q := by
  refine comp_gen (n := xs.length) (fun i σ H => ∃ z ys, σ = z :: τ ∧ H D = some (.lst ys) ∧ ys.length = i ∧ Same H0 H ∧ ∀ j v, ys[j]? = some v → R j v (hide D (New H0 H))) ?_ ?_ ?_ ?_ ?_
  · exact ⟨none, [], rfl, upd_same, rfl, same_upd hD, fun j v e => by simp at e⟩
  · rintro i σ H hi ⟨z, ys, rfl, _, _, s, _⟩
    exact ⟨xs, xs[i], s.seq hq, by simp [hi]⟩
  · rintro σ H ⟨z, ys, rfl, _, _, s, _⟩
    exact ⟨xs, s.seq hq, Nat.le_refl _⟩
  · rintro i x σ H H2 hi ⟨z, ys, rfl, hy, hl, s, r⟩ ⟨rfl, hx⟩ N N0 hN hN0
    show te (some x :: τ) H2 _
    refine step i x H2 _ (hx xs (s.seq hq)) s fun v H4 s4 r4 => ?_
    refine hN v _ H4 ys (s4 _ _ hy) (by omega) ⟨some x, ys ++ [v], rfl, upd_same, by rw [List.length_append, List.length_singleton, hl], ?_, ?_⟩
    · exact (SameX.upd (Same.x (s.trans s4))).same hD
    · intro j w e
      by_cases hj : j < ys.length
      · rw [List.getElem?_append_left hj] at e
        refine mono j w _ _ ?_ (r j w e)
        intro b o hb
        obtain ⟨nb, hb⟩ := hide_some hb
        obtain ⟨h1, h2⟩ := New.of hb
        exact hide_mk nb (New.mk h1 (by rw [upd_ne nb]; exact s4 _ _ h2))
      · have ej : j = ys.length := by
          have := (List.getElem?_eq_some_iff.mp e).1
          rw [List.length_append, List.length_singleton] at this
          omega
        subst ej
        simp at e
        subst e
        rw [hl]
        refine mono i v _ _ ?_ r4
        intro b o hb
        obtain ⟨h1, h2⟩ := New.of hb
        have nb : b ≠ D := fun z => by subst z; rw [hy] at h1; cases h1
        exact hide_mk nb (New.mk (s.free h1) (by rw [upd_ne nb]; exact h2))
  · rintro σ H ⟨z, ys, rfl, hy, hl, s, r⟩
    exact fin H ys hy s hl fun i v e => mono i v _ _ hide_sub (r i v e)

/-! ### rules for a kind that is not known ahead -/
section
variable {X : Cx}
def rLen (K : PySem.W.Frag) : List V → Hp → VK → Prop := fun xs H Q => (∃ p ys, xs = [.ref p] ∧ (SqL K H p ys ∨ SqT K H p ys) ∧ Q (.int ys.length) H) ∨ ((∃ z, xs = [.str z] ∧ z.length ≤ sizeLine ∧ Q (.int z.length) H) ∨ ∃ a n, xs = [.ref a] ∧ H a = some (SetN a n) ∧ n < 4000 ∧ Q (.int n) H)
theorem call_lenA : CallR X (.builtin "len") (rLen X.K) := call_len_seq.or (call_len_str.or call_lenS)
def rListA (K : PySem.W.Frag) : List V → Hp → VK → Prop := fun xs H Q => (∃ p ys, xs = [.ref p] ∧ (SqL K H p ys ∨ SqT K H p ys) ∧ ∀ l, H l = none → Q (.ref l) (upd H l (.lst ys))) ∨ (∃ (p : Addr) (j : Int), xs = [.ref p] ∧ H p = some (.rng 0 j) ∧ 0 ≤ j ∧ j ≤ 1000000 ∧ ∀ l, H l = none → Q (.ref l) (upd H l (.lst ((upTo j).map V.int))))
theorem call_listA (hc : X.calm = true) : CallR X (.type "list") (rListA X.K) := call_list_of.or (call_list_rng hc)
/-- a global constant, a global that is a class or the like -/
theorem pe_gc {x : Str} {v : V} {pos : Pos} (hg : Gl X x) (h : ∃ u, X.mg x = some u ∧ RelV v u) (hd : (x == ("__debug__" : Str)) = false := by decide) : PE X (.Name x pos) (tC v) := by
  obtain ⟨u, hm, r⟩ := h
  exact pe_glob hg hm r hd
end
def compChk (sc : Scope) (N Nc : List Str) (ix : List (Option Nat)) (scope : Scope) : Bool :=
  decide (scope.kind = .function) && scope.names.all (fun y => decide (y.2 ≠ .cell)) && scope.names.all (fun y => decide (y.2 = .local → scope.names.lookup y.1 = some .local)) &&
  scope.names.all (fun y => decide (y.2 = .free → sc.names.lookup y.1 = some .cell ∨ sc.names.lookup y.1 = some .free)) && decide (ix.length = Nc.length) &&
  (ix.zip Nc).all fun p => match p.1 with | none => true | some j => N[j]? == some p.2 && scope.names.lookup p.2 == some .free
theorem CompOk.of {sc : Scope} {N Nc : List Str} {ix : List (Option Nat)} {scope : Scope} (h : compChk sc N Nc ix scope = true) : CompOk sc N Nc ix scope := by
  unfold compChk at h
  simp only [Bool.and_eq_true] at h
  obtain ⟨⟨⟨⟨⟨h1, h2⟩, h3⟩, h4⟩, h5⟩, h6⟩ := h
  exact ⟨of_decide_eq_true h1, fun y hy => of_decide_eq_true (List.all_eq_true.mp h2 y hy), fun y hy => of_decide_eq_true (List.all_eq_true.mp h3 y hy), fun y hy => of_decide_eq_true (List.all_eq_true.mp h4 y hy), of_decide_eq_true h5, h6⟩

/-! ### over the signs of a text -/
def Its (x : Str) : It := ⟨fun i _ => i < x.cps.size, fun i H v H' => H' = H ∧ ∃ c, x.cps[i]? = some c ∧ v = .str ⟨#[c]⟩, fun i _ => x.cps.size ≤ i⟩
theorem turn_str {P : Program} {w : World} {K : PySem.W.Frag} {tg : Expr} {it : Addr} {x : Str} {t : Tok} {ty : String}
    (hty : ["enumerate", "zip", "dict_itemiterator", "dict_reverseitemiterator", "odict_iterator", "itertools.zip_longest", "itertools.pairwise"].contains ty = false)
    (W : ∀ A' : Around, A'.handled = none → Walks P w A' it [it] [it] x.cps.size (SignAt x) (fun i h => h.IsStrIter it ty x t i))
    (self : ∀ (A : Around) (i : Nat) (s : Shared) (Q : Value → Shared → Prop) (E : Value → Shared → Prop), s.heap.IsStrIter it ty x t i → Q (.ref it) s → wpAny (model P w) A (pyIter (.ref it)) Q E s) :
    Turn P w K tg (Its x) [it] it (fun i h => i ≤ x.cps.size ∧ h.IsStrIter it ty x t i) where
  mem := by simp
  obj := fun i h st b hb => by
    have e : b = it := by simpa using hb
    subst e
    obtain ⟨_, o, e, c, d⟩ := st
    exact ⟨o, e, fun v z => by rw [d] at z; cases z⟩
  keep := fun i h h' st k => by
    obtain ⟨l, o, e, c, d⟩ := st
    exact ⟨l, o, k it (by simp) o e, c, d⟩
  item := by
    intro X hP hw hK hc i pins s σ H E I hf st hg
    subst hP hw hK
    obtain ⟨f0, f1, f2, f3, f4, f5⟩ := hf it (by simp)
    refine (W X.A (I.ok.hd hc)).item i s _ _ hg st.2 fun v h' tk hv st' kk => ?_
    obtain ⟨c, u, hcx, rfl⟩ := hv
    have I1 : L2.Inv X pins σ H { s with heap := h', toks := tk } := I.turned (fun b o hb e => kk b o (by simpa using hb) e) f0 f1 f3 f4 f5
    obtain ⟨o, e, oc, od⟩ := id st'
    exact ⟨_, rfl, go_of (s := { s with heap := h', toks := tk }) e oc od hty ⟨.str ⟨#[c]⟩, H, I1, ⟨u, rfl⟩, ⟨rfl, c, hcx, rfl⟩, ⟨hg, st'⟩, fun b hb => (hf b hb).1⟩⟩
  done := by
    intro X hP hw hK hc i pins s σ H E I hf st hg
    subst hP hw hK
    obtain ⟨f0, f1, f2, f3, f4, f5⟩ := hf it (by simp)
    have e : i = x.cps.size := Nat.le_antisymm st.1 hg
    subst e
    exact (W X.A (I.ok.hd hc)).done s _ _ st.2 fun h' tk kk => ⟨rfl, I.turned (fun b o hb e => kk b o (by simpa using hb) e) f0 f1 f3 f4 f5⟩
  self := fun A i s Q E st h => self A i s Q E st.2 h
section
variable {X : Cx} {tg : Expr}
def iStr (tl : TE) : TI := fun σ H R => tl σ H fun v H1 => ∃ x, v = .str x ∧ R (Its x) H1
theorem pi_str {l : Expr} {tl : TE} (hl : PE X l tl) : PI X tg l (iStr tl) := by
  intro pins s σ H R I h
  refine thn (hl pins s σ H _ I h) fun v s1 ⟨y, H1, I1, r1, x, e, q⟩ => ?_
  subst e
  obtain ⟨t, rfl⟩ := (show ∃ t, v = Value.str x t from r1)
  have fin : ∀ (ty : String), ["enumerate", "zip", "dict_itemiterator", "dict_reverseitemiterator", "odict_iterator", "itertools.zip_longest", "itertools.pairwise"].contains ty = false →
      (∀ A' : Around, A'.handled = none → Walks X.prog X.w A' s1.heap.objs.size [s1.heap.objs.size] [s1.heap.objs.size] x.cps.size (SignAt x) (fun i h => h.IsStrIter s1.heap.objs.size ty x t i)) →
      (∀ (A : Around) (i : Nat) (s : Shared) (Q : Value → Shared → Prop) (E : Value → Shared → Prop), s.heap.IsStrIter s1.heap.objs.size ty x t i → Q (.ref s1.heap.objs.size) s → wpAny (model X.prog X.w) A (pyIter (.ref s1.heap.objs.size)) Q E s) →
      PIE X pins σ tg R (.ref s1.heap.objs.size) { s1 with heap := s1.heap.push { cls := .type ty, data := .fields #[.str x t, .int 0 0] } } := fun ty h1 h2 h3 => by
    refine ⟨s1.heap.objs.size, [s1.heap.objs.size], _, _, H1, rfl, I1.kept (t' := s1.toks) fun b o e => Heap.get?_push_of_some _ e, turn_str h1 h2 h3, ⟨Nat.zero_le _, _, Heap.get?_push_size _ rfl, rfl, rfl⟩, fun b hb => ?_, q⟩
    have e : b = s1.heap.objs.size := by simpa using hb
    subst e
    exact I1.fpOk (Nat.le_refl _) (I1.hok.fresh (Nat.le_refl _))
  cases ha : x.cps.all (· < 128)
  · exact wpAny_pyIter_wide ha (fin "str_iterator" (by decide) (fun A' hA => Walks.strWide hA _ x t) fun _ _ _ _ _ st h => wpAny_pyIter_striter_wide st h)
  · exact wpAny_pyIter_ascii ha (fin "str_ascii_iterator" (by decide) (fun A' hA => Walks.strAscii hA _ x t) fun _ _ _ _ _ st h => wpAny_pyIter_striter_ascii st h)
end

/-! ### the same rules, the module's part named apart -/
section
variable {X : Cx} {K : PySem.W.Frag}
theorem call_lenK (hK : X.K = K) : CallR X (.builtin "len") (rLen K) := by subst hK; exact call_lenA
def rAll (K : PySem.W.Frag) : List V → Hp → VK → Prop := fun xs H Q => ∃ (p : Addr) (bs : List Bool), xs = [.ref p] ∧ SqL K H p (bs.map V.bl) ∧ Q (.bl (bs.all id)) H
def rAny (K : PySem.W.Frag) : List V → Hp → VK → Prop := fun xs H Q => ∃ (p : Addr) (bs : List Bool), xs = [.ref p] ∧ SqL K H p (bs.map V.bl) ∧ Q (.bl (bs.any id)) H
theorem call_allK (hK : X.K = K) (hc : X.calm = true) : CallR X (.builtin "all") (rAll K) := by subst hK; exact call_all hc
theorem call_listK (hK : X.K = K) (hc : X.calm = true) : CallR X (.type "list") (rListA K) := by subst hK; exact call_listA hc
def rTupleA (K : PySem.W.Frag) : List V → Hp → VK → Prop := fun xs H Q => ∃ p ys, xs = [.ref p] ∧ ((SqL K H p ys ∧ ∀ l, H l = none → Q (.ref l) (upd H l (.tup ys))) ∨ (SqT K H p ys ∧ Q (.ref p) H))
theorem call_tupleK (hK : X.K = K) : CallR X (.type "tuple") (rTupleA K) := by subst hK; exact call_tuple_of
def rSetA (K : PySem.W.Frag) : List V → Hp → VK → Prop := fun xs H Q => ∃ (p : Addr) (ks : List Key), xs = [.ref p] ∧ SqL K H p (ks.map kV) ∧ ks.length < 4000 ∧ ∀ n a, n ≤ ks.length → (n = ks.length ↔ ks.Nodup) → H a = none → Q (.ref a) (upd H a (SetN a n))
theorem call_isiK (hK : X.K = K) (T : String) : CallR X (.builtin "isinstance") (rIsi K T) := by subst hK; exact call_isi T
theorem ix_listK (hK : X.K = K) : IxR X (rIxL K) := by subst hK; exact ix_list
theorem ix_tupK (hK : X.K = K) : IxR X (rIxT K) := by subst hK; exact ix_tup
theorem sl_listK (hK : X.K = K) : SlR X (rSlL K) := by subst hK; exact sl_list
theorem op_inK (hK : X.K = K) : OpR X (compareOp .In) (rIn K false) := by subst hK; exact op_in_seq
theorem op_eqDK (hK : X.K = K) (hu : X.A.units + 64 < cLine) : OpR X (compareOp .Eq) (rEqD K false) := by subst hK; exact op_eqD hu
theorem pi_listK {tg l : Expr} {tl : TE} (hK : X.K = K) (hl : PE X l tl) : PI X tg l (iList K tl) := by subst hK; exact pi_list hl
theorem pe_fldK {e : Expr} {f : Str} {pos : Pos} {ta : TE} (hK : X.K = K) (he : PE X e ta) (hb : attributeBase e f X.env (eval e X.env) = eval e X.env) : PE X (.Attribute e f pos) (tFld K ta f) := by subst hK; exact pe_fld he hb
theorem pe_revK {e st : Expr} {te : TE} {ts : TO} {pos p2 : Pos} (hK : X.K = K) (he : PE X e te) (hs : PO X (some st) ts) : PE X (.Subscript e (.Slice none none (some st) p2) pos) (tRev K te ts) := by subst hK; exact pe_rev he hs
end
end L3

set_option Elab.async false
set_option linter.all false
set_option maxRecDepth 100000
set_option maxHeartbeats 4000000
namespace L3
open PySem PySem.Spec L2

/-- a thing of which isinstance is known -/
inductive Kd (H : Hp) : V → Prop
  | non : Kd H .non
  | bl (b : Bool) : Kd H (.bl b)
  | int (i : Int) : Kd H (.int i)
  | str (z : Str) (hz : z.length ≤ 1000) : Kd H (.str z)
  | lst {a : Addr} {xs : List V} (e : H a = some (.lst xs)) : Kd H (.ref a)
  | tup {a : Addr} {xs : List V} (e : H a = some (.tup xs)) : Kd H (.ref a)
  | dK {a : Addr} {kvs : List (Key × V)} (e : H a = some (.dK kvs)) : Kd H (.ref a)
theorem Kd.mono {H H' : Hp} {x : V} (s : Same H H') (h : Kd H x) : Kd H' x := by
  cases h with
  | non => exact .non
  | bl b => exact .bl b
  | int i => exact .int i
  | str z hz => exact .str z hz
  | lst e => exact .lst (s _ _ e)
  | tup e => exact .tup (s _ _ e)
  | dK e => exact .dK (s _ _ e)
def isTy (H : Hp) (T : String) : V → Bool
  | .bl _ => T == "bool" || T == "int"
  | .int _ => T == "int"
  | .str _ => T == "str"
  | .ref a => match H a with
    | some (.lst _) => T == "list"
    | some (.tup _) => T == "tuple"
    | some (.dK _) => T == "dict"
    | _ => false
  | _ => false
theorem isi_rd {K : PySem.W.Frag} {T : String} {x : V} {H : Hp} {Q : VK} (hT : T = "int" ∨ T = "bool" ∨ T = "str" ∨ T = "list" ∨ T = "tuple") (h : Kd H x) (q : Q (.bl (isTy H T x)) H) : rIsi K T [x, .ty T] H Q := by
  rcases hT with rfl | rfl | rfl | rfl | rfl
  all_goals
    cases h with
    | non => exact ⟨_, _, _, rfl, .non, rfl, q⟩
    | bl b => exact ⟨_, _, _, rfl, .bl b, rfl, q⟩
    | int i => exact ⟨_, _, _, rfl, .int i, rfl, q⟩
    | str z hz => exact ⟨_, _, _, rfl, .str z, rfl, q⟩
    | lst e => first | exact ⟨_, _, false, rfl, .lst e, rfl, by simpa [isTy, e] using q⟩ | exact ⟨_, _, true, rfl, .lst e, rfl, by simpa [isTy, e] using q⟩
    | tup e => first | exact ⟨_, _, false, rfl, .tup e, rfl, by simpa [isTy, e] using q⟩ | exact ⟨_, _, true, rfl, .tup e, rfl, by simpa [isTy, e] using q⟩
    | dK e => first | exact ⟨_, _, false, rfl, .dK e, rfl, by simpa [isTy, e] using q⟩ | exact ⟨_, _, true, rfl, .dK e, rfl, by simpa [isTy, e] using q⟩

def isLow (c : Nat) : Bool := decide (97 ≤ c ∧ c ≤ 122)
def isNameS (z : Str) : Bool := decide (1 ≤ z.length) && decide (z.length ≤ 8) && z.cps.toList.all isLow
def isNameV : V → Bool
  | .str z => isNameS z
  | _ => false
def isIntV : V → Bool
  | .int _ => true
  | _ => false
def isRoomV (n : Int) : V → Bool
  | .int i => decide (0 ≤ i) && decide (i < n)
  | _ => false
def lstOf (H : Hp) : V → Option (List V)
  | .ref a => match H a with
    | some (.lst xs) => some xs
    | _ => none
  | _ => none
theorem lstOf_ref {H : Hp} {a : Addr} {xs : List V} (h : H a = some (.lst xs)) : lstOf H (.ref a) = some xs := by simp [lstOf, h]
theorem lstOf_same {H H' : Hp} {x : V} (s : Same H H') (k : Kd H x) : lstOf H' x = lstOf H x := by
  cases k with
  | non => rfl
  | bl b => rfl
  | int i => rfl
  | str z hz => rfl
  | lst e => rw [lstOf_ref e, lstOf_ref (s _ _ e)]
  | tup e => simp [lstOf, e, s _ _ e]
  | dK e => simp [lstOf, e, s _ _ e]
def areNames (H : Hp) (x : V) : Bool := match lstOf H x with
  | some xs => xs.all isNameV && decide xs.Nodup
  | none => false
def areRooms (H : Hp) (n : Int) (x : V) : Bool := match lstOf H x with
  | some xs => xs.all (isRoomV n)
  | none => false
def someRooms (H : Hp) (n : Int) (x : V) : Bool := match lstOf H x with
  | some xs => xs.all (isRoomV n) && !xs.isEmpty && decide xs.Nodup
  | none => false
def KdL (H : Hp) (x : V) : Prop := Kd H x ∧ ∀ xs, lstOf H x = some xs → xs.length ≤ 1000 ∧ ∀ y ∈ xs, Kd H y
def KdLL (H : Hp) (x : V) : Prop := Kd H x ∧ ∀ xs, lstOf H x = some xs → xs.length ≤ 1000 ∧ ∀ y ∈ xs, KdL H y
theorem KdL.mono {H H' : Hp} {x : V} (s : Same H H') (h : KdL H x) : KdL H' x :=
  ⟨h.1.mono s, fun xs e => by
    rw [lstOf_same s h.1] at e
    exact ⟨(h.2 xs e).1, fun y hy => ((h.2 xs e).2 y hy).mono s⟩⟩
theorem KdLL.mono {H H' : Hp} {x : V} (s : Same H H') (h : KdLL H x) : KdLL H' x :=
  ⟨h.1.mono s, fun xs e => by
    rw [lstOf_same s h.1] at e
    exact ⟨(h.2 xs e).1, fun y hy => ((h.2 xs e).2 y hy).mono s⟩⟩
theorem areNames_same {H H' : Hp} {x : V} (s : Same H H') (k : Kd H x) : areNames H' x = areNames H x := by unfold areNames; rw [lstOf_same s k]
theorem someRooms_same {H H' : Hp} {x : V} {n : Int} (s : Same H H') (k : Kd H x) : someRooms H' n x = someRooms H n x := by unfold someRooms; rw [lstOf_same s k]
def few3 : Option (List V) → Bool
  | some fs => decide (fs.length ≤ 3)
  | none => false
def makesW (H : Hp) (s w st f : V) : Bool := match lstOf H s, lstOf H w with
  | some ss, some ws => decide (1 ≤ ss.length) && decide (ss.length ≤ 20) && decide (ws.length = ss.length) && ss.all (areNames H) && ws.all (someRooms H ss.length) && (someRooms H ss.length st && (areNames H f && few3 (lstOf H f)))
  | _, _ => false

/-! ### keys -/
theorem all_id {α : Type} (f : α → Bool) (xs : List α) : (xs.map f).all id = xs.all f := by
  rw [List.all_map]; rfl
theorem mem_letters (c : Nat) : decide (c ∈ ("abcdefghijklmnopqrstuvwxyz" : Str).cps.toList) = isLow c := by
  have e : ("abcdefghijklmnopqrstuvwxyz" : Str).cps.toList = (List.range 26).map (· + 97) := by decide +kernel
  rw [e]
  unfold isLow
  refine decide_eq_decide.mpr ?_
  rw [List.mem_map]
  constructor
  · rintro ⟨k, hk, rfl⟩
    have := List.mem_range.mp hk
    omega
  · rintro ⟨h1, h2⟩
    exact ⟨c - 97, List.mem_range.mpr (by omega), by omega⟩
theorem isi_f (K : PySem.W.Frag) {T : String} {x : V} {H : Hp} {b : Bool} (hT : T = "int" ∨ T = "bool" ∨ T = "str" ∨ T = "list" ∨ T = "tuple") (h : Kd H x) (hb : isTy H T x = b) : ∃ t, TyOf K H x t ∧ PySem.W.kitOne K t (.type T) = some b := by
  obtain ⟨y, t, c, e, h1, h2, q⟩ := isi_rd (K := K) (Q := fun v _ => v = .bl b) hT h (by rw [hb])
  have e1 : x = y := (List.cons.inj e).1
  have e2 : c = b := V.bl.inj q
  subst e1; subst e2
  exact ⟨t, h1, h2⟩
theorem kd_str {H : Hp} {x : V} (h : Kd H x) : (isTy H "str" x = true ∧ ∃ z, x = .str z ∧ z.length ≤ 1000) ∨ (isTy H "str" x = false ∧ isNameV x = false) := by
  cases h with
  | str z hz => exact .inl ⟨rfl, z, rfl, hz⟩
  | non => exact .inr ⟨rfl, rfl⟩
  | bl b => exact .inr ⟨rfl, rfl⟩
  | int i => exact .inr ⟨rfl, rfl⟩
  | lst e => exact .inr ⟨by simp [isTy, e], rfl⟩
  | tup e => exact .inr ⟨by simp [isTy, e], rfl⟩
  | dK e => exact .inr ⟨by simp [isTy, e], rfl⟩
end L3

set_option Elab.async false
set_option linter.all false
set_option maxRecDepth 100000
set_option maxHeartbeats 4000000
namespace L3
open PySem PySem.Spec L2

/-! ### lists and tuples of texts, of ints, of such -/
def LS (H : Hp) (v : V) (ss : List Str) : Prop := ∃ a, v = .ref a ∧ H a = some (.lst (ss.map V.str))
def LI (H : Hp) (v : V) (ns : List Int) : Prop := ∃ a, v = .ref a ∧ H a = some (.lst (ns.map V.int))
def TS (H : Hp) (v : V) (ss : List Str) : Prop := ∃ a, v = .ref a ∧ H a = some (.tup (ss.map V.str))
def TIn (H : Hp) (v : V) (ns : List Int) : Prop := ∃ a, v = .ref a ∧ H a = some (.tup (ns.map V.int))
def LL {α : Type} (r : Hp → V → α → Prop) (H : Hp) (v : V) (xs : List α) : Prop := ∃ a vs, v = .ref a ∧ H a = some (.lst vs) ∧ vs.length = xs.length ∧ ∀ (i : Nat) v x, vs[i]? = some v → xs[i]? = some x → r H v x
def LT {α : Type} (r : Hp → V → α → Prop) (H : Hp) (v : V) (xs : List α) : Prop := ∃ a vs, v = .ref a ∧ H a = some (.tup vs) ∧ vs.length = xs.length ∧ ∀ (i : Nat) v x, vs[i]? = some v → xs[i]? = some x → r H v x
def Mon {α : Type} (r : Hp → V → α → Prop) : Prop := ∀ H H' v x, Same H H' → r H v x → r H' v x
theorem LS.mono : Mon LS := fun _ _ _ _ s ⟨a, e, h⟩ => ⟨a, e, s _ _ h⟩
theorem LI.mono : Mon LI := fun _ _ _ _ s ⟨a, e, h⟩ => ⟨a, e, s _ _ h⟩
theorem TS.mono : Mon TS := fun _ _ _ _ s ⟨a, e, h⟩ => ⟨a, e, s _ _ h⟩
theorem TIn.mono : Mon TIn := fun _ _ _ _ s ⟨a, e, h⟩ => ⟨a, e, s _ _ h⟩
theorem LL.mono {α : Type} {r : Hp → V → α → Prop} (m : Mon r) : Mon (LL r) := fun _ _ _ _ s ⟨a, vs, e, h, l, q⟩ => ⟨a, vs, e, s _ _ h, l, fun i v x h1 h2 => m _ _ _ _ s (q i v x h1 h2)⟩
theorem LT.mono {α : Type} {r : Hp → V → α → Prop} (m : Mon r) : Mon (LT r) := fun _ _ _ _ s ⟨a, vs, e, h, l, q⟩ => ⟨a, vs, e, s _ _ h, l, fun i v x h1 h2 => m _ _ _ _ s (q i v x h1 h2)⟩
theorem SameX.hide {p : Addr} {H H' : Hp} (s : SameX p H H') : Same (hide p H) (hide p H') := fun b o h =>
  let ⟨n, e⟩ := hide_some h
  hide_mk n (s b o n e)

/-- what a world is made of -/
structure WD where
  signs : List (List Str)
  ways : List (List Int)
  starts : List Int
  fair : List Str
structure PartsV (H : Hp) (s w st f : V) (d : WD) : Prop where
  s : LL LS H s d.signs
  w : LL LI H w d.ways
  st : LI H st d.starts
  f : LS H f d.fair
theorem PartsV.mono {H H' : Hp} {s w st f : V} {d : WD} (e : Same H H') (h : PartsV H s w st f d) : PartsV H' s w st f d :=
  ⟨LL.mono LS.mono _ _ _ _ e h.s, LL.mono LI.mono _ _ _ _ e h.w, LI.mono _ _ _ _ e h.st, LS.mono _ _ _ _ e h.f⟩
structure Good (d : WD) : Prop where
  n1 : 1 ≤ d.signs.length
  n20 : d.signs.length ≤ 20
  wl : d.ways.length = d.signs.length
  sn : ∀ ss ∈ d.signs, ss.Nodup ∧ (∀ x ∈ ss, isNameS x = true) ∧ ss.length ≤ 5
  wn : ∀ ns ∈ d.ways, ns.Nodup ∧ ns ≠ [] ∧ (∀ x ∈ ns, 0 ≤ x ∧ x < d.signs.length) ∧ ns.length ≤ 20
  stn : d.starts.Nodup ∧ d.starts ≠ [] ∧ (∀ x ∈ d.starts, 0 ≤ x ∧ x < d.signs.length) ∧ d.starts.length ≤ 20
  fn : d.fair.Nodup ∧ (∀ x ∈ d.fair, isNameS x = true) ∧ d.fair.length ≤ 3
theorem nodup_map {α β : Type} {f : α → β} (hf : ∀ a b, f a = f b → a = b) {l : List α} (h : l.Nodup) : (l.map f).Nodup := by
  unfold List.Nodup at *
  rw [List.pairwise_map]
  exact h.imp fun q e => q (hf _ _ e)
theorem str_inj (a b : Str) (h : V.str a = V.str b) : a = b := V.str.inj h
theorem int_inj (a b : Int) (h : V.int a = V.int b) : a = b := V.int.inj h
theorem name_short {z : Str} (h : isNameS z = true) : z.length ≤ 8 := by
  unfold isNameS at h
  simp only [Bool.and_eq_true, decide_eq_true_eq] at h
  exact h.1.2
theorem LS.kd {H : Hp} {v : V} {ss : List Str} (h : LS H v ss) (hl : ss.length ≤ 1000) (hn : ∀ x ∈ ss, isNameS x = true) : KdL H v := by
  obtain ⟨a, rfl, e⟩ := h
  refine ⟨.lst e, fun xs q => ?_⟩
  rw [lstOf_ref e] at q
  cases q
  refine ⟨by rw [List.length_map]; exact hl, fun y hy => ?_⟩
  obtain ⟨z, hz, rfl⟩ := List.mem_map.mp hy
  exact .str z (Nat.le_trans (name_short (hn z hz)) (by decide))
theorem LI.kd {H : Hp} {v : V} {ns : List Int} (h : LI H v ns) (hl : ns.length ≤ 1000) : KdL H v := by
  obtain ⟨a, rfl, e⟩ := h
  refine ⟨.lst e, fun xs q => ?_⟩
  rw [lstOf_ref e] at q
  cases q
  refine ⟨by rw [List.length_map]; exact hl, fun y hy => ?_⟩
  obtain ⟨z, hz, rfl⟩ := List.mem_map.mp hy
  exact .int z
theorem LS.names {H : Hp} {v : V} {ss : List Str} (h : LS H v ss) (nd : ss.Nodup) (hn : ∀ x ∈ ss, isNameS x = true) : areNames H v = true := by
  obtain ⟨a, rfl, e⟩ := h
  unfold areNames
  rw [lstOf_ref e]
  simp only [Bool.and_eq_true, decide_eq_true_eq]
  refine ⟨List.all_eq_true.mpr fun y hy => ?_, nodup_map str_inj nd⟩
  obtain ⟨z, hz, rfl⟩ := List.mem_map.mp hy
  exact hn z hz
theorem LI.rooms {H : Hp} {v : V} {ns : List Int} {n : Nat} (h : LI H v ns) (nd : ns.Nodup) (ne : ns ≠ []) (hn : ∀ x ∈ ns, 0 ≤ x ∧ x < (n : Int)) : someRooms H n v = true := by
  obtain ⟨a, rfl, e⟩ := h
  unfold someRooms
  rw [lstOf_ref e]
  simp only [Bool.and_eq_true, decide_eq_true_eq]
  refine ⟨⟨List.all_eq_true.mpr fun y hy => ?_, ?_⟩, nodup_map int_inj nd⟩
  · obtain ⟨z, hz, rfl⟩ := List.mem_map.mp hy
    have := hn z hz
    simp [isRoomV, this.1, this.2]
  · cases ns with
    | nil => exact absurd rfl ne
    | cons y r => rfl
theorem LL.kd {α : Type} {r : Hp → V → α → Prop} {H : Hp} {v : V} {xs : List α} (h : LL r H v xs) (hl : xs.length ≤ 1000) (q : ∀ v x, r H v x → x ∈ xs → KdL H v) : KdLL H v := by
  obtain ⟨a, vs, rfl, e, l, k⟩ := h
  refine ⟨.lst e, fun ys z => ?_⟩
  rw [lstOf_ref e] at z
  cases z
  refine ⟨by omega, fun y hy => ?_⟩
  obtain ⟨i, hi, rfl⟩ := List.getElem_of_mem hy
  have hx : i < xs.length := by omega
  exact q _ xs[i] (k i _ _ (List.getElem?_eq_getElem hi) (List.getElem?_eq_getElem hx)) (List.getElem_mem hx)
theorem LL.all {α : Type} {r : Hp → V → α → Prop} {H : Hp} {vs : List V} {xs : List α} {p : V → Bool} (l : vs.length = xs.length) (k : ∀ (i : Nat) v x, vs[i]? = some v → xs[i]? = some x → r H v x) (q : ∀ v x, r H v x → x ∈ xs → p v = true) : vs.all p = true := by
  refine List.all_eq_true.mpr fun y hy => ?_
  obtain ⟨i, hi, rfl⟩ := List.getElem_of_mem hy
  have hx : i < xs.length := by omega
  exact q _ xs[i] (k i _ _ (List.getElem?_eq_getElem hi) (List.getElem?_eq_getElem hx)) (List.getElem_mem hx)
theorem PartsV.kd {H : Hp} {s w st f : V} {d : WD} (h : PartsV H s w st f d) (g : Good d) : KdLL H s ∧ KdLL H w ∧ KdL H st ∧ KdL H f := by
  refine ⟨h.s.kd (by have := g.n20; omega) fun v x r m => ?_, h.w.kd (by have := g.n20; have := g.wl; omega) fun v x r m => ?_, h.st.kd (by have := g.stn.2.2.2; omega), h.f.kd (by have := g.fn.2.2; omega) g.fn.2.1⟩
  · have := g.sn x m
    exact r.kd (by omega) this.2.1
  · have := g.wn x m
    exact r.kd (by omega)
theorem PartsV.makes {H : Hp} {s w st f : V} {d : WD} (h : PartsV H s w st f d) (g : Good d) : makesW H s w st f = true := by
  have hst := h.st.rooms (n := d.signs.length) g.stn.1 g.stn.2.1 g.stn.2.2.1
  have hf := h.f.names g.fn.1 g.fn.2.1
  obtain ⟨a, vs, rfl, e, l, k⟩ := h.s
  obtain ⟨b, ws, rfl, e2, l2, k2⟩ := h.w
  obtain ⟨c, rfl, e3⟩ := h.f
  unfold makesW
  rw [lstOf_ref e, lstOf_ref e2, lstOf_ref e3]
  dsimp only
  rw [l]
  have h1 : vs.all (areNames H) = true := LL.all l k fun v x r m => r.names (g.sn x m).1 (g.sn x m).2.1
  have h2 : ws.all (someRooms H d.signs.length) = true := LL.all l2 k2 fun v x r m => r.rooms (g.wn x m).1 (g.wn x m).2.1 (g.wn x m).2.2.1
  have := g.n1
  have := g.n20
  have := g.wl
  have := g.fn.2.2
  simp only [few3, Bool.and_eq_true, decide_eq_true_eq, List.length_map]
  refine ⟨⟨⟨⟨⟨by omega, by omega⟩, by omega⟩, h1⟩, h2⟩, hst, hf, by omega⟩

/-! ### a world as an object -/
def wfs (t1 t2 t3 t4 : V) : List (Str × V) := [("room_signs", t1), ("room_ways", t2), ("start_rooms", t3), ("fair_names", t4)]
structure WorldAt (C : Addr) (H : Hp) (p : Addr) (d : WD) : Prop where
  ex : ∃ dx t1 t2 t3 t4, H p = some (.ins C dx (wfs t1 t2 t3 t4)) ∧ LT TS H t1 (d.signs.map sortS) ∧ LT TIn H t2 (d.ways.map sortI) ∧ TIn H t3 (sortI d.starts) ∧ TS H t4 d.fair
theorem WorldAt.mono {C : Addr} {H H' : Hp} {p : Addr} {d : WD} (s : Same H H') (h : WorldAt C H p d) : WorldAt C H' p d := by
  obtain ⟨dx, t1, t2, t3, t4, e, h1, h2, h3, h4⟩ := h.ex
  exact ⟨dx, t1, t2, t3, t4, s _ _ e, LT.mono TS.mono _ _ _ _ s h1, LT.mono TIn.mono _ _ _ _ s h2, TIn.mono _ _ _ _ s h3, TS.mono _ _ _ _ s h4⟩
theorem beqF {a b : Str} (h : ¬ a = b) : (a == b) = false := by simpa using h
theorem lk_no (t1 t2 t3 t4 : V) {m : Str} (h1 : ¬ m = "room_signs") (h2 : ¬ m = "room_ways") (h3 : ¬ m = "start_rooms") (h4 : ¬ m = "fair_names") : (wfs t1 t2 t3 t4).lookup m = none := by simp [wfs, List.lookup_cons, beqF h1, beqF h2, beqF h3, beqF h4]
end L3

set_option Elab.async false
set_option linter.all false
set_option maxRecDepth 100000
set_option maxHeartbeats 4000000
namespace L3
open PySem PySem.Spec L2

/-! ### things within things as data, for == -/
def dI (ns : List Int) : PyData := .list (ns.map PyData.int)
def dS (ss : List Str) : PyData := .list (ss.map PyData.str)
def dL {α : Type} (f : α → PyData) (xs : List α) : PyData := .list (xs.map f)
def dW (d : WD) : PyData := .tuple [dL dS d.signs, dL dI d.ways, dI d.starts, dS d.fair]
def Fine (n : Nat) (d : PyData) : Prop := d.canLay0 = true ∧ d.depth ≤ n
theorem fineAll {α : Type} {f : α → PyData} {n : Nat} {xs : List α} (h : ∀ x ∈ xs, Fine n (f x)) : PyData.canLayAll0 (xs.map f) = true ∧ PyData.depthAll (xs.map f) ≤ n := by
  induction xs with
  | nil => exact ⟨by simp [PyData.canLayAll0], by simp [PyData.depthAll]⟩
  | cons x r ih =>
    obtain ⟨a, b⟩ := ih fun y hy => h y (List.mem_cons_of_mem _ hy)
    obtain ⟨c, d⟩ := h x List.mem_cons_self
    rw [List.map_cons]
    exact ⟨by rw [PyData.canLayAll0, c, a]; rfl, by rw [PyData.depthAll]; exact Nat.max_le.mpr ⟨d, b⟩⟩
theorem fineL {α : Type} {f : α → PyData} {n : Nat} {xs : List α} (h : ∀ x ∈ xs, Fine n (f x)) : Fine (n + 1) (.list (xs.map f)) := by
  obtain ⟨a, b⟩ := fineAll h
  exact ⟨by rw [PyData.canLay0]; exact a, by rw [PyData.depth]; omega⟩
theorem fineI (ns : List Int) : Fine 1 (dI ns) := fineL fun x _ => ⟨by simp [PyData.canLay0], by simp [PyData.depth]⟩
theorem strOk_name {z : Str} (h : isNameS z = true) : PyData.strOk z = true := by
  unfold isNameS at h
  rw [Bool.and_eq_true] at h
  have h2 := List.all_eq_true.mp h.2
  unfold PyData.strOk
  rw [Array.all_eq_true_iff_forall_mem]
  intro x hx
  have := h2 x (Array.mem_toList_iff.mpr hx)
  unfold isLow at this
  have := of_decide_eq_true this
  exact decide_eq_true (by omega)
theorem fineS {ss : List Str} (h : ∀ x ∈ ss, isNameS x = true) : Fine 1 (dS ss) := fineL fun x hx => ⟨by simp [PyData.canLay0, strOk_name (h x hx)], by simp [PyData.depth]⟩
theorem fineT4 {a b c d : PyData} {n : Nat} (ha : Fine n a) (hb : Fine n b) (hc : Fine n c) (hd : Fine n d) : Fine (n + 1) (.tuple [a, b, c, d]) := by
  refine ⟨by simp [PyData.canLay0, PyData.canLayAll0, ha.1, hb.1, hc.1, hd.1], ?_⟩
  have := ha.2; have := hb.2; have := hc.2; have := hd.2
  simp only [PyData.depth, PyData.depthAll]
  omega
theorem Fine.up {n m : Nat} {d : PyData} (h : Fine n d) (l : n ≤ m) : Fine m d := ⟨h.1, Nat.le_trans h.2 l⟩
theorem fineW {d : WD} (h1 : ∀ ss ∈ d.signs, ∀ x ∈ ss, isNameS x = true) (h2 : ∀ x ∈ d.fair, isNameS x = true) : Fine 3 (dW d) :=
  fineT4 (fineL fun ss hs => fineS (h1 ss hs)) (fineL fun ns _ => fineI ns) ((fineI _).up (by decide)) ((fineS h2).up (by decide))
section
variable {K : PySem.W.Frag} {H : Hp}
theorem dpAll_map {α : Type} {g : α → V} {f : α → PyData} (h : ∀ x, Dp K H (g x) (f x)) : ∀ xs : List α, DpAll K H (xs.map g) (xs.map f)
  | [] => .nil
  | x :: r => .cons (h x) (dpAll_map h r)
theorem dpAll_of {α : Type} {r : Hp → V → α → Prop} {f : α → PyData} (h : ∀ v x, r H v x → Dp K H v (f x)) : ∀ (vs : List V) (xs : List α), vs.length = xs.length → (∀ (i : Nat) v x, vs[i]? = some v → xs[i]? = some x → r H v x) → DpAll K H vs (xs.map f)
  | [], [], _, _ => .nil
  | [], x :: xs, l, _ => by simp at l
  | v :: vs, [], l, _ => by simp at l
  | v :: vs, x :: xs, l, q => .cons (h v x (q 0 v x rfl rfl)) (dpAll_of h vs xs (by simpa using l) fun i v x h1 h2 => q (i + 1) v x (by simpa using h1) (by simpa using h2))
theorem LI.dp {v : V} {ns : List Int} (h : LI H v ns) : Dp K H v (dI ns) := by
  obtain ⟨a, rfl, e⟩ := h
  exact .lst (SqL.of e) (dpAll_map (fun x => .int x) ns)
theorem LS.dp {v : V} {ss : List Str} (h : LS H v ss) : Dp K H v (dS ss) := by
  obtain ⟨a, rfl, e⟩ := h
  exact .lst (SqL.of e) (dpAll_map (fun x => .str x) ss)
theorem LL.dp {α : Type} {r : Hp → V → α → Prop} {f : α → PyData} {v : V} {xs : List α} (q : ∀ v x, r H v x → Dp K H v (f x)) (h : LL r H v xs) : Dp K H v (dL f xs) := by
  obtain ⟨a, vs, rfl, e, l, k⟩ := h
  exact .lst (SqL.of e) (dpAll_of q vs xs l k)
theorem PartsV.dp {a : Addr} {s w st f : V} {d : WD} (e : H a = some (.tup [s, w, st, f])) (h : PartsV H s w st f d) : Dp K H (.ref a) (dW d) :=
  .tup (SqT.of e) (.cons (h.s.dp fun _ _ r => r.dp) (.cons (h.w.dp fun _ _ r => r.dp) (.cons h.st.dp (.cons h.f.dp .nil))))
end
theorem eqv_self {n : Nat} {d : PyData} (h : Fine n d) : PyData.eqv d d = true := SeqAt.eqv_refl d h.1
/-- a list of ints == []: where it is not so, there is one -/
theorem eqD_nil {K : PySem.W.Frag} {H : Hp} {a b : Addr} {ns : List Int} {Q : VK} (h1 : H a = some (.lst (ns.map V.int))) (h2 : H b = some (.lst [])) (q : ∀ c : Bool, (c = true ↔ ns = []) → Q (.bl c) H) : rEqD K false (.ref a) (.ref b) H Q := by
  refine ⟨dI ns, .list [], LI.dp ⟨a, rfl, h1⟩, .lst (SqL.of h2) .nil, (fineI ns).1, by simp [PyData.canLay0, PyData.canLayAll0], Nat.le_trans (fineI ns).2 (by decide), ?_⟩
  refine q _ ?_
  cases ns with
  | nil => simp [dI, PyData.eqv, PyData.eqvAll]
  | cons x r => simp [dI, PyData.eqv, PyData.eqvAll]
end L3

set_option Elab.async false
set_option linter.all false
set_option maxRecDepth 100000
set_option maxHeartbeats 4000000
namespace L3
open PySem PySem.Spec L2
theorem SameX.updN {p D : Addr} {H H' : Hp} {o : HO} (s : SameX p H H') (h : H D = none) : SameX p H (L2.upd H' D o) := fun b u n e => by
  rw [upd_ne (ne_of_none e h)]
  exact s b u n e
theorem SameX.free {p D : Addr} {H H' : Hp} (s : SameX p H H') (np : D ≠ p) (h : H' D = none) : H D = none := by
  cases e : H D with
  | none => rfl
  | some o => rw [s D o np e] at h; cases h
theorem inV_str {z : Str} {ss : List Str} : inV (.str z) (ss.map V.str) = true ↔ z ∈ ss := by
  unfold inV
  rw [List.any_map, List.any_eq_true]
  constructor
  · rintro ⟨y, hy, e⟩
    have e' : (y == z) = true := e
    rw [beq_iff_eq] at e'
    exact e' ▸ hy
  · intro hz
    exact ⟨z, hz, by show (z == z) = true; simp⟩
end L3
namespace L3
open PySem PySem.Spec L2
theorem at_mod {ts : List V} (n : Int) (h : ts ≠ []) : (0 : Int) < ts.length ∧ ∃ v, atI ts (n % (ts.length : Int)) = some v ∧ v ∈ ts := by
  have hl := List.length_pos_iff.mpr h
  have hp : (0 : Int) < ts.length := by omega
  refine ⟨hp, ?_⟩
  have h0 := Int.emod_nonneg n (Int.ne_of_gt hp)
  have h1 := Int.emod_lt_of_pos n hp
  obtain ⟨j, e⟩ := Int.eq_ofNat_of_zero_le h0
  rw [e] at h1 ⊢
  have hj : j < ts.length := by omega
  exact ⟨_, atI_nat (List.getElem?_eq_getElem hj), List.getElem_mem hj⟩
theorem updK {H : Hp} {p F : Addr} {o o' : HO} (h : H p = some o) (n : p ≠ F) : upd H F o' p = some o := by rw [upd_ne n]; exact h
theorem ne_new {H : Hp} {p D : Addr} {o : HO} (h : H p = some o) (n : H D = none) : p ≠ D := fun e => by rw [e, n] at h; cases h
end L3
namespace L3
end L3
namespace L3
open PySem PySem.Spec L2
theorem New.monoX {p : Addr} {H H1 H2 H3 : Hp} {o' : HO} (a : SameX p H H1) (hp : H1 p = some o') (b : SameX p H2 H3) : Same (New H1 H2) (New H H3) := fun c o h =>
  let ⟨h1, h2⟩ := New.of h
  have nc : c ≠ p := fun e => by rw [e, hp] at h1; cases h1
  New.mk (a.free nc h1) (b c o nc h2)
end L3

set_option Elab.async false
set_option linter.all false
set_option maxRecDepth 100000
set_option maxHeartbeats 4000000
namespace L3
open PySem PySem.Spec L2
def sortW (d : WD) : WD := ⟨d.signs.map sortS, d.ways.map sortI, sortI d.starts, d.fair⟩
theorem WorldAt.at {C : Addr} {H : Hp} {p : Addr} {d : WD} (h : WorldAt C H p d) {m : Str} (h1 : ¬ m = "room_signs") (h2 : ¬ m = "room_ways") (h3 : ¬ m = "start_rooms") (h4 : ¬ m = "fair_names") : ∃ dx fs, H p = some (.ins C dx fs) ∧ fs.lookup m = none := by
  obtain ⟨dx, t1, t2, t3, t4, e, _⟩ := h.ex
  exact ⟨dx, _, e, lk_no _ _ _ _ h1 h2 h3 h4⟩
/-! ### some lists may change -/
def Lk (n : Nat) (G H H' : Hp) : Prop := (∀ b xs, G b = some (.lst xs) → ∃ ys : List V, H' b = some (.lst ys) ∧ ys.length ≤ xs.length + n) ∧ ∀ b o, (∀ xs, G b ≠ some (.lst xs)) → H b = some o → H' b = some o
theorem Lk.first {G H : Hp} (s : Same G H) : Lk 0 G H H := ⟨fun b xs e => ⟨xs, s _ _ e, Nat.le_refl _⟩, fun _ _ _ e => e⟩
theorem Lk.put {n m : Nat} {G H H' : Hp} {c : Addr} {xs ys : List V} (h : Lk n G H H') (hc : G c = some (.lst xs)) (hy : ys.length ≤ xs.length + m) (nm : n ≤ m) : Lk m G H (upd H' c (.lst ys)) := by
  refine ⟨fun b zs e => ?_, fun b o g e => ?_⟩
  · by_cases hb : b = c
    · subst hb
      rw [hc] at e
      cases e
      exact ⟨ys, upd_same, hy⟩
    · obtain ⟨y, e1, e2⟩ := h.1 b zs e
      exact ⟨y, by rw [upd_ne hb]; exact e1, by omega⟩
  · have nb : b ≠ c := fun z => g xs (by rw [z]; exact hc)
    rw [upd_ne nb]
    exact h.2 b o g e
theorem Lk.new {n : Nat} {G H H' : Hp} {L : Addr} {o' : HO} (h : Lk n G H H') (hL : H' L = none) : Lk n G H (upd H' L o') := by
  refine ⟨fun b zs e => ?_, fun b o g e => ?_⟩
  · obtain ⟨y, e1, e2⟩ := h.1 b zs e
    exact ⟨y, by rw [upd_ne (ne_of_none e1 hL)]; exact e1, e2⟩
  · have := h.2 b o g e
    rw [upd_ne (ne_of_none this hL)]
    exact this
theorem LS.at {G : Hp} {v : V} {ss : List Str} (h : LS G v ss) : ∃ c ys, v = .ref c ∧ G c = some (.lst ys) := by
  obtain ⟨c, e, h⟩ := h
  exact ⟨c, _, e, h⟩
theorem LI.at {G : Hp} {v : V} {ss : List Int} (h : LI G v ss) : ∃ c ys, v = .ref c ∧ G c = some (.lst ys) := by
  obtain ⟨c, e, h⟩ := h
  exact ⟨c, _, e, h⟩
theorem WorldAt.keep {C : Addr} {H H' : Hp} {p : Addr} {d : WD} (k : ∀ b o, (∀ xs, o ≠ .lst xs) → H b = some o → H' b = some o) (h : WorldAt C H p d) : WorldAt C H' p d := by
  have kt : ∀ b xs, H b = some (.tup xs) → H' b = some (.tup xs) := fun b xs e => k b _ (fun _ z => by cases z) e
  have ks : ∀ v x, TS H v x → TS H' v x := fun v x ⟨a, e, h⟩ => ⟨a, e, kt _ _ h⟩
  have ki : ∀ v x, TIn H v x → TIn H' v x := fun v x ⟨a, e, h⟩ => ⟨a, e, kt _ _ h⟩
  obtain ⟨dx, t1, t2, t3, t4, e, ⟨a1, w1, f1, g1, l1, q1⟩, ⟨a2, w2, f2, g2, l2, q2⟩, h3, h4⟩ := h.ex
  exact ⟨dx, t1, t2, t3, t4, k _ _ (fun _ z => by cases z) e, ⟨a1, w1, f1, kt _ _ g1, l1, fun i v x r1 r2 => ks _ _ (q1 i v x r1 r2)⟩, ⟨a2, w2, f2, kt _ _ g2, l2, fun i v x r1 r2 => ki _ _ (q2 i v x r1 r2)⟩, ki _ _ h3, ks _ _ h4⟩
theorem LL.two {α : Type} {r : Hp → V → α → Prop} {H : Hp} {a : Addr} {v w : V} {x y : α} (h : H a = some (.lst [v, w])) (h1 : r H v x) (h2 : r H w y) : LL r H (.ref a) [x, y] := by
  refine ⟨a, [v, w], rfl, h, rfl, fun i u z e1 e2 => ?_⟩
  match i with
  | 0 => cases e1; cases e2; exact h1
  | 1 => cases e1; cases e2; exact h2
  | n + 2 => simp at e1
theorem Good.names {d : WD} (g : Good d) : Fine 3 (dW d) := fineW (fun ss h => (g.sn ss h).2.1) g.fn.2.1
theorem Good.sorted {d : WD} (g : Good d) : Fine 3 (dW (sortW d)) := fineW (fun ss h => by
  obtain ⟨zs, hz, rfl⟩ := List.mem_map.mp h
  exact fun x hx => (g.sn zs hz).2.1 x ((sortS_perm zs).mem_iff.mp hx)) g.fn.2.1
end L3

set_option Elab.async false
set_option linter.all false
set_option maxRecDepth 100000
set_option maxHeartbeats 4000000
namespace L3
open PySem PySem.Spec PyProof.Rows L2
section
variable {X : Cx} {pins : List (Addr × Obj)} {σ : St} {H : Hp} {s : Shared} {h' : Heap}
end
section
variable {X : Cx}
end
end L3

set_option Elab.async false
set_option linter.all false
set_option maxRecDepth 100000
set_option maxHeartbeats 4000000
namespace L3
open PySem PySem.Spec PyProof.Rows L2
section
variable {X : Cx}
/-! ### xs.index(y), xs.insert(i, y), xs[i] = y, is not False, {} -/
theorem Vals.take {xs : List V} {us : List Value} (h : Vals xs us) (k : Nat) : Vals (xs.take k) (us.take k) := by
  induction k generalizing xs us with
  | zero => exact .nil
  | succ k ih =>
    cases h with
    | nil => exact .nil
    | cons r t => exact .cons r (ih t)
theorem Vals.drop {xs : List V} {us : List Value} (h : Vals xs us) (k : Nat) : Vals (xs.drop k) (us.drop k) := by
  induction k generalizing xs us with
  | zero => exact h
  | succ k ih =>
    cases h with
    | nil => exact .nil
    | cons r t => exact ih t
theorem Vals.set {xs : List V} {us : List Value} {y : V} {u : Value} (h : Vals xs us) (ry : RelV y u) (k : Nat) : Vals (xs.set k y) (us.set k u) := by
  induction k generalizing xs us with
  | zero =>
    cases h with
    | nil => exact .nil
    | cons r t => exact .cons ry t
  | succ k ih =>
    cases h with
    | nil => exact .nil
    | cons r t => exact .cons r (ih t)
theorem Inv.big {pins : List (Addr × Obj)} {σ : St} {H : Hp} {s : Shared} (I : L2.Inv X pins σ H s) : sysModules < s.heap.objs.size := by
  have h : mainGlobals < s.heap.objs.size := (I.mod.glob.keeps I.bk).lt
  exact Nat.lt_trans (by decide) h
end
section
variable {prog : Program} {w : World} {A : Around} {E : Value → Shared → Prop} {s : Shared}
end
section
variable {X : Cx}
end
end L3

set_option Elab.async false
set_option linter.all false
set_option maxRecDepth 100000
set_option maxHeartbeats 4000000
namespace L3
open PySem PySem.Spec PyProof.Rows L2
/-! ### sum of lists -/
section
variable {prog : Program} {w : World} {A : Around} {R : Result → Shared → Prop} {I : Addr} {fp wr : List Addr} {n : Nat} {P : Nat → Value → Prop} {St : Nat → Heap → Prop}
end
section
variable {X : Cx}
end
end L3

set_option Elab.async false
set_option linter.all false
set_option maxRecDepth 100000
set_option maxHeartbeats 4000000
namespace L3
open PySem PySem.Spec L2
section
variable {X : Cx} {K : PySem.W.Frag}
theorem pt_truthK {a : Expr} {ta : TE} (hK : X.K = K) (ha : PE X a ta) (he : ∀ whole, isTrue a X.env whole = (do let v ← whole; standAt a.pos; holding [v] (truthy v))) :
    PT X a (fun σ H Q => ta σ H fun x H' => ∃ k, TruV K x H' k ∧ Q k H') := by subst hK; exact pt_truth ha he
end
/-- for, over any iterator of n turns -/
theorem for_gen {J : It} {n : Nat} {g : TG} {tb : L2.TS} {D : Ends} {σ : St} {H : Hp} (Pv : Nat → St → Hp → Prop) (h0 : Pv 0 σ H) (hgo : ∀ i σ H, i < n → Pv i σ H → J.go i H) (hst : ∀ σ H, Pv n σ H → J.stop n H)
    (hs : ∀ i x σ H H2, i < n → Pv i σ H → J.yld i H x H2 → g x σ H2 fun σ2 H3 => tb { D with nx := Pv (i + 1), ct := Pv (i + 1), bk := D.nx } σ2 H3) (hd : ∀ σ H, Pv n σ H → D.nx σ H) :
    ∃ W : Nat → Nat → St → Hp → Prop, (∃ m, W 0 m σ H) ∧ ∀ i m σ H, W i m σ H →
      (J.stop i H ∧ D.nx σ H) ∨ (J.go i H ∧ ∃ N : St → Hp → Prop, (∀ σ' H', N σ' H' → ∃ m', m' < m ∧ W (i + 1) m' σ' H') ∧ ∀ x H', J.yld i H x H' → g x σ H' fun σ2 H2 => tb { D with nx := N, ct := N, bk := D.nx } σ2 H2) := by
  refine ⟨fun i m σ H => m = n - i ∧ i ≤ n ∧ Pv i σ H, ⟨n, by simp, Nat.zero_le _, h0⟩, ?_⟩
  rintro i m σ H ⟨rfl, hi, p⟩
  by_cases hlt : i < n
  · exact .inr ⟨hgo i σ H hlt p, Pv (i + 1), fun σ' H' p' => ⟨n - (i + 1), by omega, rfl, hlt, p'⟩, fun x H' y => hs i x σ H H' hlt p y⟩
  · have e : i = n := by omega
    subst e
    exact .inl ⟨hst σ H p, hd σ H p⟩

/-! ### runs as plain functions -/
theorem cutV_from (xs : List V) (k : Nat) (h : k ≤ xs.length) : cutV xs (some (k : Int)) none = xs.drop k := by
  unfold cutV
  rw [HT.sIx_nat, HT.sIx_none, Nat.min_eq_left h]
  exact List.take_of_length_le (by rw [List.length_drop]; omega)
theorem cutV_to (xs : List V) (k : Nat) (h : k ≤ xs.length) : cutV xs none (some (k : Int)) = xs.take k := by
  unfold cutV
  rw [HT.sIx_nat, HT.sIx_none, Nat.min_eq_left h]
  simp
theorem isTy_same {H H' : Hp} {T : String} {v : V} (s : Same H H') (h : Kd H v) : isTy H' T v = isTy H T v := by
  cases h with
  | non => rfl
  | bl b => rfl
  | int i => rfl
  | str z hz => rfl
  | lst e => simp only [isTy, e, s _ _ e]
  | tup e => simp only [isTy, e, s _ _ e]
  | dK e => simp only [isTy, e, s _ _ e]
theorem areRooms_same {H H' : Hp} {n : Int} {x : V} (s : Same H H') (k : Kd H x) : areRooms H' n x = areRooms H n x := by
  unfold areRooms
  rw [lstOf_same s k]
/-- what is no run, whatever the world -/
inductive BadRun (H : Hp) : V → Prop
  | other {v} (h : Kd H v) (n : isTy H "tuple" v = false) : BadRun H v
  | few {t xs} (e : H t = some (.tup xs)) (n : xs.length ≠ 2) (hz : xs.length ≤ 1000) : BadRun H (.ref t)
  | way {t x y} (e : H t = some (.tup [x, y])) (hx : KdL H x) (hy : KdL H y) (n : ∀ m, areRooms H m x = false ∨ areRooms H m y = false ∨ lstOf H y = some []) : BadRun H (.ref t)
theorem BadRun.mono {H H' : Hp} {v : V} (s : Same H H') (h : BadRun H v) : BadRun H' v := by
  cases h with
  | other h n => exact .other (h.mono s) (by rw [isTy_same s h]; exact n)
  | few e n hz => exact .few (s _ _ e) n hz
  | way e hx hy n =>
    refine .way (s _ _ e) (hx.mono s) (hy.mono s) fun m => ?_
    have e1 : areRooms H' m _ = areRooms H m _ := areRooms_same s hx.1
    have e2 : areRooms H' m _ = areRooms H m _ := areRooms_same s hy.1
    have e3 : lstOf H' _ = lstOf H _ := lstOf_same s hy.1
    rw [e1, e2, e3]
    exact n m
end L3
namespace L3
open PySem PySem.Spec L2
end L3

set_option Elab.async false
set_option linter.all false
set_option maxRecDepth 100000
set_option maxHeartbeats 4000000
namespace L3
open PySem PySem.Spec L2
theorem WorldAt.x {C : Addr} {H H' : Hp} {p w : Addr} {zs : List V} {d : WD} (hp : H p = some (.lst zs)) (x : SameX p H H') (h : WorldAt C H w d) : WorldAt C H' w d :=
  h.keep fun b o ho hb => x b o (fun e => by subst e; rw [hp] at hb; cases hb; exact ho _ rfl) hb
end L3
namespace L3
open PySem PySem.Spec L2
def IL (B : Nat) (H : Hp) (x : Addr) : Prop := ∃ ns : List Int, H x = some (.lst (ns.map V.int)) ∧ ns.length ≤ B
theorem IL.up {B B' : Nat} {H : Hp} {x : Addr} (h : IL B H x) (l : B ≤ B') : IL B' H x := let ⟨ns, a, b⟩ := h; ⟨ns, a, Nat.le_trans b l⟩
theorem IL.same {B : Nat} {H H' : Hp} {x : Addr} (s : Same H H') (h : IL B H x) : IL B H' x := let ⟨ns, a, b⟩ := h; ⟨ns, s _ _ a, b⟩
theorem IL.keep {B : Nat} {H H' : Hp} {p x : Addr} (s : SameX p H H') (n : x ≠ p) (h : IL B H x) : IL B H' x := let ⟨ns, a, b⟩ := h; ⟨ns, s _ _ n a, b⟩
theorem IL.put {B : Nat} {H : Hp} {x y : Addr} {ms : List Int} (h : IL B H x) (l : ms.length ≤ B) : IL B (upd H y (.lst (ms.map V.int))) x := by
  by_cases e : x = y
  · subst e; exact ⟨ms, upd_same, l⟩
  · obtain ⟨ns, a, b⟩ := h
    exact ⟨ns, by rw [upd_ne e]; exact a, b⟩
end L3

set_option Elab.async false
set_option linter.all false
set_option maxRecDepth 100000
set_option maxHeartbeats 4000000
namespace L3
open PySem PySem.Spec L2
end L3
namespace L3
open PySem PySem.Spec L2
end L3

set_option Elab.async false
set_option linter.all false
set_option maxRecDepth 100000
set_option maxHeartbeats 4000000
namespace L3
open PySem PySem.Spec PyProof.Rows L2
/-! ### texts: join, split, int, str, slice, >= -/
section
variable {X : Cx}
end
section
variable {prog : Program} {w : World} {A : Around} {E : Value → Shared → Prop} {s : Shared}
end
section
variable {X : Cx}
end
section
variable {prog : Program} {w : World} {A : Around} {E : Value → Shared → Prop} {s : Shared}
end
section
variable {X : Cx}
end
end L3

set_option Elab.async false
set_option linter.all false
set_option maxRecDepth 100000
set_option maxHeartbeats 4000000
namespace L3
open PySem PySem.Spec PyProof.Rows L2
/-! ### words, lines, a world's text -/
def free (c : Nat) (z : Str) : Prop := c ∉ z.cps.toList
mutual
theorem Dp.mono {K : PySem.W.Frag} {H H' : Hp} (s : Same H H') : ∀ {v : V} {d : PyData}, Dp K H v d → Dp K H' v d
  | _, _, .non => .non
  | _, _, .bl b => .bl b
  | _, _, .int i => .int i
  | _, _, .str x => .str x
  | _, _, .lst h hs => .lst (s.seq h) (DpAll.mono s hs)
  | _, _, .tup h hs => .tup (Same.seqT s h) (DpAll.mono s hs)
theorem DpAll.mono {K : PySem.W.Frag} {H H' : Hp} (s : Same H H') : ∀ {vs : List V} {ds : List PyData}, DpAll K H vs ds → DpAll K H' vs ds
  | _, _, .nil => .nil
  | _, _, .cons h hs => .cons (Dp.mono s h) (DpAll.mono s hs)
end
theorem DpAll.app {K : PySem.W.Frag} {H : Hp} : ∀ {vs us : List V} {ds es : List PyData}, DpAll K H vs ds → DpAll K H us es → DpAll K H (vs ++ us) (ds ++ es)
  | _, _, _, _, .nil, h => h
  | _, _, _, _, .cons a b, h => .cons a (DpAll.app b h)
def dT (d : WD) : PyData := .list (d.signs.map dS ++ d.ways.map dI ++ [dI d.starts, dS d.fair])
theorem list_of_pts {α : Type} {f : α → V} : ∀ {xs : List α} {ys : List V}, ys.length = xs.length → (∀ (i : Nat) v, ys[i]? = some v → ∀ x, xs[i]? = some x → v = f x) → ys = xs.map f
  | [], ys, l, _ => by simp at l; subst l; rfl
  | x :: r, [], l, _ => by simp at l
  | x :: r, y :: ys, l, h => by
    rw [List.map_cons, h 0 y rfl x rfl, list_of_pts (xs := r) (ys := ys) (by simpa using l) fun i v e z e2 => h (i + 1) v (by simpa using e) z (by simpa using e2)]
/-- what is asked of a world's data that is written -/
structure Writ (d : WD) : Prop where
  gd : Good d
  rm : ∀ n : Int, n < d.signs.length → n < 20 ∨ d.signs.length ≤ 20
theorem Good.num {d : WD} (g : Good d) {ns : List Int} (h : ns ∈ d.ways ∨ ns = d.starts) : ∀ n ∈ ns, 0 ≤ n ∧ n < 20 := fun n hn => by
  have := g.n20
  rcases h with h | rfl
  · have := (g.wn ns h).2.2.1 n hn; omega
  · have := g.stn.2.2.1 n hn; omega
theorem Good.sortW {d : WD} (g : Good d) : Good (sortW d) := by
  have e : (L3.sortW d).signs.length = d.signs.length := by show (d.signs.map sortS).length = _; rw [List.length_map]
  refine ⟨by rw [e]; exact g.n1, by rw [e]; exact g.n20, by rw [e]; show (d.ways.map sortI).length = _; rw [List.length_map]; exact g.wl, ?_, ?_, ?_, g.fn⟩
  · intro ss hs
    obtain ⟨zs, hz, rfl⟩ := List.mem_map.mp hs
    have := g.sn zs hz
    exact ⟨(sortS_perm zs).nodup_iff.mpr this.1, fun x hx => this.2.1 x ((sortS_perm zs).mem_iff.mp hx), by rw [(sortS_perm zs).length_eq]; exact this.2.2⟩
  · intro ns hs
    rw [e]
    obtain ⟨zs, hz, rfl⟩ := List.mem_map.mp hs
    have := g.wn zs hz
    exact ⟨(sortI_perm zs).nodup_iff.mpr this.1, fun q => this.2.1 (by have := (sortI_perm zs).length_eq; rw [q] at this; exact List.eq_nil_of_length_eq_zero this.symm), fun x hx => this.2.2.1 x ((sortI_perm zs).mem_iff.mp hx), by rw [(sortI_perm zs).length_eq]; exact this.2.2.2⟩
  · rw [e]
    have := g.stn
    exact ⟨(sortI_perm _).nodup_iff.mpr this.1, fun q => this.2.1 (by have := (sortI_perm d.starts).length_eq; rw [show sortI d.starts = [] from q] at this; exact List.eq_nil_of_length_eq_zero this.symm), fun x hx => this.2.2.1 x ((sortI_perm _).mem_iff.mp hx), by show (sortI d.starts).length ≤ 20; rw [(sortI_perm _).length_eq]; exact this.2.2.2⟩
end L3
namespace L3
open PySem PySem.Spec PyProof.Rows L2
section
variable {X : Cx} {K : PySem.W.Frag}
end
end L3
namespace L3
open PySem PySem.Spec PyProof.Rows L2
theorem atI_back {α : Type} {xs : List α} {k : Nat} (h1 : 1 ≤ k) (h2 : k ≤ xs.length) : atI xs (-(k : Int)) = xs[xs.length - k]? := by
  have e : ixN xs.length (-(k : Int)) = some (xs.length - k) := by
    unfold ixN
    rw [if_neg (by omega), if_pos (by omega)]
    congr 1
    omega
  unfold atI
  rw [e]
  rfl
end L3

set_option Elab.async false
set_option linter.all false
set_option maxRecDepth 100000
set_option maxHeartbeats 4000000
namespace L3
open PySem PySem.Spec PyProof.Rows L2
/-! ### exceptions of one's own classes: how they lie behind a call -/
/-- the exception at a, of the class at C, with its traceback at T; neither was there in h0, neither is tracked -/
def FlyN (h0 : Heap) (H : Hp) (h : Heap) (a C T : Addr) : Prop :=
  h0.get? a = none ∧ h0.get? T = none ∧ H a = none ∧ H T = none ∧ T ≠ a ∧
  ∃ oe vs oT ts a0, h.get? a = some oe ∧ oe.cls = .ref C ∧ oe.data = .fields vs ∧ vs[0]? = some a0 ∧ vs[1]? = some (.ref T) ∧ h.get? T = some oT ∧ oT.data = .fields ts ∧ ts[3]? = some .none
/-- an exception behind a call -/
def CXe (P : Program) (w : World) : CXT := fun outer H s E e s' =>
  ∃ a C T H', e = .ref a ∧ s'.os = s.os ∧ AllBare s'.gens ∧ Un (frs outer) [] H H' s.heap s'.heap ∧ HOk P w H' s'.heap ∧ FlyN s.heap H' s'.heap a C T ∧ E e (some C) H'

section
variable {P : Program} {w : World} {K : PySem.W.Frag} {mg : Str → Option Value} {base : Heap} {N : List Str} {qual : Str} {scope : Scope} {f : Addr} {cd : Value} {A : Around} {outer : List Env} {s₀ : Shared} {H₀ : Hp} {E : XK}
end
section
variable {K : PySem.W.Frag} {mg : Str → Option Value} {base : Heap} {x : Str} {C : Addr} {bmB : List Value} {newId : String}
end
section
variable {X : Cx} {x : Str} {C : Addr} {e : Expr} {es : List Expr} {t : TA} {E : XK} {B newId initId : String} {bmB : List Value} {np cpos pos : Pos}
/-- raise C(e, ..) -/
def tRaise (C : Addr) (E : XK) (t : TA) : L2.TS := fun _ σ H => t σ H fun vs H1 => vs.length ≤ 1000 ∧ ∀ a, E (.ref a) (some C) H1
end
end L3

set_option Elab.async false
set_option linter.all false
set_option maxRecDepth 100000
set_option maxHeartbeats 4000000
namespace L3
open PySem PySem.Spec PyProof.Rows L2
/-! ### try, except -/
/-- what is wanted of an exception that a suite lets out: the names and the heap behind it -/
abbrev XS := Value → Option Addr → L2.St → Hp → Prop
def XP (X : Cx) (pins : List (Addr × Obj)) (E : XS) (e : Value) (s' : Shared) : Prop := ∃ σ H s, L2.Inv X pins σ H s ∧ CXe X.prog X.w X.stack H s (fun e c H' => E e c σ H') e s'
section
variable {X : Cx} {k : Nat} {f C : Addr} {fd : FuncData} {ps : List Str} {sp : Sp} {x : Str} {p pos : Pos} {e : Expr} {es : List Expr} {t : TA}
/-- C(e, ..), its __init__ may let an exception out -/
def tMakeX (C : Addr) (sp : Sp) (t : TA) : L2.St → Hp → VK → XK → Prop := fun σ H Q E => t σ H fun vs H1 => ∀ x dx, H1 x = none → H1 dx = none → dx ≠ x → sp (.ref x :: vs) (upd (upd H1 dx (.own x)) x (.ins C dx [])) (fun v H2 => v = .non ∧ Q (.ref x) H2) E
/-- a statement that is an expression -/
def tDropX (te : L2.St → Hp → VK → XK → Prop) : L2.Ends → XS → L2.St → Hp → Prop := fun D E σ H => te σ H (fun _ H1 => D.nx σ H1) (fun e c H1 => E e c σ H1)
end
section
variable {X : Cx} {pins : List (Addr × Obj)} {σ : L2.St} {H : Hp} {s : Shared}
/-- within an except suite -/
abbrev _root_.L2.Cx.caught (X : Cx) (a : Addr) : Cx := { X with A := X.A.mark (some (.ref a)), calm := false, xe := fun _ _ => False }
end
end L3

set_option Elab.async false
set_option linter.all false
set_option maxRecDepth 100000
set_option maxHeartbeats 4000000
namespace L3
open PySem PySem.Spec PyProof.Rows L2
/-- a caught exception of the class at C -/
def XcAt (a C : Addr) (h : Heap) : Prop := ∃ o vs, h.get? a = some o ∧ o.cls = .ref C ∧ o.data = .fields vs
def XcO (a C : Addr) : HO := .ext (XcAt a C)
section
variable {X : Cx} {pins : List (Addr × Obj)} {σ : L2.St} {H H' : Hp} {s s' : Shared} {a C T : Addr}
end
section
variable {X : Cx} {i : Nat} {n cn : Str} {D : Addr} {b₀ : Stmt} {body suite : List Stmt} {np hpos pos : Pos}
/-- try: .. except D as n: .. , where each exception is one of D -/
def tTry (K : PySem.W.Frag) (D : Addr) (i : Nat) (tb : L2.Ends → XS → L2.St → Hp → Prop) (th : L2.TS) : L2.TS := fun Ds σ H =>
  tb Ds (fun e c σ1 H1 => ∃ a C, e = .ref a ∧ c = some C ∧ PySem.W.exmOne K (.ref C) (.ref D) = some true ∧ (H1 a = none →
    th { nx := fun σ2 H2 => Ds.nx (σ2.set i none) H2, rt := Ds.rt, bk := fun σ2 H2 => Ds.bk (σ2.set i none) H2, ct := fun σ2 H2 => Ds.ct (σ2.set i none) H2 } (σ1.set i (some (.ref a))) (upd H1 a (XcO a C)))) σ H
end
end L3

set_option Elab.async false
set_option linter.all false
set_option maxRecDepth 100000
set_option maxHeartbeats 4000000
namespace L3
open PySem PySem.Spec PySem.Calls PyProof.Rows PySem.W L2 Builtin Builtin.ObjectAttr Builtin.Getset_descriptor
/-! ### isinstance of a caught exception -/
section
variable {prog : Program} {w : PySem.World} {A : Around} {E : Value → Shared → Prop} {h : Heap} {g : Array GenState} {d : Drawn} {t : Nat} {os : OsState} {K : Frag} {a C : Addr}
/-- what is needed of a class of exceptions -/
structure ExcK (K : Frag) (C : Addr) : Prop where
  ga : findIn K (.ref C) "__getattribute__" = some (some (.builtin "BaseException.__getattribute__"))
  gh : findIn K (.ref C) "__getattr__" = some none
  ob : mroIn K C (.type "object") = some true
  be : mroIn K C (.type "BaseException") = some true
  cl : findIn K (.ref C) "__class__" = some (some (.builtin "object.__class__"))
  gt : specialIn K (.builtin "object.__class__") "__get__" = some (some (.builtin "getset_descriptor.__get__"))
  tk : takesIn K (.builtin "object.__class__") = some true
  hd : hasDictIn K C = true
end
section
variable {X : Cx}
/-- isinstance(e, c), e a caught exception, c a class -/
def rIsX (K : Frag) (c : V) : List V → Hp → VK → Prop := fun xs H Q => ∃ p C u b, xs = [.ref p, c] ∧ H p = some (XcO p C) ∧ ExcK K C ∧ RelV c u ∧ kitOne K (.ref C) u = some b ∧ Q (.bl b) H
/-- isinstance(e, (c, ..)), e a caught exception -/
def rIsXT (K : Frag) (cs : List V) (us : List Value) : List V → Hp → VK → Prop := fun xs H Q => ∃ p C t b, xs = [.ref p, .ref t] ∧ H p = some (XcO p C) ∧ ExcK K C ∧ H t = some (.tup cs) ∧ kitAny K (.ref C) us = some b ∧ Q (.bl b) H
end
end L3

set_option Elab.async false
set_option linter.all false
set_option maxRecDepth 100000
set_option maxHeartbeats 4000000
namespace L3
open PySem PySem.Spec PyProof.Rows L2
/-! ### defs that raise -/
section
variable {P : Program} {w : World} {K : PySem.W.Frag} {mg : Str → Option Value} {base : Heap}
end
section
variable {P : Program} {w : World} {K : PySem.W.Frag} {mg : Str → Option Value} {base : Heap} {N : List Str} {qual : Str} {scope : Scope} {f : Addr} {cd : Value} {A : Around} {outer : List Env} {s₀ : Shared} {H₀ : Hp} {E : XK}
end
section
variable {X : Cx} {k : Nat} {f C : Addr} {fd : FuncData} {ps : List Str} {sp : Sp} {x : Str} {p pos : Pos} {e : Expr} {es : List Expr} {t : TA}
/-- f(e, ..), f may let an exception out -/
def tCallX (sp : Sp) (t : TA) : L2.St → Hp → VK → XK → Prop := fun σ H Q E => t σ H fun vs H1 => sp vs H1 Q E
/-- return e, in a try -/
def tRetX (te : L2.St → Hp → VK → XK → Prop) : L2.Ends → XS → L2.St → Hp → Prop := fun D E σ H => te σ H D.rt (fun e c H1 => E e c σ H1)
end
end L3

set_option Elab.async false
set_option linter.all false
set_option maxRecDepth 100000
set_option maxHeartbeats 4000000
namespace L3
open PySem PySem.Spec PyProof.Rows L2
/-! ### what makes no world -/
/-- no names; no rooms of n -/
def BN (H : Hp) (v : V) : Prop := KdL H v ∧ areNames H v = false
def BR (n : Int) (H : Hp) (v : V) : Prop := KdL H v ∧ someRooms H n v = false
theorem BN.mono {H H' : Hp} {v : V} (s : Same H H') (h : BN H v) : BN H' v := ⟨h.1.mono s, (areNames_same s h.1.1).trans h.2⟩
theorem BR.mono {n : Int} {H H' : Hp} {v : V} (s : Same H H') (h : BR n H v) : BR n H' v := ⟨h.1.mono s, (someRooms_same s h.1.1).trans h.2⟩
end L3

set_option Elab.async false
set_option linter.all false
set_option maxRecDepth 100000
set_option maxHeartbeats 4000000
namespace L3
open PySem PySem.Spec PyProof.Rows L2
/-! ### {key: number}, both constants -/
section
variable {X : Cx} {i j1 j2 : Nat} {pos p1 p2 : Pos}
end
end L3

set_option Elab.async false
set_option linter.all false
set_option maxRecDepth 100000
set_option maxHeartbeats 1000000
namespace L3
open PySem PySem.Spec PyProof.Rows L2
/-! ### displays of many constants, in one step -/
section
variable {X : Cx} {e : Expr} {es : List Expr} {v : V} {vs : List V} {t : TA}
end
/-! ### an argument, a display's item, that is no starred one: the item's own form is looked at alone -/
def starB : Expr → Bool
  | .Starred _ _ => true
  | _ => false
theorem star_c {e : Expr} {es : List Expr} {env : Env} (h : starB e = false) : starEach (e :: es) env = (false, eval e env) :: starEach es env := by
  cases e <;> first | rfl | cases h
theorem pa_c {X : Cx} {e : Expr} {es : List Expr} {te : TE} {t : TA} (ha : PE X e te) (hr : PA X es t) (h : starB e = false := by rfl) : PA X (e :: es) (tCons te t) := pa_cons ha hr (star_c h)
/-- the same, as a thing of its own (so that what it says is not looked into) -/
structure QA (X : Cx) (es : List Expr) (t : TA) : Prop where
  h : PA X es t
end L3

set_option Elab.async false
set_option linter.all false
set_option maxRecDepth 100000
set_option maxHeartbeats 4000000
namespace L3
open PySem PySem.Spec PyProof.Rows L2
/-! ### a comprehension some of whose own names are taken by one within it -/
structure CompOkC (sc : Scope) (N Nc : List Str) (ix : List (Option Nat)) (scope : Scope) : Prop where
  kind : scope.kind = .function
  cells : ∀ y ∈ scope.names, y.2 = .cell → scope.names.lookup y.1 = some .cell
  names : ∀ y ∈ scope.names, y.2 = .local → scope.names.lookup y.1 = some .local
  free : ∀ y ∈ scope.names, y.2 = .free → sc.names.lookup y.1 = some .cell ∨ sc.names.lookup y.1 = some .free
  len : ix.length = Nc.length
  chk : ((ix.zip Nc).all fun p => match p.1 with | none => true | some j => N[j]? == some p.2 && scope.names.lookup p.2 == some .free) = true
theorem CompOkC.at_ {sc : Scope} {N Nc : List Str} {ix : List (Option Nat)} {scope : Scope} (o : CompOkC sc N Nc ix scope) {i j : Nat} {x : Str} (h1 : ix[i]? = some (some j)) (h2 : Nc[i]? = some x) : N[j]? = some x ∧ scope.names.lookup x = some .free := by
  have hm : (some j, x) ∈ ix.zip Nc := by
    refine List.mem_of_getElem? (i := i) ?_
    rw [List.getElem?_zip_eq_some]
    exact ⟨h1, h2⟩
  have q := List.all_eq_true.mp o.chk _ hm
  have q' := Bool.and_eq_true _ _ ▸ q
  exact ⟨by simpa using q'.1, by simpa using q'.2⟩
def compChkC (sc : Scope) (N Nc : List Str) (ix : List (Option Nat)) (scope : Scope) : Bool :=
  decide (scope.kind = .function) && scope.names.all (fun y => decide (y.2 = .cell → scope.names.lookup y.1 = some .cell)) && scope.names.all (fun y => decide (y.2 = .local → scope.names.lookup y.1 = some .local)) &&
  scope.names.all (fun y => decide (y.2 = .free → sc.names.lookup y.1 = some .cell ∨ sc.names.lookup y.1 = some .free)) && decide (ix.length = Nc.length) &&
  (ix.zip Nc).all fun p => match p.1 with | none => true | some j => N[j]? == some p.2 && scope.names.lookup p.2 == some .free
theorem CompOkC.of {sc : Scope} {N Nc : List Str} {ix : List (Option Nat)} {scope : Scope} (h : compChkC sc N Nc ix scope = true) : CompOkC sc N Nc ix scope := by
  unfold compChkC at h
  simp only [Bool.and_eq_true] at h
  obtain ⟨⟨⟨⟨⟨h1, h2⟩, h3⟩, h4⟩, h5⟩, h6⟩ := h
  exact ⟨of_decide_eq_true h1, fun y hy => of_decide_eq_true (List.all_eq_true.mp h2 y hy), fun y hy => of_decide_eq_true (List.all_eq_true.mp h3 y hy), fun y hy => of_decide_eq_true (List.all_eq_true.mp h4 y hy), of_decide_eq_true h5, h6⟩
section
variable {X : Cx} {pins : List (Addr × Obj)} {σ : St} {H : Hp} {s : Shared} {Nc : List Str} {ix : List (Option Nat)} {scope : Scope}
end
end L3

set_option Elab.async false
set_option linter.all false
set_option maxRecDepth 100000
set_option maxHeartbeats 4000000
namespace L3
open PySem PySem.Spec PyProof.Rows L2
/-! ### a list made longer by a tuple -/
theorem ext_tup (l : Addr) (items : Array Value) (n : Nat) (b : Addr) (items2 : Array Value) (n2 : Nat) (dd : Option Addr) (sl : Array (Option Value)) (hs0 : ¬(!items.isEmpty && Builtin.List.listTooLong (items.size + items2.size)) = true) (hs1 : items.size ≤ sizeLine) (hs2 : items.size + items2.size ≤ sizeLine + 1) :
    Meets (Builtin.«list.extend» ⟨[.ref l, .ref b], []⟩) (fun _ R s => s.heap.get? l = some { cls := .type "list", dict := none, data := .seq items n, slots := #[] } ∧ s.heap.get? b = some { cls := .type "tuple", dict := dd, data := .seq items2 n2, slots := sl } ∧ R (.ok (.ret Value.none)) { s with heap := s.heap.update l (Obj.mapSeq fun x => x ++ items2), toks := s.toks }) :=
  .of_wp fun prog w A R s h => by
    obtain ⟨hp, g, d, tk, os⟩ := s; obtain ⟨hl, hb, h⟩ := h; have f1 := AutoSeq1.idx_int; have f2 := AutoSeq1.sub_tuple_tuple; have f3 := AutoSeq1.sub_list_list; have f4 := AutoSeq1.sub_tuple_list; have f5 := AutoSeq1.sub_list_tuple;
    have hz' : (items ++ items2).size ≤ sizeLine + 1 := by rw [Array.size_append]; exact hs2
    wp_walk using (wpAny_updateSeq hl rfl (hz := hs1) (_hz' := hz')), wpAny_loadPart' hl, wpAny_loadPart' hb; exact ⟨_, rfl, h⟩
section
variable {X : Cx} {K : PySem.W.Frag}
def rExtendT (K : PySem.W.Frag) : V → List V → Hp → VK → Prop := fun x vs H Q => ∃ l b xs zs, x = .ref l ∧ vs = [.ref b] ∧ H l = some (.lst xs) ∧ SqT K H b zs ∧ xs.length + zs.length ≤ sizeLine ∧ Q .non (upd H l (.lst (xs ++ zs)))
theorem mt_extendT (hK : X.K = K) : MtM X "list.extend" (rExtendT K) := by
  subst hK
  intro pins s σ H x vs v us Q I rx rv h
  obtain ⟨l, b, xs, zs, rfl, rfl, hH, hB, hz, q⟩ := h
  cases rx
  obtain ⟨u, rfl, ru⟩ := rv.one
  cases ru
  obtain ⟨z, its, n, r, hl, e⟩ := I.lstM hH
  obtain ⟨its2, r2, ⟨o, e2, hc, n2, hd⟩, z2⟩ := I.tuple hB
  obtain ⟨c, dd, da, sl⟩ := o
  have hc' : c = .type "tuple" := hc
  have hd' : da = .seq its2.toArray n2 := hd
  subst hc' hd'
  have hl2 := r2.length
  have hsz : its.toArray.size + its2.toArray.size ≤ sizeLine := by rw [List.size_toArray, List.size_toArray]; omega
  have hlong : ¬ (!its.toArray.isEmpty && Builtin.List.listTooLong (its.toArray.size + its2.toArray.size)) = true := by
    rw [notLongL hsz, Bool.and_false]
    exact Bool.false_ne_true
  refine call_meets F.slot_list_extend ⟨_, e, rfl⟩ F.entry_list_extend (F.args_list_extend_2 _ _)
    (ext_tup l its.toArray n b its2.toArray n2 dd sl hlong (by rw [List.size_toArray]; omega) (by omega)) ⟨e, e2, ?_⟩
  refine ⟨.non, _, I.lset (its' := its ++ its2) hH e (by simp) (r.append r2) ?_, rfl, q⟩
  rw [List.length_append]
  omega
end
/-! ### del xs[k:] -/
theorem del_cut {sel : Nat → Bool} : ∀ (xs : List Value) (n k : Nat), (∀ i, n ≤ i → i < n + xs.length → sel i = decide (n + k ≤ i)) → ((xs.zipIdx n).filterMap fun (x, i) => if sel i = true then none else some x) = xs.take k
  | [], n, k, _ => by simp
  | x :: r, n, k, h => by
    have h0 := h n (Nat.le_refl _) (by simp)
    rw [List.zipIdx_cons, List.filterMap_cons]
    cases k with
    | zero =>
      have e : sel n = true := by rw [h0]; simp
      simp only [e, if_true]
      have := del_cut (sel := sel) r (n + 1) 0 fun i h1 h2 => by rw [h i (by omega) (by simp; omega)]; exact decide_eq_decide.mpr ⟨fun _ => by omega, fun _ => by omega⟩
      simpa using this
    | succ k =>
      have e : sel n = false := by rw [h0]; exact decide_eq_false (by omega)
      simp only [e, Bool.false_eq_true, if_false]
      rw [List.take_succ_cons, del_cut (sel := sel) r (n + 1) k fun i h1 h2 => by rw [h i (by omega) (by simp; omega)]; exact decide_eq_decide.mpr ⟨fun _ => by omega, fun _ => by omega⟩]
theorem del_from {prog : Program} {w : World} {A : Around} {E : Value → Shared → Prop} {s : Shared} {l sl : Addr} {items : Array Value} {n : Nat} {vl : Value} {k : Nat} {Q : Unit → Shared → Prop} (ho : s.heap.get? l = some { cls := .type "list", data := .seq items n }) (hs : s.heap.IsSliceOf sl vl .none .none) (pl : IsPart vl (some (k : Int))) (hk : k ≤ items.size) (hsz : items.size ≤ sizeLine)
    (h : ∀ f : Array Value → Array Value, f items = (items.toList.take k).toArray → Q () { s with heap := s.heap.update l (Obj.mapSeq f) }) : wpAny (model prog w) A (delItem (.ref l) (.ref sl)) Q E s := by
  have hT : s.TypeIs (.ref l) "list" := ⟨_, ho, rfl⟩
  obtain ⟨os, hos, hcs, hds⟩ := id hs
  have hTs : s.TypeIs (.ref sl) "slice" := ⟨os, hos, hcs⟩
  refine wpAny_delItem_slot hT (by decide) F.slot_list_delitem (wpAny_call_entry F.slot_list_delitem hT F.entry_list_delitem ?_ (F.args_list_delitem_2 _ _))
  show wpAny _ _ (Builtin.List.listSubscript? (.ref sl) >>= _) _ _ s
  refine wpAny_bind ?_
  unfold Builtin.List.listSubscript?
  refine wpAny_bind (wpAny_specialOf hTs slice_no_index ?_)
  simp only [Option.isNone_none, if_true]
  refine wpAny_pure ?_
  show wpAny _ _ (typeOf (.ref sl) >>= _) _ _ s
  refine wpAny_bind (wpAny_typeOf hTs ?_)
  rw [if_neg (by decide)]
  rw [listSliceParts_eq]
  refine wpAny_bind (wpAny_bind (wpAny_field hos hds (x := .none) rfl (wpAny_bind (wpAny_listPart .none ?_))))
  rw [if_neg (show ¬ ((rawPart none == rawInt 0) = true) from Bool.false_ne_true)]
  refine wpAny_bind (wpAny_field hos hds (x := vl) rfl (wpAny_bind (wpAny_listPart pl ?_)))
  refine wpAny_bind (wpAny_field hos hds (x := .none) rfl (wpAny_bind (wpAny_listPart .none (wpAny_pure ?_))))
  refine wpAny_bind (m := Builtin.List.listItems (.ref l)) ?_
  unfold Builtin.List.listItems
  refine wpAny_bind (wpAny_seqItems ho rfl (wpAny_pure ?_))
  have eb : sliceIndices (rawPart (some (k : Int))) (rawPart none) (rawPart none) items.size = pure ((k : Int), (items.size : Int), (1 : Int)) := by
    rw [sliceIndices_raw _ _ _ _ (by simp)]
    have e1 : (sliceBounds (some (k : Int)) none none items.size) = ((k : Int), (items.size : Int), (1 : Int)) := by
      unfold sliceBounds
      simp
      omega
    rw [e1]
  refine wpAny_bind (wpAny_of_eq eb ?_)
  refine wpAny_bind (wpAny_rule (wpAny_bind ?_))
  show wpAny _ _ (updateSeq l _) _ _ s
  have hf := del_cut (sel := fun i => if (1 : Int) > 0 then decide ((k : Int) ≤ i) && decide ((i : Int) < (items.size : Int)) && ((i : Int) - k) % 1 == 0 else decide ((items.size : Int) < i) && decide ((i : Int) ≤ k) && ((k : Int) - i) % (-1) == 0) items.toList 0 k fun i h1 h2 => by
    have h2' : i < items.size := by simpa using h2
    simp only [show (1 : Int) > 0 by decide, if_true]
    rw [Int.emod_one]
    simp
    omega
  have hf' := congrArg List.toArray hf
  refine wpAny_updateSeq ho rfl ?_ hsz ?_
  · exact wpAny_bind (wpAny_letGo (wpAny_pure ⟨_, rfl, h _ hf'⟩))
  · refine Nat.le_trans (Nat.le_of_eq (congrArg Array.size hf')) ?_
    rw [List.size_toArray, List.length_take]
    omega
section
variable {X : Cx}
def tDelFrom (te : TE) (tl : TE) : L2.TS := fun D σ H => te σ H fun x H1 => tl σ H1 fun y H2 => ∃ l xs k, x = .ref l ∧ y = .int ((k : Nat) : Int) ∧ H2 l = some (.lst xs) ∧ k ≤ xs.length ∧ D.nx σ (upd H2 l (.lst (xs.take k)))
theorem ps_delFrom {o lo : Expr} {te tl : TE} {p2 p3 pos : Pos} (ho : PE X o te) (hl : PE X lo tl) : PS X (.Delete [.Subscript o (.Slice (some lo) none none p2) p3] pos) (tDelFrom te tl) := by
  intro pins s σ H D I h
  refine wpAny_Delete (wpAny_deleteEach_cons (wpAny_delete_Subscript (thn (ho pins s σ H _ I h) fun u s1 ⟨x, H1, I1, rx, q1⟩ => ?_)))
  refine wpAny_Slice ?_
  rw [evalPart_some]
  refine thn (hl pins s1 σ H1 _ I1 q1) fun vl s2 ⟨y, H2, I2, ry, l, xs, k, ex, ey, hH, hk, q⟩ => ?_
  subst ex ey
  obtain rfl : u = Value.ref l := rx
  obtain ⟨t, rfl⟩ := (show ∃ t, vl = Value.int ((k : Nat) : Int) t from ry)
  rw [evalPart_none]
  refine wpAny_pure (wpAny_pure ?_)
  have I3 : Inv X pins σ H2 { s2 with heap := s2.heap.push { cls := .type "slice", data := .fields #[.int ((k : Nat) : Int) t, .none, .none] } } := I2.kept (t' := s2.toks) fun b ob q => Heap.get?_push_of_some _ q
  obtain ⟨z, its, n, r, hlen, e⟩ := I3.lstM hH
  refine del_from e (Heap.IsSliceOf.new ..) (.int _ t) (by rw [List.size_toArray]; omega) (by rw [List.size_toArray]; omega) fun f hf => wpAny_deleteEach_nil ?_
  refine ⟨σ, _, I3.lset (its' := its.take k) (t' := s2.toks) hH e ?_ (r.take k) (by rw [List.length_take]; omega), q⟩
  simpa using hf
end
/-! ### a dict of the module: texts to ints -/
structure DicK (K : PySem.W.Frag) (P : Params) (D : Addr) (kvs : List (Str × Int)) : Prop where
  ex : ∃ (es : Array DictEntry) (n : Nat), K.lookup D = some ⟨.type "dict", none, .dict es n, #[]⟩ ∧ PySem.W.KeysLit P es.toList
  at_ : ∀ p ∈ kvs, ∃ t, PySem.W.nsIn K D p.1 = some (some (.int p.2 t))
  lo : (D == sysModules) = false
def rIxD (K : PySem.W.Frag) (P : Params) : R2 := fun x y H Q => ∃ D z kvs i, x = .ref D ∧ y = .str z ∧ DicK K P D kvs ∧ (z, i) ∈ kvs ∧ Q (.int i) H
section
variable {X : Cx} {K : PySem.W.Frag} {P : Params}
theorem ix_dic (hK : X.K = K) (hw : X.w.params = P) : IxR X (rIxD K P) := by
  subst hK hw
  intro value slice pins s σ H x y v u Q I rx ry h hs
  obtain ⟨D, z, kvs, i, rfl, rfl, d, hm, q⟩ := h
  obtain ⟨t, rfl⟩ := (show ∃ t, u = Value.str z t from ry)
  obtain rfl : v = Value.ref D := rx
  obtain ⟨m, F⟩ := I.fr
  obtain ⟨es, n, lk, hk⟩ := d.ex
  obtain ⟨t2, ea⟩ := d.at_ _ hm
  exact PySem.W.topItem_K F I.mod.kin lk hk ea ⟨.int i, H, I.tok _, ⟨t2, rfl⟩, q⟩ hs
end
/-! ### the script + a list -/
end L3

set_option Elab.async false
set_option linter.all false
set_option maxRecDepth 100000
set_option maxHeartbeats 4000000
namespace L3
open PySem PySem.Spec L2
/-! ### sentences: trees of tuples -/
inductive Lb where
  | yes
  | sign (s : Str)
  | op (w : Str)
  | wit (m : Int)
  | many (w : Str)
inductive Tr where
  | node (c : Lb) (ks : List Tr)
def Tr.lb : Tr → Lb
  | .node c _ => c
def Tr.ks : Tr → List Tr
  | .node _ ks => ks
theorem Tr.eta (t : Tr) : t = .node t.lb t.ks := by cases t; rfl
def W1 : List Str := ["all", "some", "not", "next", "always", "ever", "before", "once", "sofar"]
def W2 : List Str := ["until", "since"]
def lbOk : Lb → Nat → Prop
  | .yes, n => n = 0
  | .sign s, n => n = 0 ∧ isNameS s = true
  | .op w, n => (w ∈ W1 ∧ n = 1) ∨ (w ∈ W2 ∧ n = 2)
  | .wit m, n => (0 ≤ m ∧ m ≤ 5) ∧ n = 2
  | .many w, n => (w = "and" ∨ w = "or") ∧ n ≤ 8
def wordL : Lb → Str
  | .yes => "yes"
  | .sign _ => "sign"
  | .op w => w
  | .wit _ => "within"
  | .many w => w
/-- the tuple at a, of the heap or of the module; vs: the sentences that stand right in it -/
def Shape (K : PySem.W.Frag) (H : Hp) (a : Addr) (vs : List V) : Lb → Prop
  | .yes => vs = [] ∧ SqT K H a [.str "yes"]
  | .sign s => vs = [] ∧ SqT K H a [.str "sign", .str s]
  | .op w => SqT K H a (.str w :: vs)
  | .wit m => SqT K H a (.str "within" :: .int m :: vs)
  | .many w => ∃ b, SqT K H a [.str w, .ref b] ∧ SqT K H b vs
def At (K : PySem.W.Frag) : Nat → Hp → V → Tr → Prop
  | 0, _, _, _ => False
  | n + 1, H, v, t => ∃ a vs, v = .ref a ∧ Shape K H a vs t.lb ∧ lbOk t.lb t.ks.length ∧ vs.length = t.ks.length ∧ ∀ (i : Nat) u k, vs[i]? = some u → t.ks[i]? = some k → At K n H u k
def SameT (H H' : Hp) : Prop := ∀ (K : PySem.W.Frag) b xs, SqT K H b xs → SqT K H' b xs
theorem Same.tup {H H' : Hp} (s : Same H H') : SameT H H' := fun K b xs e => Same.seqT s e
theorem SameX.tup {p : Addr} {H H' : Hp} {xs : List V} (s : SameX p H H') (hp : H p = some (.lst xs)) : SameT H H' := fun K b ys h => by
  rcases h with (h | ⟨o, h⟩) | h
  · exact .inl (.inl (s _ _ (ne_of h hp (by intro z; cases z)) h))
  · exact .inl (.inr ⟨o, s _ _ (ne_of h hp (by intro z; cases z)) h⟩)
  · exact .inr h
theorem SameT.trans {H H1 H2 : Hp} (a : SameT H H1) (b : SameT H1 H2) : SameT H H2 := fun K c xs e => b _ _ _ (a _ _ _ e)
variable {K : PySem.W.Frag}
theorem Shape.mono {H H' : Hp} (s : SameT H H') {a : Addr} {vs : List V} {c : Lb} (h : Shape K H a vs c) : Shape K H' a vs c := by
  cases c with
  | yes => exact ⟨h.1, s _ _ _ h.2⟩
  | sign z => exact ⟨h.1, s _ _ _ h.2⟩
  | op w => exact s _ _ _ h
  | wit m => exact s _ _ _ h
  | many w => obtain ⟨b, h1, h2⟩ := h; exact ⟨b, s _ _ _ h1, s _ _ _ h2⟩
theorem At.mono {H H' : Hp} (s : SameT H H') : ∀ {n : Nat} {v : V} {t : Tr}, At K n H v t → At K n H' v t
  | 0, _, _, h => h
  | n + 1, v, t, ⟨a, vs, e, sh, ok, l, q⟩ => ⟨a, vs, e, sh.mono s, ok, l, fun i u k h1 h2 => At.mono s (q i u k h1 h2)⟩
theorem At.up {H : Hp} : ∀ {n : Nat} {v : V} {t : Tr}, At K n H v t → At K (n + 1) H v t
  | 0, _, _, h => h.elim
  | n + 1, v, t, ⟨a, vs, e, sh, ok, l, q⟩ => ⟨a, vs, e, sh, ok, l, fun i u k h1 h2 => At.up (q i u k h1 h2)⟩
theorem At.le {H : Hp} {n m : Nat} {v : V} {t : Tr} (h : At K n H v t) (hm : n ≤ m) : At K m H v t := by
  induction hm with
  | refl => exact h
  | step _ ih => exact ih.up
def AtL (K : PySem.W.Frag) (n : Nat) (H : Hp) (vs : List V) (ts : List Tr) : Prop := vs.length = ts.length ∧ ∀ (i : Nat) u k, vs[i]? = some u → ts[i]? = some k → At K n H u k
theorem AtL.mono {n : Nat} {H H' : Hp} {vs : List V} {ts : List Tr} (s : SameT H H') (h : AtL K n H vs ts) : AtL K n H' vs ts := ⟨h.1, fun i u k h1 h2 => (h.2 i u k h1 h2).mono s⟩
theorem AtL.le {n m : Nat} {H : Hp} {vs : List V} {ts : List Tr} (h : AtL K n H vs ts) (hm : n ≤ m) : AtL K m H vs ts := ⟨h.1, fun i u k h1 h2 => (h.2 i u k h1 h2).le hm⟩
theorem AtL.nil {n : Nat} {H : Hp} : AtL K n H [] [] := ⟨rfl, fun i u k h => by simp at h⟩
theorem AtL.one {n : Nat} {H : Hp} {v : V} {t : Tr} (h : At K n H v t) : AtL K n H [v] [t] := ⟨rfl, fun i u k h1 h2 => by
  cases i with
  | zero => cases h1; cases h2; exact h
  | succ i => simp at h1⟩
theorem AtL.app {n : Nat} {H : Hp} {vs us : List V} {ts rs : List Tr} (h : AtL K n H vs ts) (g : AtL K n H us rs) : AtL K n H (vs ++ us) (ts ++ rs) := by
  refine ⟨by rw [List.length_append, List.length_append, h.1, g.1], fun i u k h1 h2 => ?_⟩
  by_cases hi : i < vs.length
  · rw [List.getElem?_append_left hi] at h1
    rw [List.getElem?_append_left (by rw [← h.1]; exact hi)] at h2
    exact h.2 i u k h1 h2
  · rw [List.getElem?_append_right (by omega)] at h1
    rw [List.getElem?_append_right (by rw [← h.1]; omega), ← h.1] at h2
    exact g.2 _ u k h1 h2
theorem AtL.rev {n : Nat} {H : Hp} {vs : List V} {ts : List Tr} (h : AtL K n H vs ts) : AtL K n H vs.reverse ts.reverse := by
  refine ⟨by rw [List.length_reverse, List.length_reverse, h.1], fun i u k h1 h2 => ?_⟩
  have hi := (List.getElem?_eq_some_iff.mp h1).1
  rw [List.length_reverse] at hi
  rw [List.getElem?_reverse hi] at h1
  rw [List.getElem?_reverse (by rw [← h.1]; exact hi), ← h.1] at h2
  exact h.2 _ u k h1 h2
theorem AtL.last {n : Nat} {H : Hp} {vs : List V} {ts : List Tr} (h : AtL K n H vs ts) (hne : vs ≠ []) : ∃ us u rs r, vs = us ++ [u] ∧ ts = rs ++ [r] ∧ AtL K n H us rs ∧ At K n H u r := by
  have hl := List.length_pos_iff.mpr hne
  have ht : ts ≠ [] := fun e => by rw [e] at h; have := h.1; simp at this; exact hne this
  have e1 := List.dropLast_concat_getLast hne
  have e2 := List.dropLast_concat_getLast ht
  have hl1 : vs.dropLast.length = ts.dropLast.length := by rw [List.length_dropLast, List.length_dropLast, h.1]
  refine ⟨vs.dropLast, vs.getLast hne, ts.dropLast, ts.getLast ht, e1.symm, e2.symm, ⟨hl1, fun i u k h1 h2 => ?_⟩, ?_⟩
  · have hi := (List.getElem?_eq_some_iff.mp h1).1
    refine h.2 i u k ?_ ?_
    · rw [← e1, List.getElem?_append_left hi]; exact h1
    · rw [← e2, List.getElem?_append_left (by rw [← hl1]; exact hi)]; exact h2
  · refine h.2 (vs.length - 1) _ _ ?_ ?_
    · rw [List.getLast_eq_getElem]; exact List.getElem?_eq_getElem _
    · rw [List.getLast_eq_getElem, h.1]; exact List.getElem?_eq_getElem _
/-! ### rooms or ways; the order in which they are gone through -/
mutual
def roomT : Tr → Bool
  | .node c ks => match c with
    | .yes => true
    | .sign _ => true
    | .op w => if w = "all" ∨ w = "some" then true else if w = "not" then roomL ks else false
    | .wit _ => false
    | .many _ => roomL ks
def roomL : List Tr → Bool
  | [] => true
  | t :: r => roomT t && roomL r
end
theorem roomL_all : ∀ ks : List Tr, roomL ks = ks.all roomT
  | [] => by rw [roomL]; rfl
  | t :: r => by rw [roomL, roomL_all r, List.all_cons]
def roomF (c : Lb) (bs : List Bool) : Bool := match c with
  | .yes => true
  | .sign _ => true
  | .op w => if w = "all" ∨ w = "some" then true else if w = "not" then bs.all id else false
  | .wit _ => false
  | .many _ => bs.all id
theorem roomT_eq (c : Lb) (ks : List Tr) : roomT (.node c ks) = roomF c (ks.map roomT) := by
  have e : (ks.map roomT).all id = roomL ks := by rw [roomL_all, List.all_map]; rfl
  cases c <;> simp only [roomT, roomF, e]
mutual
def post : Tr → List Tr
  | .node c ks => postL ks ++ [.node c ks]
def postL : List Tr → List Tr
  | [] => []
  | t :: r => post t ++ postL r
end
theorem post_eq (t : Tr) : post t = postL t.ks ++ [t] := by cases t; rw [post]; rfl
theorem postL_app : ∀ (a b : List Tr), postL (a ++ b) = postL a ++ postL b
  | [], b => by rw [List.nil_append, postL, List.nil_append]
  | t :: r, b => by rw [List.cons_append, postL, postL_app r b, postL, List.append_assoc]
theorem postL_one (t : Tr) : postL [t] = post t := by rw [postL, postL, List.append_nil]
theorem post_turn (ws : List Tr) (w : Tr) : (postL (ws ++ [w])).reverse = w :: (postL (ws ++ w.ks)).reverse := by
  rw [postL_app, postL_app, postL_one, post_eq w]
  simp
/-! the stack: what is told of all so far, by F -/
mutual
def valT {α : Type} (F : Lb → List α → α) : Tr → α
  | .node c ks => F c (valL F ks)
def valL {α : Type} (F : Lb → List α → α) : List Tr → List α
  | [] => []
  | t :: r => valT F t :: valL F r
end
theorem valL_map {α : Type} (F : Lb → List α → α) : ∀ ks : List Tr, valL F ks = ks.map (valT F)
  | [] => by rw [valL]; rfl
  | t :: r => by rw [valL, valL_map F r]; rfl
theorem valT_eq {α : Type} (F : Lb → List α → α) (t : Tr) : valT F t = F t.lb (t.ks.map (valT F)) := by
  cases t with
  | node c ks => rw [valT, valL_map]; rfl
section
variable {α : Type} {F : Lb → List α → α}
def stepF (F : Lb → List α → α) (st : List α) (t : Tr) : List α := st.take (st.length - t.ks.length) ++ [F t.lb (st.drop (st.length - t.ks.length))]
def okRun (F : Lb → List α → α) : List α → List Tr → Prop
  | _, [] => True
  | st, t :: r => (t.ks.length ≤ st.length ∧ st.drop (st.length - t.ks.length) = t.ks.map (valT F)) ∧ okRun F (stepF F st t) r
def runF (F : Lb → List α → α) : List α → List Tr → List α
  | st, [] => st
  | st, t :: r => runF F (stepF F st t) r
theorem stepF_app (st : List α) (t : Tr) : stepF F (st ++ t.ks.map (valT F)) t = st ++ [valT F t] := by
  unfold stepF
  have e : (st ++ t.ks.map (valT F)).length - t.ks.length = st.length := by rw [List.length_append, List.length_map]; omega
  rw [e, List.take_left, List.drop_left, ← valT_eq F t]
mutual
theorem run_post : ∀ (t : Tr) (st : List α) (r : List Tr), (okRun F (st ++ [valT F t]) r → okRun F st (post t ++ r)) ∧ runF F st (post t ++ r) = runF F (st ++ [valT F t]) r
  | .node c ks, st, r => by
    obtain ⟨h1, h2⟩ := run_postL ks st (.node c ks :: r)
    have e' : stepF F (st ++ ks.map (valT F)) (.node c ks) = st ++ [valT F (.node c ks)] := stepF_app st (.node c ks)
    rw [post, List.append_assoc, List.singleton_append]
    refine ⟨fun h => h1 ⟨⟨?_, ?_⟩, ?_⟩, ?_⟩
    · show ks.length ≤ _
      rw [List.length_append, List.length_map]; omega
    · show (st ++ ks.map (valT F)).drop ((st ++ ks.map (valT F)).length - ks.length) = ks.map (valT F)
      have e : (st ++ ks.map (valT F)).length - ks.length = st.length := by rw [List.length_append, List.length_map]; omega
      rw [e, List.drop_left]
    · rw [e']; exact h
    · rw [h2, runF, e']
theorem run_postL : ∀ (ks : List Tr) (st : List α) (r : List Tr), (okRun F (st ++ ks.map (valT F)) r → okRun F st (postL ks ++ r)) ∧ runF F st (postL ks ++ r) = runF F (st ++ ks.map (valT F)) r
  | [], st, r => by
    rw [postL, List.nil_append, List.map_nil, List.append_nil]
    exact ⟨id, rfl⟩
  | t :: ks, st, r => by
    obtain ⟨h1, h2⟩ := run_post t st (postL ks ++ r)
    obtain ⟨h3, h4⟩ := run_postL ks (st ++ [valT F t]) r
    rw [postL, List.append_assoc, List.map_cons]
    have e : st ++ valT F t :: ks.map (valT F) = st ++ [valT F t] ++ ks.map (valT F) := by simp
    rw [e]
    exact ⟨fun h => h1 (h3 h), by rw [h2, h4]⟩
end
theorem run_all (t : Tr) : okRun F [] (post t) ∧ runF F [] (post t) = [valT F t] := by
  obtain ⟨h1, h2⟩ := run_post (F := F) t [] []
  rw [List.append_nil] at h1 h2
  exact ⟨h1 trivial, h2⟩
end
mutual
theorem post_mem : ∀ (t : Tr), t ∈ post t
  | .node c ks => by rw [post]; simp
end
/-! ### small helps -/
theorem iteD {p A B : Prop} [Decidable p] (h : p) (a : A) : if decide p = true then A else B := by rw [if_pos (decide_eq_true h)]; exact a
theorem iteN {p A B : Prop} [Decidable p] (h : ¬ p) (b : B) : if decide p = true then A else B := by rw [if_neg (by simpa using h)]; exact b
theorem qD {p : Prop} [Decidable p] {Q : VK} {H : Hp} (h : p) (q : Q (.bl true) H) : Q (.bl (decide p)) H := by rw [decide_eq_true h]; exact q
theorem sl_tupK {X : Cx} {K : PySem.W.Frag} (hK : X.K = K) : SlR X (rSlT K) := by subst hK; exact sl_tup
theorem iteIn {w : Str} {ss : List Str} {A B : Prop} (h : w ∈ ss) (a : A) : if inV (.str w) (ss.map V.str) = true then A else B := by rw [if_pos (inV_str.mpr h)]; exact a
theorem iteNin {w : Str} {ss : List Str} {A B : Prop} (h : w ∉ ss) (b : B) : if inV (.str w) (ss.map V.str) = true then A else B := by rw [if_neg (fun e => h (inV_str.mp e))]; exact b
def LK : List (Str × Int) := [("all", 2), ("some", 2), ("not", 2), ("next", 2), ("always", 2), ("ever", 2), ("before", 2), ("once", 2), ("sofar", 2), ("until", 3), ("since", 3)]
theorem op_words : ∀ w ∈ W1 ++ W2, w ≠ "yes" ∧ w ≠ "sign" ∧ w ∉ (["and", "or"] : List Str) ∧ w ≠ "within" ∧ w ∉ (["yes", "sign"] : List Str) := by decide +kernel
theorem many_words : ∀ w ∈ (["and", "or"] : List Str), w ≠ "yes" ∧ w ≠ "sign" ∧ w ≠ "within" ∧ w ∉ (["yes", "sign"] : List Str) ∧ w ∉ (["yes", "sign", "all", "some"] : List Str) ∧ w ∈ (["not", "and", "or"] : List Str) := by decide +kernel
theorem lk1 : ∀ w ∈ W1, (w, (2 : Int)) ∈ LK := by decide +kernel
theorem lk2 : ∀ w ∈ W2, (w, (3 : Int)) ∈ LK := by decide +kernel
theorem str_ty {K : PySem.W.Frag} {H : Hp} (z : Str) : ∃ t, TyOf K H (.str z) t ∧ PySem.W.kitOne K t (.type "str") = some true := ⟨_, .str _, rfl⟩
/-- a sentence's tuple: its word stands first -/
theorem Shape.tup {H : Hp} {a : Addr} {vs : List V} {c : Lb} (h : Shape K H a vs c) : ∃ xs, SqT K H a (.str (wordL c) :: xs) := by
  cases c with
  | yes => exact ⟨[], h.2⟩
  | sign s => exact ⟨[.str s], h.2⟩
  | op w => exact ⟨vs, h⟩
  | wit m => exact ⟨.int m :: vs, h⟩
  | many w => obtain ⟨b, h1, _⟩ := h; exact ⟨[.ref b], h1⟩
/-! ### isinstance(x, tuple), also of the module's; == of deep things -/
def rIsT (K : PySem.W.Frag) : List V → Hp → VK → Prop := fun xs H Q => ∃ x, xs = [x, .ty "tuple"] ∧ ((∃ a ys, x = .ref a ∧ SqT K H a ys ∧ Q (.bl true) H) ∨ ∃ t, TyOf K H x t ∧ PySem.W.kitOne K t (.type "tuple") = some false ∧ Q (.bl false) H)
theorem call_isT {X : Cx} (hK : X.K = K) : CallR X (.builtin "isinstance") (rIsT K) := by
  subst hK
  intro pins s σ H xs us Q I r h
  obtain ⟨x, rfl, h⟩ := h
  obtain ⟨u, v, rfl, ru, rv⟩ := vals2 r
  obtain rfl : v = Value.type "tuple" := rv
  rcases h with ⟨a, ys, rfl, hq, q⟩ | ⟨t, ht, hk, q⟩
  · obtain rfl : u = Value.ref a := ru
    obtain ⟨its, r, ⟨o, h1, h2, h3⟩, hz⟩ := I.tuple hq
    exact PySem.W.kia_one (b := true) PySem.W.kitx_tuple I.kIn ⟨o, h1, h2⟩ rfl (fun z => nomatch z) fun tk => ⟨.bl true, H, I.tok _, rfl, q⟩
  · exact isinst_ok I ru ht hk fun tk => ⟨.bl false, H, I.tok _, rfl, q⟩
def rEqB (K : PySem.W.Frag) (neg : Bool) : R2 := fun x y H Q => ∃ d e, Dp K H x d ∧ Dp K H y e ∧ d.canLay0 = true ∧ e.canLay0 = true ∧ d.depth ≤ 190 ∧ Q (.bl (if neg then !PyData.eqv d e else PyData.eqv d e)) H
theorem Room.units2 {k : Nat} {A : Around} (r : Room k A) : A.units + 195 < cLine := by have := r.un; omega
theorem op_neB {X : Cx} (hK : X.K = K) (hu : X.A.units + 195 < cLine) : OpR X (compareOp .NotEq) (rEqB K true) := by
  subst hK
  intro pins s σ H x y u v Q I rx ry h
  obtain ⟨d, e, hx, hy, c1, c2, dp, q⟩ := h
  obtain ⟨as, a⟩ := hx.reads I rx
  obtain ⟨bs, b⟩ := hy.reads I ry
  exact SeqAt.compareNe_reads a b c1 c2 (by omega) ⟨.bl _, H, I, rfl, q⟩
theorem op_eqB {X : Cx} (hK : X.K = K) (hu : X.A.units + 195 < cLine) : OpR X (compareOp .Eq) (rEqB K false) := by
  subst hK
  intro pins s σ H x y u v Q I rx ry h
  obtain ⟨d, e, hx, hy, c1, c2, dp, q⟩ := h
  obtain ⟨as, a⟩ := hx.reads I rx
  obtain ⟨bs, b⟩ := hy.reads I ry
  exact SeqAt.compareEq_reads a b c1 c2 (by omega) ⟨.bl _, H, I, rfl, q⟩
end L3

set_option Elab.async false
set_option linter.all false
set_option maxRecDepth 100000
set_option maxHeartbeats 4000000
namespace L3
open PySem PySem.Spec PyProof.Rows L2
/-! ### for x in reversed(xs) -/
def Itv (K : PySem.W.Frag) (a : Addr) (n : Nat) : It :=
  ⟨fun i H => i < n ∧ ∃ xs, SqL K H a xs ∧ xs.length = n, fun i H x H' => H' = H ∧ ∀ xs, SqL K H a xs → xs[n - 1 - i]? = some x, fun i _ => n ≤ i⟩
theorem turn_rev {P : Program} {w : World} {K : PySem.W.Frag} {tg : Expr} (a it : Addr) (n : Nat) : Turn P w K tg (Itv K a n) [it] it (fun i h => i ≤ n ∧ h.IsRevIter it a ((n : Int) - 1 - (i : Int))) where
  mem := by simp
  obj := fun i h st b hb => by
    have e : b = it := by simpa using hb
    subst e
    obtain ⟨_, o, e, c, d⟩ := st
    exact ⟨o, e, fun v z => by rw [d] at z; cases z⟩
  keep := fun i h h' st k => ⟨st.1, st.2.at fun o e => k it (by simp) o e⟩
  item := by
    intro X hP hw hK hc i pins s σ H E I hf st hg
    subst hP hw hK
    obtain ⟨hi, xs, hq, hn⟩ := hg
    obtain ⟨its, rv, p, hz⟩ := I.list hq
    have hx : xs[n - 1 - i]? = some (xs[n - 1 - i]'(by omega)) := List.getElem?_eq_getElem (by omega)
    obtain ⟨u, hu, ru⟩ := rv.get hx
    obtain ⟨f0, f1, f2, f3, f4, f5⟩ := hf it (by simp)
    have e : (n : Int) - 1 - (i : Int) = ((n - 1 - i : Nat) : Int) := by omega
    have st2 := st.2
    rw [e] at st2
    refine wpAny_pyNext_rev_item st2 p.isList (x := u) (by simpa using hu) fun h' st' sb => ?_
    have I1 : Inv X pins σ H { s with heap := h' } := I.turned (t' := s.toks) (fun b o hb e => (sb.2 b hb).trans e) f0 f1 f3 f4 f5
    have e2 : ((n - 1 - i : Nat) : Int) - 1 = (n : Int) - 1 - ((i + 1 : Nat) : Int) := by omega
    rw [e2] at st'
    obtain ⟨o, e, c, d⟩ := id st'
    exact ⟨u, rfl, go_of (s := { s with heap := h' }) e c d (by decide) ⟨_, H, I1, ru, ⟨rfl, fun ys hy => by rw [I.list_inj hy hq]; exact hx⟩, ⟨hi, st'⟩, fun b hb => (hf b hb).1⟩⟩
  done := by
    intro X hP hw hK hc i pins s σ H E I hf st hg
    subst hP hw hK
    have hn : n ≤ i := hg
    obtain ⟨f0, f1, f2, f3, f4, f5⟩ := hf it (by simp)
    have e : (n : Int) - 1 - (i : Int) = -1 := by have := st.1; omega
    have st2 := st.2
    rw [e] at st2
    exact wpAny_pyNext_rev_end (I.ok.hd hc) st2 fun h' eb => ⟨rfl, I.turned (t' := s.toks) (fun b o hb e => eb b o hb e) f0 f1 f3 f4 f5⟩
  self := fun _ _ _ _ _ st h => wpAny_pyIter_revIter st.2 h
section
variable {X : Cx} {K : PySem.W.Frag} {tg : Expr}
def iRev (K : PySem.W.Frag) (ta : TA) : TI := fun σ H R => ta σ H fun vs H1 => ∃ a xs, vs = [.ref a] ∧ SqL K H1 a xs ∧ R (Itv K a xs.length) H1
theorem pi_revK {a : Expr} {ta : TA} {p pos : Pos} (hK : X.K = K) (hg : Gl X "reversed") (hm : X.mg "reversed" = none) (ha : PA X [a] ta) (hs : starEach [a] X.env = [(false, eval a X.env)] := by rfl) :
    PI X tg (.Call (.Name "reversed" p) [a] [] pos) (iRev K ta) := by
  subst hK
  intro pins s σ H R I h
  refine Call_ (ld_blt I hg hm PyProof.Rows.boot_reversed (PyProof.Rows.callWith_type1 (thn (ha pos pins s σ H _ I h) fun us s1 ⟨vs, H1, I1, r1, q1⟩ => ?_) hs rfl))
  obtain ⟨l, xs, rfl, hq, q⟩ := q1
  obtain ⟨u, rfl, ru⟩ := vals1 r1
  obtain rfl : u = Value.ref l := ru
  obtain ⟨its, rv, pl, hz⟩ := I1.list hq
  have hl := rv.length
  refine call_reversed_list pl.isList ?_
  have st : (s1.heap.push (revObj l ((its.toArray.size : Int) - 1))).IsRevIter s1.heap.objs.size l ((xs.length : Int) - 1 - ((0 : Nat) : Int)) := ⟨_, Heap.get?_push_size _ rfl, rfl, by
    show Data.fields #[Value.ref l, rawInt ((its.toArray.size : Int) - 1)] = _
    have e : (its.toArray.size : Int) - 1 = (xs.length : Int) - 1 - ((0 : Nat) : Int) := by rw [List.size_toArray]; omega
    rw [e]⟩
  refine wpAny_pyIter_revIter st ?_
  refine ⟨s1.heap.objs.size, [s1.heap.objs.size], _, _, H1, rfl, I1.kept (t' := s1.toks) fun b o e => Heap.get?_push_of_some _ e, turn_rev l _ xs.length, ⟨Nat.zero_le _, st⟩, fun b hb => ?_, q⟩
  have e : b = s1.heap.objs.size := by simpa using hb
  subst e
  exact I1.fpOk (Nat.le_refl _) (I1.hok.fresh (Nat.le_refl _))
theorem op_catTK (hK : X.K = K) : OpR X (binaryOp .Add) (rCatT K) := by subst hK; exact op_catT
end
end L3

set_option Elab.async false
set_option linter.all false
set_option maxRecDepth 100000
set_option maxHeartbeats 4000000
namespace L3
open PySem PySem.Spec L2
/-! ### cores -/
abbrev nYes : Tr := .node .yes []
abbrev nNot (t : Tr) : Tr := .node (.op "not") [t]
abbrev nNext (t : Tr) : Tr := .node (.op "next") [t]
abbrev nSome (t : Tr) : Tr := .node (.op "some") [t]
abbrev nAnd (a b : Tr) : Tr := .node (.many "and") [a, b]
abbrev nUnt (a b : Tr) : Tr := .node (.op "until") [a, b]
abbrev nSin (a b : Tr) : Tr := .node (.op "since") [a, b]
def andT : List Tr → Tr
  | [] => nYes
  | [x] => x
  | x :: y :: r => nAnd x (andT (y :: r))
def orT : List Tr → Tr
  | [] => nNot nYes
  | [x] => x
  | x :: y :: r => nNot (nAnd (nNot x) (nNot (orT (y :: r))))
def withinT : Nat → Tr → Tr → Tr
  | 0, _, s => s
  | n + 1, f, s => nNot (nAnd (nNot s) (nNot (nAnd f (nNext (withinT n f s)))))
def coreF (c : Lb) (cs : List Tr) : Tr := match c with
  | .yes => nYes
  | .sign s => .node (.sign s) []
  | .many w => if w = "and" then andT cs else orT cs
  | .wit m => withinT m.toNat (cs.getD 0 nYes) (cs.getD 1 nYes)
  | .op w => if w = "all" then nNot (nSome (nNot (cs.getD 0 nYes))) else if w = "ever" then nUnt nYes (cs.getD 0 nYes) else if w = "always" then nNot (nUnt nYes (nNot (cs.getD 0 nYes)))
    else if w = "once" then nSin nYes (cs.getD 0 nYes) else if w = "sofar" then nNot (nSin nYes (nNot (cs.getD 0 nYes))) else .node (.op w) cs
def coreT : Tr → Tr := valT coreF
theorem coreT_eq (t : Tr) : coreT t = coreF t.lb (t.ks.map coreT) := valT_eq coreF t
/-! measures: each by one step -/
def mx (l : List Nat) : Nat := l.foldr max 0
theorem mx_le {l : List Nat} {m : Nat} : mx l ≤ m ↔ ∀ x ∈ l, x ≤ m := by
  induction l with
  | nil => simp [mx]
  | cons a r ih =>
    have e : mx (a :: r) = max a (mx r) := rfl
    rw [e, Nat.max_le, ih]
    simp
def hgt : Tr → Nat := valT fun _ hs => mx hs + 1
theorem hgt_eq (t : Tr) : hgt t = mx (t.ks.map hgt) + 1 := valT_eq _ t
def dpt : Tr → Nat := valT fun c ds => match c with | .many _ => mx ds + 2 | _ => mx ds + 1
theorem dpt_eq (t : Tr) : dpt t = match t.lb with | .many _ => mx (t.ks.map dpt) + 2 | _ => mx (t.ks.map dpt) + 1 := valT_eq _ t
def psz (t : Tr) : Nat := (post t).length
theorem psz_eq (t : Tr) : psz t = (t.ks.map psz).sum + 1 := by
  have key : ∀ ks : List Tr, (postL ks).length = (ks.map psz).sum := by
    intro ks
    induction ks with
    | nil => rfl
    | cons a r ih => rw [postL, List.length_append, ih, List.map_cons, List.sum_cons]; rfl
  unfold psz
  rw [post_eq t, List.length_append, key]
  rfl
theorem psz_pos (t : Tr) : 1 ≤ psz t := by rw [psz_eq]; omega
theorem hgt_pos (t : Tr) : 1 ≤ hgt t := by rw [hgt_eq]; omega
theorem At.hgt_le {K : PySem.W.Frag} {H : Hp} : ∀ {n : Nat} {v : V} {t : Tr}, At K n H v t → hgt t ≤ n
  | 0, _, _, h => h.elim
  | n + 1, v, t, ⟨a, vs, e, sh, ok, l, q⟩ => by
    rw [hgt_eq]
    have : mx (t.ks.map hgt) ≤ n := mx_le.mpr fun x hx => by
      obtain ⟨k, hk, rfl⟩ := List.mem_map.mp hx
      obtain ⟨i, hi, rfl⟩ := List.getElem_of_mem hk
      exact At.hgt_le (q i _ _ (List.getElem?_eq_getElem (by omega)) (List.getElem?_eq_getElem hi))
    omega
theorem hgt_kid {t k : Tr} (h : k ∈ t.ks) : hgt k + 1 ≤ hgt t := by
  rw [hgt_eq t]
  have := (mx_le (m := mx (t.ks.map hgt))).mp (Nat.le_refl _) (hgt k) (List.mem_map_of_mem h)
  omega
theorem At.fit {K : PySem.W.Frag} {H : Hp} : ∀ {n m : Nat} {v : V} {t : Tr}, At K n H v t → hgt t ≤ m → At K m H v t
  | 0, _, _, _, h, _ => h.elim
  | n + 1, 0, v, t, h, hm => by have := hgt_pos t; omega
  | n + 1, m + 1, v, t, ⟨a, vs, e, sh, ok, l, q⟩, hm => ⟨a, vs, e, sh, ok, l, fun i u k h1 h2 => At.fit (q i u k h1 h2) (by have := hgt_kid (List.mem_of_getElem? h2); omega)⟩
/-! what is true of a measure at coreF -/
section
theorem getD_mem {cs : List Tr} {i : Nat} {P : Tr → Prop} (h : ∀ c ∈ cs, P c) (hy : P nYes) : P (cs.getD i nYes) := by
  cases e : cs[i]? with
  | none => rw [List.getD_eq_getElem?_getD, e]; exact hy
  | some x => rw [List.getD_eq_getElem?_getD, e]; exact h x (List.mem_of_getElem? e)
theorem hgt_node (c : Lb) (ks : List Tr) : hgt (.node c ks) = mx (ks.map hgt) + 1 := hgt_eq _
theorem psz_node (c : Lb) (ks : List Tr) : psz (.node c ks) = (ks.map psz).sum + 1 := psz_eq _
theorem dpt_node (c : Lb) (ks : List Tr) : dpt (.node c ks) = match c with | .many _ => mx (ks.map dpt) + 2 | _ => mx (ks.map dpt) + 1 := dpt_eq _
theorem mx1 (a : Nat) : mx [a] = a := by simp [mx]
theorem mx2 (a b : Nat) : mx [a, b] = max a b := by simp [mx]
theorem hgt_core {c : Lb} {cs : List Tr} {m : Nat} (ok : lbOk c cs.length) (h : ∀ k ∈ cs, hgt k ≤ m) (hm : 1 ≤ m) : hgt (coreF c cs) ≤ m + 27 := by
  have y : hgt nYes = 1 := rfl
  have g0 : hgt (cs.getD 0 nYes) ≤ m := getD_mem (P := fun k => hgt k ≤ m) h (by rw [y]; exact hm)
  have g1 : hgt (cs.getD 1 nYes) ≤ m := getD_mem (P := fun k => hgt k ≤ m) h (by rw [y]; exact hm)
  have ha : ∀ cs : List Tr, (∀ k ∈ cs, hgt k ≤ m) → hgt (andT cs) ≤ m + cs.length := by
    intro cs
    induction cs with
    | nil => intro _; show hgt nYes ≤ _; rw [y]; omega
    | cons x r ih =>
      intro h
      cases r with
      | nil => have := h x (by simp); show hgt x ≤ _; omega
      | cons z r =>
        have i2 := ih fun k hk => h k (List.mem_cons_of_mem _ hk)
        have := h x (by simp)
        show hgt (nAnd x (andT (z :: r))) ≤ _
        rw [hgt_node, List.map_cons, List.map_cons, List.map_nil, mx2]
        simp only [List.length_cons] at i2 ⊢
        omega
  have ho : ∀ cs : List Tr, (∀ k ∈ cs, hgt k ≤ m) → hgt (orT cs) ≤ m + 3 * cs.length + 1 := by
    intro cs
    induction cs with
    | nil => intro _; show hgt (nNot nYes) ≤ _; rw [hgt_node, List.map_cons, List.map_nil, mx1, y]; omega
    | cons x r ih =>
      intro h
      cases r with
      | nil => have := h x (by simp); show hgt x ≤ _; omega
      | cons z r =>
        have i2 := ih fun k hk => h k (List.mem_cons_of_mem _ hk)
        have := h x (by simp)
        show hgt (nNot (nAnd (nNot x) (nNot (orT (z :: r))))) ≤ _
        simp only [hgt_node, List.map_cons, List.map_nil, mx1, mx2]
        simp only [List.length_cons] at i2 ⊢
        omega
  have hw : ∀ n f s, hgt f ≤ m → hgt s ≤ m → hgt (withinT n f s) ≤ m + 5 * n := by
    intro n f s hf hs
    induction n with
    | zero => show hgt s ≤ _; omega
    | succ n ih =>
      show hgt (nNot (nAnd (nNot s) (nNot (nAnd f (nNext (withinT n f s)))))) ≤ _
      simp only [hgt_node, List.map_cons, List.map_nil, mx1, mx2]
      omega
  cases c with
  | yes => show hgt nYes ≤ _; rw [y]; omega
  | sign z => show hgt (.node (.sign z) []) ≤ _; rw [hgt_node]; simp [mx]
  | many w =>
    show hgt (if w = "and" then andT cs else orT cs) ≤ _
    have := ok.2
    split
    · have := ha cs h; omega
    · have := ho cs h; omega
  | wit k =>
    have := hw k.toNat _ _ g0 g1
    have := ok.1
    show hgt (withinT k.toNat _ _) ≤ _
    omega
  | op w =>
    have hself : hgt (.node (.op w) cs) ≤ m + 27 := by
      rw [hgt_node]
      have : mx (cs.map hgt) ≤ m := mx_le.mpr fun x hx => by obtain ⟨k, hk, rfl⟩ := List.mem_map.mp hx; exact h k hk
      omega
    unfold coreF
    dsimp only
    split
    · simp only [hgt_node, List.map_cons, List.map_nil, mx1]; omega
    split
    · simp only [hgt_node, List.map_cons, List.map_nil, mx1, mx2, y]; omega
    split
    · simp only [hgt_node, List.map_cons, List.map_nil, mx1, mx2, y]; omega
    split
    · simp only [hgt_node, List.map_cons, List.map_nil, mx1, mx2, y]; omega
    split
    · simp only [hgt_node, List.map_cons, List.map_nil, mx1, mx2, y]; omega
    · exact hself
theorem dpt_core {c : Lb} {cs : List Tr} {m : Nat} (ok : lbOk c cs.length) (h : ∀ k ∈ cs, dpt k ≤ m) (hm : 1 ≤ m) : dpt (coreF c cs) ≤ m + 35 := by
  have y : dpt nYes = 1 := rfl
  have g0 : dpt (cs.getD 0 nYes) ≤ m := getD_mem (P := fun k => dpt k ≤ m) h (by rw [y]; exact hm)
  have g1 : dpt (cs.getD 1 nYes) ≤ m := getD_mem (P := fun k => dpt k ≤ m) h (by rw [y]; exact hm)
  have ha : ∀ cs : List Tr, (∀ k ∈ cs, dpt k ≤ m) → dpt (andT cs) ≤ m + 2 * cs.length := by
    intro cs
    induction cs with
    | nil => intro _; show dpt nYes ≤ _; rw [y]; omega
    | cons x r ih =>
      intro h
      cases r with
      | nil => have := h x (by simp); show dpt x ≤ _; omega
      | cons z r =>
        have i2 := ih fun k hk => h k (List.mem_cons_of_mem _ hk)
        have := h x (by simp)
        show dpt (nAnd x (andT (z :: r))) ≤ _
        simp only [dpt_node, List.map_cons, List.map_nil, mx2]
        simp only [List.length_cons] at i2 ⊢
        omega
  have ho : ∀ cs : List Tr, (∀ k ∈ cs, dpt k ≤ m) → dpt (orT cs) ≤ m + 4 * cs.length + 1 := by
    intro cs
    induction cs with
    | nil => intro _; show dpt (nNot nYes) ≤ _; simp only [dpt_node, List.map_cons, List.map_nil, mx1, y]; omega
    | cons x r ih =>
      intro h
      cases r with
      | nil => have := h x (by simp); show dpt x ≤ _; omega
      | cons z r =>
        have i2 := ih fun k hk => h k (List.mem_cons_of_mem _ hk)
        have := h x (by simp)
        show dpt (nNot (nAnd (nNot x) (nNot (orT (z :: r))))) ≤ _
        simp only [dpt_node, List.map_cons, List.map_nil, mx1, mx2]
        simp only [List.length_cons] at i2 ⊢
        omega
  have hw : ∀ n f s, dpt f ≤ m → dpt s ≤ m → dpt (withinT n f s) ≤ m + 7 * n := by
    intro n f s hf hs
    induction n with
    | zero => show dpt s ≤ _; omega
    | succ n ih =>
      show dpt (nNot (nAnd (nNot s) (nNot (nAnd f (nNext (withinT n f s)))))) ≤ _
      simp only [dpt_node, List.map_cons, List.map_nil, mx1, mx2]
      omega
  cases c with
  | yes => show dpt nYes ≤ _; rw [y]; omega
  | sign z => show dpt (.node (.sign z) []) ≤ _; simp [dpt_node, mx]
  | many w =>
    show dpt (if w = "and" then andT cs else orT cs) ≤ _
    have := ok.2
    split
    · have := ha cs h; omega
    · have := ho cs h; omega
  | wit k =>
    have := hw k.toNat _ _ g0 g1
    have := ok.1
    show dpt (withinT k.toNat _ _) ≤ _
    omega
  | op w =>
    have hself : dpt (.node (.op w) cs) ≤ m + 35 := by
      simp only [dpt_node]
      have : mx (cs.map dpt) ≤ m := mx_le.mpr fun x hx => by obtain ⟨k, hk, rfl⟩ := List.mem_map.mp hx; exact h k hk
      omega
    unfold coreF
    dsimp only
    split
    · simp only [dpt_node, List.map_cons, List.map_nil, mx1]; omega
    split
    · simp only [dpt_node, List.map_cons, List.map_nil, mx1, mx2, y]; omega
    split
    · simp only [dpt_node, List.map_cons, List.map_nil, mx1, mx2, y]; omega
    split
    · simp only [dpt_node, List.map_cons, List.map_nil, mx1, mx2, y]; omega
    split
    · simp only [dpt_node, List.map_cons, List.map_nil, mx1, mx2, y]; omega
    · exact hself
theorem psz_core {c : Lb} {cs : List Tr} {m : Nat} (ok : lbOk c cs.length) (h : ∀ k ∈ cs, psz k ≤ m) (hm : 1 ≤ m) : psz (coreF c cs) ≤ 11 * m + 35 := by
  have y : psz nYes = 1 := rfl
  have g0 : psz (cs.getD 0 nYes) ≤ m := getD_mem (P := fun k => psz k ≤ m) h (by rw [y]; exact hm)
  have g1 : psz (cs.getD 1 nYes) ≤ m := getD_mem (P := fun k => psz k ≤ m) h (by rw [y]; exact hm)
  have ha : ∀ cs : List Tr, (∀ k ∈ cs, psz k ≤ m) → psz (andT cs) ≤ cs.length * m + cs.length + 1 := by
    intro cs
    induction cs with
    | nil => intro _; show psz nYes ≤ _; rw [y]; omega
    | cons x r ih =>
      intro h
      cases r with
      | nil => have := h x (by simp); show psz x ≤ _; simp; omega
      | cons z r =>
        have i2 := ih fun k hk => h k (List.mem_cons_of_mem _ hk)
        have := h x (by simp)
        show psz (nAnd x (andT (z :: r))) ≤ _
        simp only [psz_node, List.map_cons, List.map_nil, List.sum_cons, List.sum_nil]
        simp only [List.length_cons, Nat.succ_mul] at i2 ⊢
        omega
  have ho : ∀ cs : List Tr, (∀ k ∈ cs, psz k ≤ m) → psz (orT cs) ≤ cs.length * m + 4 * cs.length + 2 := by
    intro cs
    induction cs with
    | nil => intro _; show psz (nNot nYes) ≤ _; simp only [psz_node, List.map_cons, List.map_nil, List.sum_cons, List.sum_nil]; omega
    | cons x r ih =>
      intro h
      cases r with
      | nil => have := h x (by simp); show psz x ≤ _; simp; omega
      | cons z r =>
        have i2 := ih fun k hk => h k (List.mem_cons_of_mem _ hk)
        have := h x (by simp)
        show psz (nNot (nAnd (nNot x) (nNot (orT (z :: r))))) ≤ _
        simp only [psz_node, List.map_cons, List.map_nil, List.sum_cons, List.sum_nil]
        simp only [List.length_cons, Nat.succ_mul] at i2 ⊢
        omega
  have hw : ∀ n f s, psz f ≤ m → psz s ≤ m → psz (withinT n f s) ≤ m + n * (2 * m + 7) := by
    intro n f s hf hs
    induction n with
    | zero => show psz s ≤ _; omega
    | succ n ih =>
      show psz (nNot (nAnd (nNot s) (nNot (nAnd f (nNext (withinT n f s)))))) ≤ _
      simp only [psz_node, List.map_cons, List.map_nil, List.sum_cons, List.sum_nil]
      rw [Nat.succ_mul]
      omega
  cases c with
  | yes => show psz nYes ≤ _; rw [y]; omega
  | sign z => show psz (.node (.sign z) []) ≤ _; simp [psz_node]
  | many w =>
    show psz (if w = "and" then andT cs else orT cs) ≤ _
    have h8 : cs.length ≤ 8 := ok.2
    have h8m : cs.length * m ≤ 8 * m := Nat.mul_le_mul_right _ h8
    split
    · have := ha cs h; omega
    · have := ho cs h; omega
  | wit k =>
    have := hw k.toNat _ _ g0 g1
    have h5 : k.toNat ≤ 5 := by have := ok.1; omega
    have h5m : k.toNat * (2 * m + 7) ≤ 5 * (2 * m + 7) := Nat.mul_le_mul_right _ h5
    show psz (withinT k.toNat _ _) ≤ _
    omega
  | op w =>
    have hself : psz (.node (.op w) cs) ≤ 11 * m + 35 := by
      rw [psz_node]
      have hl : cs.length = 1 ∨ cs.length = 2 := by rcases ok with o | o; exact .inl o.2; exact .inr o.2
      match cs, hl, h with
      | [a], _, h => have := h a (by simp); simp; omega
      | [a, b], _, h => have := h a (by simp); have := h b (by simp); simp; omega
    unfold coreF
    dsimp only
    split
    · simp only [psz_node, List.map_cons, List.map_nil, List.sum_cons, List.sum_nil]; omega
    split
    · simp only [psz_node, List.map_cons, List.map_nil, List.sum_cons, List.sum_nil]; omega
    split
    · simp only [psz_node, List.map_cons, List.map_nil, List.sum_cons, List.sum_nil]; omega
    split
    · simp only [psz_node, List.map_cons, List.map_nil, List.sum_cons, List.sum_nil]; omega
    split
    · simp only [psz_node, List.map_cons, List.map_nil, List.sum_cons, List.sum_nil]; omega
    · exact hself
end
/-! ### cores of cores -/
def W6 : List Str := ["not", "next", "until", "before", "since", "some"]
def isCF (c : Lb) (bs : List Bool) : Bool := bs.all id && match c with
  | .yes => bs.isEmpty
  | .sign _ => bs.isEmpty
  | .op w => decide (w ∈ W6)
  | .wit _ => false
  | .many w => decide (w = "and") && decide (bs.length = 2)
def isC : Tr → Bool := valT isCF
theorem isC_eq (t : Tr) : isC t = isCF t.lb (t.ks.map isC) := valT_eq isCF t
theorem isC_node (c : Lb) (ks : List Tr) : isC (.node c ks) = isCF c (ks.map isC) := isC_eq _
theorem isC_kids {t : Tr} (h : isC t = true) : ∀ k ∈ t.ks, isC k = true := by
  rw [isC_eq] at h
  unfold isCF at h
  rw [Bool.and_eq_true] at h
  intro k hk
  have := List.all_eq_true.mp h.1 (isC k) (List.mem_map_of_mem hk)
  exact this
theorem w_rest : ∀ w ∈ W1 ++ W2, w ≠ "all" → w ≠ "ever" → w ≠ "always" → w ≠ "once" → w ≠ "sofar" → w ∈ W6 := by decide +kernel
theorem isC_core {c : Lb} {cs : List Tr} (ok : lbOk c cs.length) (h : ∀ k ∈ cs, isC k = true) : isC (coreF c cs) = true := by
  have y : isC nYes = true := rfl
  have n1 : ∀ {w : Str} {a : Tr}, w ∈ W6 → isC a = true → isC (.node (.op w) [a]) = true := fun {w a} hw ha => by
    rw [isC_node]
    simp [isCF, ha, hw]
  have n2 : ∀ {w : Str} {a b : Tr}, w ∈ W6 → isC a = true → isC b = true → isC (.node (.op w) [a, b]) = true := fun {w a b} hw ha hb => by
    rw [isC_node]
    simp [isCF, ha, hb, hw]
  have na : ∀ {a b : Tr}, isC a = true → isC b = true → isC (nAnd a b) = true := fun {a b} ha hb => by
    rw [isC_node]
    simp [isCF, ha, hb]
  have wn : ("not" : Str) ∈ W6 := by decide +kernel
  have g0 : isC (cs.getD 0 nYes) = true := getD_mem (P := fun k => isC k = true) h y
  have g1 : isC (cs.getD 1 nYes) = true := getD_mem (P := fun k => isC k = true) h y
  have ha : ∀ cs : List Tr, (∀ k ∈ cs, isC k = true) → isC (andT cs) = true := by
    intro cs
    induction cs with
    | nil => intro _; exact y
    | cons x r ih =>
      intro h
      cases r with
      | nil => exact h x (by simp)
      | cons z r => exact na (h x (by simp)) (ih fun k hk => h k (List.mem_cons_of_mem _ hk))
  have ho : ∀ cs : List Tr, (∀ k ∈ cs, isC k = true) → isC (orT cs) = true := by
    intro cs
    induction cs with
    | nil => intro _; exact n1 wn y
    | cons x r ih =>
      intro h
      cases r with
      | nil => exact h x (by simp)
      | cons z r => exact n1 wn (na (n1 wn (h x (by simp))) (n1 wn (ih fun k hk => h k (List.mem_cons_of_mem _ hk))))
  have hw : ∀ n f s, isC f = true → isC s = true → isC (withinT n f s) = true := by
    intro n f s hf hs
    induction n with
    | zero => exact hs
    | succ n ih => exact n1 wn (na (n1 wn hs) (n1 wn (na hf (n1 (by decide +kernel) ih))))
  cases c with
  | yes => exact y
  | sign z => rfl
  | many w =>
    show isC (if w = "and" then andT cs else orT cs) = true
    split
    · exact ha cs h
    · exact ho cs h
  | wit k => exact hw _ _ _ g0 g1
  | op w =>
    unfold coreF
    dsimp only
    split
    · exact n1 wn (n1 (by decide +kernel) (n1 wn g0))
    rename_i h1
    split
    · exact n2 (by decide +kernel) y g0
    rename_i h2
    split
    · exact n1 wn (n2 (by decide +kernel) y (n1 wn g0))
    rename_i h3
    split
    · exact n2 (by decide +kernel) y g0
    rename_i h4
    split
    · exact n1 wn (n2 (by decide +kernel) y (n1 wn g0))
    rename_i h5
    have hw6 : w ∈ W6 := w_rest w (by rcases ok with o | o; exact List.mem_append_left _ o.1; exact List.mem_append_right _ o.1) h1 h2 h3 h4 h5
    rw [isC_node]
    unfold isCF
    rw [Bool.and_eq_true]
    refine ⟨List.all_eq_true.mpr fun b hb => ?_, decide_eq_true hw6⟩
    obtain ⟨k, hk, rfl⟩ := List.mem_map.mp hb
    exact h k hk
theorem room_core {c : Lb} {ks : List Tr} (hr : roomF c (ks.map roomT) = true) (h : ∀ k ∈ ks, roomT k = true → roomT (coreT k) = true) : roomT (coreF c (ks.map coreT)) = true := by
  have r1 : ∀ w a, roomT (.node (.op w) [a]) = roomF (.op w) [roomT a] := fun w a => roomT_eq _ _
  have ra : ∀ a b, roomT a = true → roomT b = true → roomT (nAnd a b) = true := fun a b ha hb => by
    rw [roomT_eq]
    show ([a, b].map roomT).all id = true
    simp [ha, hb]
  have rn : ∀ a, roomT a = true → roomT (nNot a) = true := fun a ha => by
    rw [r1]
    show (if ("not" : Str) = "all" ∨ ("not" : Str) = "some" then true else if ("not" : Str) = "not" then [roomT a].all id else false) = true
    rw [if_neg (by decide +kernel), if_pos rfl]
    simp [ha]
  have rs : ∀ a, roomT (nSome a) = true := fun a => by
    rw [r1]
    show (if ("some" : Str) = "all" ∨ ("some" : Str) = "some" then true else if ("some" : Str) = "not" then [roomT a].all id else false) = true
    rw [if_pos (.inr rfl)]
  have ha : ∀ cs : List Tr, (∀ k ∈ cs, roomT k = true) → roomT (andT cs) = true := by
    intro cs
    induction cs with
    | nil => intro _; rfl
    | cons x r ih =>
      intro h
      cases r with
      | nil => exact h x (by simp)
      | cons z r => exact ra _ _ (h x (by simp)) (ih fun k hk => h k (List.mem_cons_of_mem _ hk))
  have ho : ∀ cs : List Tr, (∀ k ∈ cs, roomT k = true) → roomT (orT cs) = true := by
    intro cs
    induction cs with
    | nil => intro _; exact rn _ rfl
    | cons x r ih =>
      intro h
      cases r with
      | nil => exact h x (by simp)
      | cons z r => exact rn _ (ra _ _ (rn _ (h x (by simp))) (rn _ (ih fun k hk => h k (List.mem_cons_of_mem _ hk))))
  have all : (ks.map roomT).all id = true → ∀ k ∈ ks.map coreT, roomT k = true := fun hall k hk => by
    obtain ⟨q, hq, rfl⟩ := List.mem_map.mp hk
    exact h q hq (List.all_eq_true.mp hall (roomT q) (List.mem_map_of_mem hq))
  cases c with
  | yes => rfl
  | sign z => rfl
  | wit m => cases hr
  | many w =>
    have hr' : (ks.map roomT).all id = true := hr
    show roomT (if w = "and" then _ else _) = true
    split
    · exact ha _ (all hr')
    · exact ho _ (all hr')
  | op w =>
    have hr' : (if w = "all" ∨ w = "some" then true else if w = "not" then (ks.map roomT).all id else false) = true := hr
    by_cases h1 : w = "all"
    · subst h1
      exact rn _ (rs _)
    by_cases h2 : w = "some"
    · subst h2
      show roomT (.node (.op "some") _) = true
      rw [roomT_eq]
      show (if ("some" : Str) = "all" ∨ ("some" : Str) = "some" then true else if ("some" : Str) = "not" then ((ks.map coreT).map roomT).all id else false) = true
      rw [if_pos (.inr rfl)]
    rw [if_neg (fun z => by rcases z with z | z; exact h1 z; exact h2 z)] at hr'
    by_cases h3 : w = "not"
    · subst h3
      rw [if_pos rfl] at hr'
      show roomT (.node (.op "not") _) = true
      rw [roomT_eq]
      show (if ("not" : Str) = "all" ∨ ("not" : Str) = "some" then true else if ("not" : Str) = "not" then ((ks.map coreT).map roomT).all id else false) = true
      rw [if_neg (by decide +kernel), if_pos rfl]
      refine List.all_eq_true.mpr fun b hb => ?_
      obtain ⟨k, hk, rfl⟩ := List.mem_map.mp hb
      exact all hr' k hk
    · rw [if_neg h3] at hr'
      cases hr'
/-! ### all of it, by the height -/
def OkN : Nat → Tr → Prop
  | 0, _ => False
  | n + 1, t => lbOk t.lb t.ks.length ∧ ∀ k ∈ t.ks, OkN n k
theorem At.ok {K : PySem.W.Frag} {H : Hp} : ∀ {n : Nat} {v : V} {t : Tr}, At K n H v t → OkN n t
  | 0, _, _, h => h
  | n + 1, v, t, ⟨a, vs, e, sh, ok, l, q⟩ => ⟨ok, fun k hk => by
    obtain ⟨i, hi, rfl⟩ := List.getElem_of_mem hk
    exact At.ok (q i _ _ (List.getElem?_eq_getElem (by omega)) (List.getElem?_eq_getElem hi))⟩
def Bz : Nat → Nat
  | 0 => 1
  | n + 1 => 11 * Bz n + 35
theorem Bz_pos : ∀ n, 1 ≤ Bz n
  | 0 => Nat.le_refl _
  | n + 1 => by show 1 ≤ 11 * Bz n + 35; omega
theorem core_all : ∀ (n : Nat) (t : Tr), OkN n t → hgt (coreT t) ≤ 28 * n ∧ dpt (coreT t) ≤ 36 * n ∧ psz (coreT t) ≤ Bz n ∧ isC (coreT t) = true ∧ (roomT t = true → roomT (coreT t) = true)
  | 0, _, h => h.elim
  | n + 1, t, ⟨ok, h⟩ => by
    have ih := fun k hk => core_all n k (h k hk)
    have ok' : lbOk t.lb (t.ks.map coreT).length := by rw [List.length_map]; exact ok
    have ih1 : ∀ k ∈ t.ks.map coreT, hgt k ≤ max 1 (28 * n) := fun k hk => by obtain ⟨q, hq, rfl⟩ := List.mem_map.mp hk; have := (ih q hq).1; omega
    have ih2 : ∀ k ∈ t.ks.map coreT, dpt k ≤ max 1 (36 * n) := fun k hk => by obtain ⟨q, hq, rfl⟩ := List.mem_map.mp hk; have := (ih q hq).2.1; omega
    have ih3 : ∀ k ∈ t.ks.map coreT, psz k ≤ Bz n := fun k hk => by obtain ⟨q, hq, rfl⟩ := List.mem_map.mp hk; exact (ih q hq).2.2.1
    have ih4 : ∀ k ∈ t.ks.map coreT, isC k = true := fun k hk => by obtain ⟨q, hq, rfl⟩ := List.mem_map.mp hk; exact (ih q hq).2.2.2.1
    rw [coreT_eq]
    have a1 := hgt_core ok' ih1 (by omega)
    have a2 := dpt_core ok' ih2 (by omega)
    have a3 := psz_core ok' ih3 (Bz_pos n)
    refine ⟨by omega, by omega, a3, isC_core ok' ih4, fun hr => room_core ?_ fun k hk => (ih k hk).2.2.2.2⟩
    rw [← roomT_eq]
    rw [← Tr.eta]
    exact hr
/-! ### tuples that are sentences -/
theorem post_len (c : Lb) (ks : List Tr) : (post (.node c ks)).length = (postL ks).length + 1 := by rw [post, List.length_append]; rfl
theorem at_yes {K : PySem.W.Frag} {n : Nat} {H : Hp} {t : Addr} (e : SqT K H t [.str "yes"]) : At K (n + 1) H (.ref t) (.node .yes []) := ⟨t, [], rfl, ⟨rfl, e⟩, rfl, rfl, fun i u k h => by simp at h⟩
theorem at_sign {K : PySem.W.Frag} {n : Nat} {H : Hp} {t : Addr} {z : Str} (e : SqT K H t [.str "sign", .str z]) (hz : isNameS z = true) : At K (n + 1) H (.ref t) (.node (.sign z) []) := ⟨t, [], rfl, ⟨rfl, e⟩, ⟨rfl, hz⟩, rfl, fun i u k h => by simp at h⟩
theorem at_op1 {K : PySem.W.Frag} {n : Nat} {H : Hp} {t : Addr} {w : Str} {u : V} {k : Tr} (e : SqT K H t [.str w, u]) (hw : w ∈ W1) (h : At K n H u k) : At K (n + 1) H (.ref t) (.node (.op w) [k]) := ⟨t, [u], rfl, e, .inl ⟨hw, rfl⟩, rfl, (AtL.one h).2⟩
theorem at_op2 {K : PySem.W.Frag} {n : Nat} {H : Hp} {t : Addr} {w : Str} {u v : V} {k r : Tr} (e : SqT K H t [.str w, u, v]) (hw : w ∈ W2) (h : At K n H u k) (g : At K n H v r) : At K (n + 1) H (.ref t) (.node (.op w) [k, r]) := ⟨t, [u, v], rfl, e, .inr ⟨hw, rfl⟩, rfl, ((AtL.one h).app (AtL.one g)).2⟩
theorem at_wit {K : PySem.W.Frag} {n : Nat} {H : Hp} {t : Addr} {m : Int} {u v : V} {k r : Tr} (e : SqT K H t [.str "within", .int m, u, v]) (hm : 0 ≤ m ∧ m ≤ 5) (h : At K n H u k) (g : At K n H v r) : At K (n + 1) H (.ref t) (.node (.wit m) [k, r]) := ⟨t, [u, v], rfl, e, ⟨hm, rfl⟩, rfl, ((AtL.one h).app (AtL.one g)).2⟩
theorem at_mny {K : PySem.W.Frag} {n : Nat} {H : Hp} {t b : Addr} {w : Str} {us : List V} {ks : List Tr} (e : SqT K H t [.str w, .ref b]) (eb : SqT K H b us) (h : AtL K n H us ks) (hw : w = "and" ∨ w = "or") (hk : ks.length ≤ 8) : At K (n + 1) H (.ref t) (.node (.many w) ks) := ⟨t, us, rfl, ⟨b, e, eb⟩, ⟨hw, hk⟩, h.1, h.2⟩
theorem cut_init (xs : List V) (h : 0 < xs.length) : cutV xs none (some (-1)) = xs.take (xs.length - 1) := by
  unfold cutV
  have e1 : HT.sIx xs.length 0 none = 0 := rfl
  have e2 : HT.sIx xs.length xs.length (some (-1)) = xs.length - 1 := by unfold HT.sIx; simp; omega
  rw [e1, e2]
  simp
theorem andT_cons {x : Tr} {l : List Tr} (h : l ≠ []) : andT (x :: l) = nAnd x (andT l) := by
  cases l with
  | nil => exact absurd rfl h
  | cons y r => rfl
theorem orT_cons {x : Tr} {l : List Tr} (h : l ≠ []) : orT (x :: l) = nNot (nAnd (nNot x) (nNot (orT l))) := by
  cases l with
  | nil => exact absurd rfl h
  | cons y r => rfl
theorem hgt_within {m : Nat} {f s : Tr} (hf : hgt f ≤ m) (hs : hgt s ≤ m) : ∀ n, hgt (withinT n f s) ≤ m + 5 * n := by
  intro n
  induction n with
  | zero => show hgt s ≤ _; omega
  | succ n ih =>
    show hgt (nNot (nAnd (nNot s) (nNot (nAnd f (nNext (withinT n f s)))))) ≤ _
    simp only [hgt_node, List.map_cons, List.map_nil, mx1, mx2]
    omega
theorem AtL.two {K : PySem.W.Frag} {n : Nat} {H : Hp} {u v : V} {a b : Tr} (h : At K n H u a) (g : At K n H v b) : AtL K n H [u, v] [a, b] := (AtL.one h).app (AtL.one g)
theorem atI_last {xs : List V} {u : V} : atI (xs ++ [u]) (-1) = some u := by
  have := atI_back (xs := xs ++ [u]) (k := 1) (by decide) (by simp)
  simpa using this
end L3

set_option Elab.async false
set_option linter.all false
set_option maxRecDepth 100000
set_option maxHeartbeats 4000000
namespace L3
open PySem PySem.Spec L2
/-! ### a sentence as data -/
def dF (c : Lb) (ds : List PyData) : PyData := match c with
  | .yes => .tuple [.str "yes"]
  | .sign s => .tuple [.str "sign", .str s]
  | .op w => .tuple (.str w :: ds)
  | .wit m => .tuple (.str "within" :: .int m :: ds)
  | .many w => .tuple [.str w, .tuple ds]
def dTr : Tr → PyData := valT dF
theorem dTr_eq (t : Tr) : dTr t = dF t.lb (t.ks.map dTr) := valT_eq dF t
theorem dpAll_at {K : PySem.W.Frag} {H : Hp} : ∀ {vs : List V} {ks : List Tr}, vs.length = ks.length → (∀ (i : Nat) u k, vs[i]? = some u → ks[i]? = some k → Dp K H u (dTr k)) → DpAll K H vs (ks.map dTr)
  | [], [], _, _ => .nil
  | v :: vs, k :: ks, hl, h => .cons (h 0 v k rfl rfl) (dpAll_at (by simpa using hl) fun i u k h1 h2 => h (i + 1) u k h1 h2)
  | [], k :: ks, hl, _ => by cases hl
  | v :: vs, [], hl, _ => by cases hl
theorem At.dp {K : PySem.W.Frag} {H : Hp} : ∀ {n : Nat} {v : V} {t : Tr}, At K n H v t → Dp K H v (dTr t)
  | 0, _, _, h => h.elim
  | n + 1, v, t, ⟨a, vs, e, sh, ok, l, q⟩ => by
    have all : DpAll K H vs (t.ks.map dTr) := dpAll_at l fun i u k h1 h2 => At.dp (q i u k h1 h2)
    rw [dTr_eq]
    subst e
    revert sh ok
    cases t.lb with
    | yes => intro sh ok; exact .tup sh.2 (.cons (.str _) .nil)
    | sign s => intro sh ok; exact .tup sh.2 (.cons (.str _) (.cons (.str _) .nil))
    | op w => intro sh ok; exact .tup sh (.cons (.str _) all)
    | wit m => intro sh ok; exact .tup sh (.cons (.str _) (.cons (.int _) all))
    | many w => intro sh ok; obtain ⟨b, h1, h2⟩ := sh; exact .tup h1 (.cons (.str _) (.cons (.tup h2 all) .nil))
theorem w_name : ∀ w ∈ W1 ++ W2, isNameS w = true := by decide +kernel
theorem m_name : ∀ w ∈ (["and", "or"] : List Str), isNameS w = true := by decide +kernel
theorem lay_str {s : Str} (h : isNameS s = true) : (PyData.str s).canLay0 = true := by simp [PyData.canLay0, strOk_name h]
theorem OkN.fine : ∀ {n : Nat} {t : Tr}, OkN n t → Fine (dpt t) (dTr t)
  | 0, _, h => h.elim
  | n + 1, t, ⟨ok, h⟩ => by
    have ih : ∀ k ∈ t.ks, Fine (mx (t.ks.map dpt)) (dTr k) := fun k hk => (OkN.fine (h k hk)).up ((mx_le (m := mx (t.ks.map dpt))).mp (Nat.le_refl _) _ (List.mem_map_of_mem hk))
    obtain ⟨a, b⟩ := fineAll ih
    rw [dTr_eq, dpt_eq]
    revert ok
    cases t.lb with
    | yes =>
      intro ok
      have y := lay_str (s := "yes") (by decide +kernel)
      exact ⟨by simp [dF, PyData.canLay0, PyData.canLayAll0] at y ⊢; exact y, by simp [dF, PyData.depth, PyData.depthAll]⟩
    | sign s =>
      intro ok
      have y := lay_str (s := "sign") (by decide +kernel)
      have z := lay_str ok.2
      exact ⟨by simp [dF, PyData.canLay0, PyData.canLayAll0] at y z ⊢; exact ⟨y, z⟩, by simp [dF, PyData.depth, PyData.depthAll]⟩
    | op w =>
      intro ok
      have y := lay_str (w_name w (by rcases ok with ok | ok; exact List.mem_append_left _ ok.1; exact List.mem_append_right _ ok.1))
      refine ⟨?_, ?_⟩
      · show (PyData.tuple (.str w :: t.ks.map dTr)).canLay0 = true
        rw [PyData.canLay0, PyData.canLayAll0, y, a]; rfl
      · show (PyData.tuple (.str w :: t.ks.map dTr)).depth ≤ mx (t.ks.map dpt) + 1
        simp only [PyData.depth, PyData.depthAll]
        omega
    | wit m =>
      intro ok
      have y := lay_str (s := "within") (by decide +kernel)
      have z : (PyData.int m).canLay0 = true := by simp [PyData.canLay0]
      refine ⟨?_, ?_⟩
      · show (PyData.tuple (.str "within" :: .int m :: t.ks.map dTr)).canLay0 = true
        rw [PyData.canLay0, PyData.canLayAll0, PyData.canLayAll0, y, z, a]; rfl
      · show (PyData.tuple (.str "within" :: .int m :: t.ks.map dTr)).depth ≤ mx (t.ks.map dpt) + 1
        simp only [PyData.depth, PyData.depthAll]
        omega
    | many w =>
      intro ok
      have y := lay_str (m_name w (by rcases ok.1 with rfl | rfl <;> simp))
      refine ⟨?_, ?_⟩
      · show (PyData.tuple [.str w, .tuple (t.ks.map dTr)]).canLay0 = true
        rw [PyData.canLay0, PyData.canLayAll0, PyData.canLayAll0, PyData.canLayAll0, y, PyData.canLay0, a]; rfl
      · show (PyData.tuple [.str w, .tuple (t.ks.map dTr)]).depth ≤ mx (t.ks.map dpt) + 2
        simp only [PyData.depth, PyData.depthAll]
        omega
end L3

set_option Elab.async false
set_option linter.all false
set_option maxRecDepth 100000
set_option maxHeartbeats 4000000
namespace L3
open PySem PySem.Spec L2
/-! ### what is_formed says False of -/
abbrev NW : List Str := ["yes", "sign", "and", "or", "within"]
inductive Fm (K : PySem.W.Frag) (H : Hp) : V → Prop
  | noT {v : V} : Kd H v → isTy H "tuple" v = false → Fm K H v
  | emp {a : Addr} : SqT K H a [] → Fm K H (.ref a)
  | noS {a : Addr} {x : V} {xs : List V} : SqT K H a (x :: xs) → Kd H x → isTy H "str" x = false → Fm K H (.ref a)
  | yes {a : Addr} {xs : List V} : SqT K H a (.str "yes" :: xs) → xs.length ≠ 0 → Fm K H (.ref a)
  | sgnL {a : Addr} {xs : List V} : SqT K H a (.str "sign" :: xs) → xs.length ≠ 1 → Fm K H (.ref a)
  | sgn {a : Addr} {x : V} : SqT K H a [.str "sign", x] → Kd H x → isNameV x = false → Fm K H (.ref a)
  | manyL {a : Addr} {w : Str} {xs : List V} : w ∈ (["and", "or"] : List Str) → SqT K H a (.str w :: xs) → xs.length ≠ 1 → Fm K H (.ref a)
  | manyN {a : Addr} {w : Str} {x : V} : w ∈ (["and", "or"] : List Str) → SqT K H a [.str w, x] → Kd H x → isTy H "tuple" x = false → Fm K H (.ref a)
  | witL {a : Addr} {xs : List V} : SqT K H a (.str "within" :: xs) → xs.length ≠ 3 → Fm K H (.ref a)
  | witN {a : Addr} {x y z : V} : SqT K H a [.str "within", x, y, z] → Kd H x → isIntV x = false → Fm K H (.ref a)
  | witM {a : Addr} {m : Int} {y z : V} : SqT K H a [.str "within", .int m, y, z] → ¬ (0 ≤ m ∧ m ≤ 5) → Fm K H (.ref a)
  | word {a : Addr} {w : Str} {xs : List V} : SqT K H a (.str w :: xs) → w ∈ (["signs", "Next"] : List Str) → Fm K H (.ref a)
  | lens {a : Addr} {w : Str} {i : Int} {xs : List V} : SqT K H a (.str w :: xs) → w ∉ NW → (w, i) ∈ LK → ((xs.length + 1 : Nat) : Int) ≠ i → Fm K H (.ref a)
theorem Fm.mono {K : PySem.W.Frag} {H H' : Hp} (s : Same H H') {v : V} (h : Fm K H v) : Fm K H' v := by
  cases h with
  | noT k e => exact .noT (k.mono s) ((isTy_same s k).trans e)
  | emp e => exact .emp (Same.tup s _ _ _ e)
  | noS e k h => exact .noS (Same.tup s _ _ _ e) (k.mono s) ((isTy_same s k).trans h)
  | yes e h => exact .yes (Same.tup s _ _ _ e) h
  | sgnL e h => exact .sgnL (Same.tup s _ _ _ e) h
  | sgn e k h => exact .sgn (Same.tup s _ _ _ e) (k.mono s) h
  | manyL w e h => exact .manyL w (Same.tup s _ _ _ e) h
  | manyN w e k h => exact .manyN w (Same.tup s _ _ _ e) (k.mono s) ((isTy_same s k).trans h)
  | witL e h => exact .witL (Same.tup s _ _ _ e) h
  | witN e k h => exact .witN (Same.tup s _ _ _ e) (k.mono s) h
  | witM e h => exact .witM (Same.tup s _ _ _ e) h
  | word e h1 => exact .word (Same.tup s _ _ _ e) h1
  | lens e h1 h2 h3 => exact .lens (Same.tup s _ _ _ e) h1 h2 h3
/-! ### sentences with something in them that is none -/
inductive Bt where
  | lf
  | nd (c : Lb) (ks : List Bt)
mutual
def hasBad : Bt → Bool
  | .lf => true
  | .nd _ ks => hasBadL ks
def hasBadL : List Bt → Bool
  | [] => false
  | b :: r => hasBad b || hasBadL r
end
mutual
def bsz : Bt → Nat
  | .lf => 1
  | .nd _ ks => bszL ks + 1
def bszL : List Bt → Nat
  | [] => 0
  | b :: r => bsz b + bszL r
end
/-- as lbOk, with more room behind and, or -/
def lbOkB : Lb → Nat → Prop
  | .yes, n => lbOk .yes n
  | .sign s, n => lbOk (.sign s) n
  | .op w, n => lbOk (.op w) n
  | .wit m, n => lbOk (.wit m) n
  | .many w, n => (w = "and" ∨ w = "or") ∧ n ≤ 1000
theorem lbOk.b {c : Lb} {n : Nat} (h : lbOk c n) : lbOkB c n := by
  cases c with
  | many w => exact ⟨h.1, Nat.le_trans h.2 (by decide)⟩
  | yes => exact h
  | sign s => exact h
  | op w => exact h
  | wit m => exact h
def BAt (K : PySem.W.Frag) : Nat → Hp → V → Bt → Prop
  | 0, _, _, _ => False
  | _ + 1, H, v, .lf => Fm K H v
  | n + 1, H, v, .nd c ks => ∃ a vs, v = .ref a ∧ Shape K H a vs c ∧ lbOkB c ks.length ∧ vs.length = ks.length ∧ ∀ (i : Nat) u k, vs[i]? = some u → ks[i]? = some k → BAt K n H u k
theorem BAt.mono {K : PySem.W.Frag} {H H' : Hp} (s : Same H H') : ∀ {n : Nat} {v : V} {b : Bt}, BAt K n H v b → BAt K n H' v b
  | 0, _, _, h => h.elim
  | n + 1, v, .lf, h => Fm.mono s h
  | n + 1, v, .nd c ks, ⟨a, vs, e, sh, ok, l, q⟩ => ⟨a, vs, e, sh.mono (Same.tup s), ok, l, fun i u k h1 h2 => BAt.mono s (q i u k h1 h2)⟩
theorem BAt.up {K : PySem.W.Frag} {H : Hp} : ∀ {n : Nat} {v : V} {b : Bt}, BAt K n H v b → BAt K (n + 1) H v b
  | 0, _, _, h => h.elim
  | n + 1, v, .lf, h => h
  | n + 1, v, .nd c ks, ⟨a, vs, e, sh, ok, l, q⟩ => ⟨a, vs, e, sh, ok, l, fun i u k h1 h2 => BAt.up (q i u k h1 h2)⟩
theorem BAt.le {K : PySem.W.Frag} {H : Hp} {n m : Nat} {v : V} {b : Bt} (h : BAt K n H v b) (hm : n ≤ m) : BAt K m H v b := by
  induction hm with
  | refl => exact h
  | step _ ih => exact ih.up
mutual
def bOf : Tr → Bt
  | .node c ks => .nd c (bOfL ks)
def bOfL : List Tr → List Bt
  | [] => []
  | t :: r => bOf t :: bOfL r
end
mutual
theorem bsz_of : ∀ t : Tr, bsz (bOf t) = (post t).length
  | .node c ks => by rw [bOf, bsz, bszL_of ks, post, List.length_append]; rfl
theorem bszL_of : ∀ ks : List Tr, bszL (bOfL ks) = (postL ks).length
  | [] => by rw [bOfL, bszL, postL]; rfl
  | t :: r => by rw [bOfL, bszL, bsz_of t, bszL_of r, postL, List.length_append]
end
def BAtL (K : PySem.W.Frag) (n : Nat) (H : Hp) (vs : List V) (bs : List Bt) : Prop := vs.length = bs.length ∧ ∀ (i : Nat) u k, vs[i]? = some u → bs[i]? = some k → BAt K n H u k
theorem BAtL.one {K : PySem.W.Frag} {n : Nat} {H : Hp} {v : V} {b : Bt} (h : BAt K n H v b) : BAtL K n H [v] [b] := ⟨rfl, fun i u k h1 h2 => by
  cases i with
  | zero => cases h1; cases h2; exact h
  | succ i => simp at h1⟩
theorem BAtL.le {K : PySem.W.Frag} {n m : Nat} {H : Hp} {vs : List V} {bs : List Bt} (h : BAtL K n H vs bs) (hm : n ≤ m) : BAtL K m H vs bs := ⟨h.1, fun i u k h1 h2 => (h.2 i u k h1 h2).le hm⟩
theorem BAtL.app {K : PySem.W.Frag} {n : Nat} {H : Hp} {vs us : List V} {ts rs : List Bt} (h : BAtL K n H vs ts) (g : BAtL K n H us rs) : BAtL K n H (vs ++ us) (ts ++ rs) := by
  refine ⟨by rw [List.length_append, List.length_append, h.1, g.1], fun i u k h1 h2 => ?_⟩
  by_cases hi : i < vs.length
  · rw [List.getElem?_append_left hi] at h1
    rw [List.getElem?_append_left (by rw [← h.1]; exact hi)] at h2
    exact h.2 i u k h1 h2
  · rw [List.getElem?_append_right (by omega)] at h1
    rw [List.getElem?_append_right (by rw [← h.1]; omega), ← h.1] at h2
    exact g.2 _ u k h1 h2
theorem BAtL.last {K : PySem.W.Frag} {n : Nat} {H : Hp} {vs : List V} {ts : List Bt} (h : BAtL K n H vs ts) (hne : vs ≠ []) : ∃ us u rs r, vs = us ++ [u] ∧ ts = rs ++ [r] ∧ BAtL K n H us rs ∧ BAt K n H u r := by
  have hl := List.length_pos_iff.mpr hne
  have ht : ts ≠ [] := fun e => by rw [e] at h; have := h.1; simp at this; exact hne this
  have e1 := List.dropLast_concat_getLast hne
  have e2 := List.dropLast_concat_getLast ht
  have hl1 : vs.dropLast.length = ts.dropLast.length := by rw [List.length_dropLast, List.length_dropLast, h.1]
  refine ⟨vs.dropLast, vs.getLast hne, ts.dropLast, ts.getLast ht, e1.symm, e2.symm, ⟨hl1, fun i u k h1 h2 => ?_⟩, ?_⟩
  · have hi := (List.getElem?_eq_some_iff.mp h1).1
    refine h.2 i u k ?_ ?_
    · rw [← e1, List.getElem?_append_left hi]; exact h1
    · rw [← e2, List.getElem?_append_left (by rw [← hl1]; exact hi)]; exact h2
  · refine h.2 (vs.length - 1) _ _ ?_ ?_
    · rw [List.getLast_eq_getElem]; exact List.getElem?_eq_getElem _
    · rw [List.getLast_eq_getElem, h.1]; exact List.getElem?_eq_getElem _
/-- what is_formed says True of -/
def FmT (K : PySem.W.Frag) (H : Hp) (v : V) : Prop := ∃ a us c, v = .ref a ∧ Shape K H a us c ∧ lbOkB c us.length
theorem At.fmT {K : PySem.W.Frag} {H : Hp} {n : Nat} {v : V} {t : Tr} (h : At K n H v t) : FmT K H v := by
  cases n with
  | zero => exact h.elim
  | succ n =>
    obtain ⟨a, vs, e, sh, ok, l, _⟩ := h
    exact ⟨a, vs, t.lb, e, sh, by rw [l]; exact ok.b⟩
/-- x in a dict of the module: yes or no -/
def rInD2 (K : PySem.W.Frag) (P : Params) : R2 := fun x y H Q => ∃ z D kvs b, x = .str z ∧ y = .ref D ∧ DicK K P D kvs ∧ ((b = true ∧ ∃ i, (z, i) ∈ kvs) ∨ (b = false ∧ PySem.W.nsIn K D z = some none)) ∧ Q (.bl b) H
theorem op_inD2 {X : Cx} {K : PySem.W.Frag} {P : Params} (hK : X.K = K) (hw : X.w.params = P) : OpR X (compareOp .In) (rInD2 K P) := by
  subst hK hw
  intro pins s σ H x y v u Q I rx ry h
  obtain ⟨z, D, kvs, b, rfl, rfl, d, hb, q⟩ := h
  obtain ⟨t, rfl⟩ := (show ∃ t, v = Value.str z t from rx)
  obtain rfl : u = Value.ref D := ry
  obtain ⟨m, F⟩ := I.fr
  obtain ⟨es, n, lk, hk⟩ := d.ex
  rcases hb with ⟨rfl, i, hm⟩ | ⟨rfl, ea⟩
  · obtain ⟨t2, ea⟩ := d.at_ _ hm
    exact PySem.W.topIn_K F I.mod.kin lk hk ea d.lo ⟨.bl true, H, I.tok _, rfl, q⟩
  · exact PySem.W.topIn_K F I.mod.kin lk hk ea d.lo ⟨.bl false, H, I.tok _, rfl, q⟩
theorem qN {p : Prop} [Decidable p] {Q : VK} {H : Hp} (h : ¬ p) (q : Q (.bl false) H) : Q (.bl (decide p)) H := by rw [decide_eq_false h]; exact q
end L3

set_option Elab.async false
set_option linter.all false
set_option maxRecDepth 100000
set_option maxHeartbeats 4000000
namespace L3
open PySem PySem.Spec L2
/-! ### k12: where something that is none is put in -/
theorem BAtL.set {K : PySem.W.Frag} {n : Nat} {H : Hp} {vs : List V} {bs : List Bt} (h : BAtL K n H vs bs) {i : Nat} {u : V} {b : Bt} (g : BAt K n H u b) : BAtL K n H (vs.set i u) (bs.set i b) := by
  refine ⟨by rw [List.length_set, List.length_set]; exact h.1, fun j x k h1 h2 => ?_⟩
  by_cases e : i = j
  · subst e
    have l1 := (List.getElem?_eq_some_iff.mp h1).1
    have l2 := (List.getElem?_eq_some_iff.mp h2).1
    rw [List.length_set] at l1 l2
    rw [List.getElem?_set_self l1] at h1
    rw [List.getElem?_set_self l2] at h2
    cases h1; cases h2; exact g
  · rw [List.getElem?_set_ne e] at h1 h2
    exact h.2 j x k h1 h2
def SameL (H H' : Hp) : Prop := ∀ b o, H b = some o → H' b = some o ∨ ∃ xs ys, o = .lst xs ∧ H' b = some (.lst ys)
theorem Same.l {H H' : Hp} (s : Same H H') : SameL H H' := fun b o e => .inl (s b o e)
theorem SameL.trans {H H1 H2 : Hp} (a : SameL H H1) (b : SameL H1 H2) : SameL H H2 := fun c o e => by
  rcases a c o e with h | ⟨xs, ys, rfl, h⟩
  · exact b c o h
  · rcases b c _ h with h2 | ⟨xs2, ys2, _, h2⟩
    · exact .inr ⟨xs, ys, rfl, h2⟩
    · exact .inr ⟨xs, ys2, rfl, h2⟩
theorem SameX.l {p : Addr} {H H' : Hp} {xs ys : List V} (s : SameX p H H') (h : H p = some (.lst xs)) (h' : H' p = some (.lst ys)) : SameL H H' := fun b o e => by
  by_cases hb : b = p
  · subst hb
    rw [h] at e
    cases e
    exact .inr ⟨xs, ys, rfl, h'⟩
  · exact .inl (s b o hb e)
theorem SameL.upd {R : Addr} {H : Hp} {xs ys : List V} (h : H R = some (.lst xs)) : SameL H (upd H R (.lst ys)) := SameX.l ((SameX.refl H).upd) h upd_same
theorem SameL.tup {H H' : Hp} (s : SameL H H') : SameT H H' := fun K b xs h => by
  rcases h with (h | ⟨o, h⟩) | h
  · rcases s _ _ h with h2 | ⟨_, _, z, _⟩
    · exact .inl (.inl h2)
    · cases z
  · rcases s _ _ h with h2 | ⟨_, _, z, _⟩
    · exact .inl (.inr ⟨o, h2⟩)
    · cases z
  · exact .inr h
theorem Shape.pre {K : PySem.W.Frag} {H : Hp} {a : Addr} {us : List V} {c : Lb} (sh : Shape K H a us c) (ok : lbOk c us.length) (h1 : wordL c ∉ (["yes", "sign"] : List Str)) (h2 : wordL c ∉ (["and", "or"] : List Str)) :
    ∃ pre : List V, ((pre.length : Int) = 1 + (if decide (V.str (wordL c) = V.str "within") = true then 1 else 0)) ∧ SqT K H a (pre ++ us) ∧ (∀ H' r vs, SqT K H' r (pre ++ vs) → Shape K H' r vs c) ∧ 1 ≤ us.length ∧ us.length ≤ 2 ∧ lbOkB c us.length ∧ pre ≠ [] := by
  cases c with
  | yes => exact absurd (by simp [wordL]) h1
  | sign z => exact absurd (by simp [wordL]) h1
  | many w => exact absurd (by rcases ok.1 with rfl | rfl <;> simp [wordL]) h2
  | wit m => exact ⟨[.str "within", .int m], by show ((2 : Nat) : Int) = 1 + (if decide (V.str "within" = V.str "within") = true then 1 else 0); rw [if_pos (decide_eq_true rfl)]; rfl, sh, fun H' r vs h => h, by rw [ok.2]; decide, by rw [ok.2]; decide, ok, by simp⟩
  | op w =>
    have hw : w ∈ W1 ++ W2 := by rcases ok with ⟨h, _⟩ | ⟨h, _⟩; exact List.mem_append_left _ h; exact List.mem_append_right _ h
    have hn : ¬ (w = "within") := (op_words w hw).2.2.2.1
    have hl : 1 ≤ us.length ∧ us.length ≤ 2 := by rcases ok with ⟨_, h⟩ | ⟨_, h⟩ <;> omega
    refine ⟨[.str w], ?_, sh, fun H' r vs h => h, hl.1, hl.2, ok, by simp⟩
    show ((1 : Nat) : Int) = 1 + (if decide (V.str w = V.str "within") = true then 1 else 0)
    rw [if_neg (fun z => hn (V.str.inj (of_decide_eq_true z)))]
    rfl
end L3


set_option Elab.async false
set_option linter.all false
set_option maxRecDepth 100000
/-! THE HAND LAYER, for ints, bools, texts, own classes, DICTS (int and text keys), calls, loops. Paste it whole ahead of your own text; what your proof does not reach may be deleted. -/
namespace L2
open PySem PySem.Spec PyProof.Rows

end L2

namespace L2
open PySem PySem.Spec PyProof.Rows

section
variable (P : Program) (w : World)
end

section
variable {P : Program} {w : World} {H H' : Hp} {h h' : Heap} {a : Addr} {o : HO}
end

section
variable {P : Program} {w : World} {H : Hp} {h h' : Heap} {x e : Addr} {o' : HO}
end

/-! ### kept unless tracked; of the frames at fs (the callers') the slots may change (an exception that passes writes there); of the records at ex (iterators) nothing is said -/
section
variable {fs fs' ex ex' : List Addr} {H H1 H2 : Hp} {h h1 h2 h' : Heap} {a x e : Addr} {o : HO}
end

/-! ### the heap without what is tracked -/
/-! ### OpenK's ledger, filled with every new object but one -/
end L2

namespace L2
open PySem PySem.Spec PyProof.Rows

section
variable {X : Cx} {pins : List (Addr × Obj)} {σ : List (Option V)} {H H' : Hp} {s : Shared} {h' : Heap}

end

/-! ### the judgements -/
end L2

namespace L2
open PySem PySem.Spec PyProof.Rows
section
variable {X : Cx}

/-! ### names and constants -/
/-! ### arithmetic -/
variable {a b : Expr} {ta tb : TE} {pos : Pos}
/-! ### comparisons -/
/-! ### and, or, not -/
variable {tA tB' : TT} {rest : List Expr}
end
end L2

namespace L2
open PySem PySem.Spec PyProof.Rows

/-! ### a list, a tuple that is read: tracked, frozen, or an object of the module -/
section
variable {X : Cx} {pins : List (Addr × Obj)} {σ : St} {H : Hp} {s : Shared} {a : Addr} {xs ys : List V}
end

/-! ### another wish about exceptions -/
section
variable {X : Cx} {pins : List (Addr × Obj)} {σ : St} {H : Hp} {s : Shared} {E : Value → Shared → Prop}
end

/-! ### blocks and small statements -/
section
variable {X : Cx} {st : Stmt} {rest : List Stmt} {t u : TS} {e : Expr} {te : TE} {pos : Pos}
end

/-! ### targets -/
section
variable {X : Cx} {pos : Pos}
end

/-! ### while -/
section
variable {X : Cx} {pos : Pos}
end

/-! ### what a loop or a comprehension walks -/
end L2

namespace L2
open PySem PySem.Spec PyProof.Rows
section
variable {X : Cx} {tg : Expr}
/-! ### for -/
end

/-! ### the forms one uses -/
end L2

namespace L2
open PySem PySem.Spec PyProof.Rows

section
variable {X : Cx} {a b c : Expr} {ta tb tc : TE} {pos : Pos}

/-! ### ints -/
/-! ### bools among ints: n += (a < b) -/
end

/-! ### comparisons -/
section
variable {X : Cx} {a b c : Expr} {ta tb tc : TE} {pos : Pos}
/-! ### truth -/
/-! ### strs and bytes -/
/-! ### scalar builtins, by CallR -/
end
end L2

namespace L2
open PySem PySem.Spec PyProof.Rows

/-! ### an instance, its attributes a map -/
section
variable {prog : Program} {w : World} {A : Around} {E : Value → Shared → Prop} {s : Shared} {K : PySem.W.Frag} {x dx C f : Addr} {mA : Str → Option Value} {name : Str} {v : Value}

end

/-! ### the attributes as a list of pairs -/
section
variable {P : Program} {w : World} {H H' : Hp} {h h' : Heap} {a C dx : Addr} {fs fs' : List (Str × V)}
end

/-! ### what of the text a class must have -/
section
variable {X : Cx} {pins : List (Addr × Obj)} {σ : St} {H : Hp} {s : Shared} {a C dx : Addr} {fs : List (Str × V)} {f : Str} {v : V} {A : Around} {E : Value → Shared → Prop}

end

/-! ### readings and rules -/
section
variable {X : Cx} {o e value : Expr} {f : Str} {pos pos' tpos : Pos} {ta tv : TE}
end

/-! ### isinstance -/
section
variable {X : Cx} {pins : List (Addr × Obj)} {σ : St} {H : Hp} {s : Shared} {A : Around} {E : Value → Shared → Prop} {Q : Value → Shared → Prop} {c : Value} {b : Bool}
end
end L2

namespace L2
open PySem PySem.Spec PyProof.Rows

/-! ### room -/
/-! ### argument lists and displays -/
section
variable {X : Cx} {e : Expr} {es : List Expr} {te : TE} {t : TA} {pos : Pos}
end

/-! ### what a def promises -/
section
variable {X : Cx} {pins : List (Addr × Obj)} {σ : St} {H : Hp} {s s' : Shared}
end

/-! ### calls -/
section
variable {X : Cx} {CX : CXT} {k : Nat} {f C : Addr} {fd : FuncData} {ps : List Str} {sp : Sp} {dvs : List V} {ds : List Value} {E : XK} {x m : Str} {p pos apos : Pos} {e o : Expr} {es : List Expr} {ta : TE} {t : TA}

end

/-! ### keywords -/
section
variable {X : Cx} {CX : CXT} {k : Nat} {f C : Addr} {fd : FuncData} {ps ks : List Str} {sp : Sp} {E : XK} {x m : Str} {p pos apos kpos : Pos} {e o : Expr} {es : List Expr} {kws : List Keyword} {te ta : TE} {t tk : TA} {nm : Option Str}
variable {g : List Value → List Value → List Value} {gV : List V → List V → List V}
end

/-! ### a def's body keeps its promise -/
end L2

namespace L2
open PySem PySem.Spec PyProof.Rows
section
variable {X : Cx} {x : Str} {p pos : Pos} {e : Expr} {es : List Expr} {t : TA} {id T : String} {r : List V → Hp → VK → Prop}

end
end L2

namespace L2
open PySem PySem.Spec PyProof.Rows

/-! ### lists of pairs as tables -/
section
variable {κ : Type} [DecidableEq κ]
def valV (kvs : List (κ × V)) (k : κ) : Option V := (kvs.find? fun kv => decide (kv.1 = k)).map (·.2)
/-- in its place, or at the end -/
def putK (kvs : List (κ × V)) (k : κ) (v : V) : List (κ × V) :=
  if (kvs.any fun kv => decide (kv.1 = k)) = true then kvs.map (fun kv => if kv.1 = k then (kv.1, v) else kv) else kvs ++ [(k, v)]
def dropK (kvs : List (κ × V)) (k : κ) : List (κ × V) := kvs.filter fun kv => decide (kv.1 ≠ k)

theorem valV_pos {p : κ × V} {r : List (κ × V)} {k : κ} (e : p.1 = k) : valV (p :: r) k = some p.2 := by simp [valV, List.find?_cons, e]
theorem valV_neg {p : κ × V} {r : List (κ × V)} {k : κ} (e : ¬ p.1 = k) : valV (p :: r) k = valV r k := by simp [valV, List.find?_cons, e]
theorem valV_any (k : κ) : ∀ kvs : List (κ × V), (kvs.any fun kv => decide (kv.1 = k)) = (valV kvs k).isSome
  | [] => rfl
  | p :: r => by
    rw [List.any_cons]
    by_cases e : p.1 = k
    · simp only [valV_pos e, decide_eq_true e, Bool.true_or, Option.isSome_some]
    · rw [valV_neg e, decide_eq_false e, Bool.false_or]; exact valV_any k r
theorem RelO.isSome_eq {o : Option V} {u : Option Value} (r : RelO o u) : o.isSome = u.isSome := by
  cases o with
  | none => cases u with
    | none => rfl
    | some _ => exact (show False from r).elim
  | some _ => cases u with
    | none => exact (show False from r).elim
    | some _ => rfl
theorem RelO.getD {o : Option V} {u : Option Value} {d : V} {d' : Value} (r : RelO o u) (rd : RelV d d') : RelV (o.getD d) (u.getD d') := by
  cases o with
  | none => cases u with
    | none => exact rd
    | some _ => exact (show False from r).elim
  | some _ => cases u with
    | none => exact (show False from r).elim
    | some _ => exact r

/-- raw tables of the same keys -/
theorem KV.val {kvs : List (κ × V)} {vs : List (κ × Value)} (r : KV kvs vs) (k : κ) : RelO (valV kvs k) (valueAt vs k) := by
  unfold KV at r
  induction r with
  | nil => exact True.intro
  | @cons p q ps qs h t ih =>
    obtain ⟨h1, h2⟩ := h
    by_cases e : p.1 = k
    · have e' : q.1 = k := h1.symm.trans e
      have b : valueAt (q :: qs) k = some q.2 := by simp [valueAt, List.find?_cons, e']
      rw [valV_pos e, b]; exact h2
    · have e' : ¬ q.1 = k := fun z => e (h1.trans z)
      have b : valueAt (q :: qs) k = valueAt qs k := by simp [valueAt, List.find?_cons, e']
      rw [valV_neg e, b]; exact ih
theorem KV.any {kvs : List (κ × V)} {vs : List (κ × Value)} (r : KV kvs vs) (k : κ) : (kvs.any fun kv => decide (kv.1 = k)) = vs.any fun kv => decide (kv.1 = k) := by
  unfold KV at r
  induction r with
  | nil => rfl
  | cons h t ih => rw [List.any_cons, List.any_cons, ih, h.1]
theorem KV.repl {kvs : List (κ × V)} {vs : List (κ × Value)} (r : KV kvs vs) (k : κ) {y : V} {u : Value} (ry : RelV y u) :
    KV (kvs.map fun kv => if kv.1 = k then (kv.1, y) else kv) (vs.map fun kv => if kv.1 = k then (kv.1, u) else kv) := by
  unfold KV at r ⊢
  induction r with
  | nil => exact .nil
  | @cons p q ps qs h t ih =>
    rw [List.map_cons, List.map_cons]
    refine .cons ?_ ih
    obtain ⟨h1, h2⟩ := h
    by_cases e : p.1 = k
    · rw [if_pos e, if_pos (h1.symm.trans e)]; exact ⟨h1, ry⟩
    · rw [if_neg e, if_neg (fun z => e (h1.trans z))]; exact ⟨h1, h2⟩
theorem KV.put {kvs : List (κ × V)} {vs : List (κ × Value)} (r : KV kvs vs) (k : κ) {y : V} {u : Value} (ry : RelV y u) : KV (putK kvs k y) (stored vs k u) := by
  unfold putK stored
  rw [r.any k]
  by_cases e : (vs.any fun kv => decide (kv.1 = k)) = true
  · rw [if_pos e, if_pos e]; exact r.repl k ry
  · rw [if_neg e, if_neg e]; exact Paired.snoc r ⟨rfl, ry⟩
theorem KV.drop {kvs : List (κ × V)} {vs : List (κ × Value)} (r : KV kvs vs) (k : κ) : KV (dropK kvs k) (without vs k) := by
  unfold KV at r ⊢
  unfold dropK without
  induction r with
  | nil => exact .nil
  | @cons p q ps qs h t ih =>
    obtain ⟨h1, h2⟩ := h
    rw [List.filter_cons, List.filter_cons]
    by_cases e : p.1 = k
    · have a : ¬ decide (p.1 ≠ k) = true := by simp [e]
      have b : ¬ decide (q.1 ≠ k) = true := by simp [h1.symm.trans e]
      rw [if_neg a, if_neg b]; exact ih
    · have e' : ¬ q.1 = k := fun z => e (h1.trans z)
      have a : decide (p.1 ≠ k) = true := by simp [e]
      have b : decide (q.1 ≠ k) = true := by simp [e']
      rw [if_pos a, if_pos b]; exact .cons ⟨h1, h2⟩ ih
theorem KV.keys {kvs : List (κ × V)} {vs : List (κ × Value)} (r : KV kvs vs) : kvs.map (·.1) = vs.map (·.1) := by
  unfold KV at r
  induction r with
  | nil => rfl
  | cons h t ih => rw [List.map_cons, List.map_cons, ih, h.1]
theorem KV.length {kvs : List (κ × V)} {vs : List (κ × Value)} (r : KV kvs vs) : kvs.length = vs.length := Paired.length r
end


/-! ### a tracked dict, its keys ints and texts or tuples of these -/
theorem kV_is {P : Program} {w : World} {k : Key} {u : Value} (r : RelV (kV k) u) : (mixKind P w).is k u = true := by
  cases k with
  | inl i => obtain ⟨t, e⟩ := (show ∃ t, u = Value.int i t from r); subst e; exact mixKind_int P w i t
  | inr x => obtain ⟨t, e⟩ := (show ∃ t, u = Value.str x t from r); subst e; exact mixKind_str P w x t
theorem items_are {P : Program} {w : World} : ∀ {ks : List Key} {us : List Value}, Vals (ks.map kV) us → ItemsAre (mixKind P w) ks us
  | [], _, r => by rw [List.map_nil] at r; cases r; exact .nil
  | k :: ks, _, r => by
    rw [List.map_cons] at r
    cases r with
    | cons h t => exact .cons (kV_is h) (items_are t)

/-- raw entries of a dict with tuple keys -/
abbrev KT (H : Hp) : List (List Key × V) → List (List Key × Addr × Value) → Prop := Paired fun p q => p.1 = q.1 ∧ H q.2.1 = some (.tup (p.1.map kV)) ∧ RelV p.2 q.2.2
theorem KT.val {H : Hp} {kvs : List (List Key × V)} {xs : List (List Key × Addr × Value)} (r : KT H kvs xs) (k : List Key) : RelO (valV kvs k) ((atKey xs k).map (·.2)) := by
  induction r with
  | nil => exact True.intro
  | @cons p q ps qs h t ih =>
    obtain ⟨h1, _, h2⟩ := h
    by_cases e : p.1 = k
    · have e' : q.1 = k := h1.symm.trans e
      have b : atKey (q :: qs) k = some q.2 := by simp [atKey, List.find?_cons, e']
      rw [valV_pos e, b]; exact h2
    · have e' : ¬ q.1 = k := fun z => e (h1.trans z)
      have b : atKey (q :: qs) k = atKey qs k := by simp [atKey, List.find?_cons, e']
      rw [valV_neg e, b]; exact ih
theorem KT.repl {H : Hp} {kvs : List (List Key × V)} {xs : List (List Key × Addr × Value)} (r : KT H kvs xs) (k : List Key) {y : V} {u : Value} (ry : RelV y u) :
    KT H (kvs.map fun kv => if kv.1 = k then (kv.1, y) else kv) (xs.map (putAt k u)) := by
  induction r with
  | nil => exact .nil
  | @cons p q ps qs h t ih =>
    rw [List.map_cons, List.map_cons]
    refine .cons ?_ ih
    obtain ⟨h1, h2, h3⟩ := h
    unfold putAt
    by_cases e : p.1 = k
    · rw [if_pos e, if_pos (h1.symm.trans e)]; exact ⟨h1, h2, ry⟩
    · rw [if_neg e, if_neg (fun z => e (h1.trans z))]; exact ⟨h1, h2, h3⟩
theorem KT.put {H : Hp} {kvs : List (List Key × V)} {xs : List (List Key × Addr × Value)} (r : KT H kvs xs) (k : List Key) {b : Addr} {y : V} {u : Value} (hb : H b = some (.tup (k.map kV))) (ry : RelV y u) :
    KT H (putK kvs k y) (storedH xs k b u) := by
  have e : (kvs.any fun kv => decide (kv.1 = k)) = (atKey xs k).isSome := by
    rw [valV_any, (r.val k).isSome_eq, Option.isSome_map]
  unfold putK storedH
  rw [e]
  by_cases q : (atKey xs k).isSome = true
  · rw [if_pos q, if_pos q]; exact r.repl k ry
  · rw [if_neg q, if_neg q]; exact Paired.snoc r ⟨rfl, hb, ry⟩
theorem KT.keeps {H H' : Hp} {kvs : List (List Key × V)} {xs : List (List Key × Addr × Value)} (r : KT H kvs xs) (ht : ∀ b ys, H b = some (.tup ys) → H' b = some (.tup ys)) : KT H' kvs xs :=
  Paired.mapP r fun _ _ z => ⟨z.1, ht _ _ z.2.1, z.2.2⟩

section
variable {P : Program} {w : World} {H : Hp} {h : Heap} {a : Addr}
end

/-- what the dict at a holds at the key y -/
def DGet (H : Hp) (a : Addr) (y : V) (r : Option V) : Prop :=
  (∃ kvs k, Rd H a (.dK kvs) ∧ y = kV k ∧ r = valV kvs k) ∨ ∃ kvs k b, Rd H a (.dT kvs) ∧ y = .ref b ∧ H b = some (.tup (k.map kV)) ∧ r = valV kvs k
/-- the heap behind a[y] = v -/
def DPut (H : Hp) (a : Addr) (y v : V) (H' : Hp) : Prop :=
  (∃ kvs k, H a = some (.dK kvs) ∧ y = kV k ∧ kvs.length < sizeLine ∧ H' = upd H a (.dK (putK kvs k v))) ∨
  ∃ kvs k b, H a = some (.dT kvs) ∧ y = .ref b ∧ H b = some (.tup (k.map kV)) ∧ kvs.length < sizeLine ∧ H' = upd H a (.dT (putK kvs k v))
theorem DGet.k {H : Hp} {a : Addr} {kvs : List (Key × V)} {k : Key} (e : H a = some (.dK kvs)) : DGet H a (kV k) (valV kvs k) := .inl ⟨kvs, k, .inl e, rfl, rfl⟩
theorem DGet.t {H : Hp} {a b : Addr} {kvs : List (List Key × V)} {k : List Key} (e : H a = some (.dT kvs)) (eb : H b = some (.tup (k.map kV))) : DGet H a (.ref b) (valV kvs k) := .inr ⟨kvs, k, b, .inl e, rfl, eb, rfl⟩
theorem DPut.k {H : Hp} {a : Addr} {kvs : List (Key × V)} {k : Key} {v : V} (e : H a = some (.dK kvs)) (hl : kvs.length < sizeLine) : DPut H a (kV k) v (upd H a (.dK (putK kvs k v))) := .inl ⟨kvs, k, e, rfl, hl, rfl⟩
theorem DPut.t {H : Hp} {a b : Addr} {kvs : List (List Key × V)} {k : List Key} {v : V} (e : H a = some (.dT kvs)) (eb : H b = some (.tup (k.map kV))) (hl : kvs.length < sizeLine) :
    DPut H a (.ref b) v (upd H a (.dT (putK kvs k v))) := .inr ⟨kvs, k, b, e, rfl, eb, hl, rfl⟩


section
variable {X : Cx} {pins : List (Addr × Obj)} {σ : St} {H : Hp} {s : Shared} {a : Addr} {y v : V} {u r : Value} {o : Option V} {A : Around} {E : Value → Shared → Prop}

theorem Inv.big (I : Inv X pins σ H s) : sysModules < s.heap.objs.size := by
  have h : mainGlobals < s.heap.objs.size := (I.mod.glob.keeps I.bk).lt
  exact Nat.lt_trans (by decide) h

/-- a dict's object is replaced -/
theorem d_write {h' : Heap} {t' : Nat} {ob : HO} (I : Inv X pins σ H s) (mu : Mut (H a)) (hs : Heap.SameBut a s.heap h') (he : ∃ q, h'.get? a = some q) (new : ObjOk X.prog X.w (upd H a ob) h' a ob) :
    Inv X pins σ (upd H a ob) { s with heap := h', toks := t' } :=
  I.write (x := a) (e := a) mu (.inl rfl) (fun b q hb z => (hs.2 b hb).trans z) he new
end

section
variable {X : Cx} {pins : List (Addr × Obj)} {σ : St} {H : Hp} {s : Shared} {a : Addr} {kvs : List (Key × V)} {k : Key} {u : Value} {A : Around} {E : Value → Shared → Prop}
end


/-! ### readings and rules -/
/-- the element of a subscription, not a slice -/
def NoSl (i : Expr) : Prop := ∀ ov iv, subscripted i false ov iv = operate [ov, iv] (getItem ov iv)
theorem subD_of {prog : Program} {w : World} {A : Around} {E : Value → Shared → Prop} {s : Shared} {env : Env} {value slice : Expr} {pos : Pos} {T id : String} {Q : Value → Shared → Prop}
    (hl : typeLookup (.type T) "__getitem__" = pure (some (.builtin id))) (hs : NoSl slice)
    (h : wpAny (model prog w) A (eval value env) (fun o s₁ => wpAny (model prog w) A (eval slice env) (fun i s₂ => s₂.TypeIs o T ∧ wpAny (model prog w) A (getItem o i) Q E s₂) E s₁) E s) :
    wpAny (model prog w) A (eval (.Subscript value slice pos) env) Q E s := by
  refine Subscript_ (wpAny_mono h (fun o s₁ h₁ => wpAny_mono h₁ (fun i s₂ h₂ => ?_) fun _ _ x => x) fun _ _ x => x)
  obtain ⟨hT, h₂⟩ := h₂
  unfold subscriptTail
  refine wpAny_bind ?_
  rw [getitemInPython_of_ne hT.not_modules]
  refine wpAny_bind (wpAny_specialOf hT hl ?_)
  have fin : wpAny (model prog w) A (subscripted slice false o i) (fun r s₃ => wpAny (model prog w) A (letTemporaryGo value o r >>= fun _ => pure r) Q E s₃) E s₂ := by
    rw [hs o i]
    exact wpAny_operating (wpAny_mono h₂ (fun r s₃ h₃ => wpAny_bind (wpAny_letTemporaryGo (wpAny_pure h₃))) fun _ _ x => x)
  first
    | exact wpAny_pure (wpAny_bind fin)
    | exact wpAny_bind (wpAny_pure (wpAny_bind fin))
    | exact wpAny_bind fin

section
variable {X : Cx} {o i e value : Expr} {pos pos' tpos : Pos} {td ty tv : TE}
end


/-! ### displays -/
section
variable {X : Cx} {pos : Pos}
end

/-! ### methods -/
/-- a method call o.m(e) of a built-in, with one argument: what must be seen of the text -/
structure M1 (X : Cx) (o : Expr) (m : Str) (apos : Pos) (e : Expr) (cpos : Pos) : Prop where
  base : attributeBase o m X.env (eval o X.env) = eval o X.env
  few : ((backTo cpos (starEach [e] X.env)).all (fun x => !x.1) && (backToKw cpos (keywordEach [] X.env)).all (fun x => x.1.isSome)
    && decide (([e] : List Expr).length + ([] : List Keyword).length + (if ([] : List Keyword).isEmpty then 0 else 1) < 30)) = true
  line : (apos.endLine == cpos.line) = true
  trees : backTo cpos (starEach [e] X.env) = [(false, eval e X.env)]
structure M2 (X : Cx) (o : Expr) (m : Str) (apos : Pos) (e f : Expr) (cpos : Pos) : Prop where
  base : attributeBase o m X.env (eval o X.env) = eval o X.env
  few : ((backTo cpos (starEach [e, f] X.env)).all (fun x => !x.1) && (backToKw cpos (keywordEach [] X.env)).all (fun x => x.1.isSome)
    && decide (([e, f] : List Expr).length + ([] : List Keyword).length + (if ([] : List Keyword).isEmpty then 0 else 1) < 30)) = true
  line : (apos.endLine == cpos.line) = true
  trees : backTo cpos (starEach [e, f] X.env) = [(false, eval e X.env), (false, eval f X.env)]

section
variable {X : Cx} {pins : List (Addr × Obj)} {σ : St} {H : Hp} {s : Shared} {a : Addr} {y d : V} {u r : Value} {o : Option V} {A : Around} {E : Value → Shared → Prop}
end

section
variable {X : Cx} {o e f : Expr} {apos cpos : Pos} {td ty tx : TE}
end

/-! ### dict(d): a copy -/
section
variable {X : Cx} {pins : List (Addr × Obj)} {σ : St} {H : Hp} {s : Shared} {a : Addr} {kvs : List (Key × V)} {A : Around} {E : Value → Shared → Prop}
end


section
variable {X : Cx} {pins : List (Addr × Obj)} {σ : St} {H : Hp} {s : Shared} {a : Addr} {y : V} {u : Value} {A : Around} {E : Value → Shared → Prop}
end
end L2

namespace Att
open PySem PySem.W PySem.Calls PyProof.Rows

/-! ### the script -/
/-! ### the attachment: holds_open's last premise (the goal 'hc' behind k_head) from a wpAny of the law's body -/
/-! ### rules over ANY heap (no ledger) from facts about the written part K: the library's own take a ledger (News) for what they write -/
section
variable {prog : Program} {w : World} {A : Around} {E : Value → Shared → Prop} {s : Shared} {K : Frag}

/-! the whole heap as the ledger: makes every rule that writes through a ledger a rule over any heap -/
end
end Att

namespace L2
open PySem PySem.Spec PyProof.Rows

end L2

namespace L2
open PySem PySem.Spec PyProof.Rows

end L2

/- THE LAST THEOREM (shape; LID, My.* are yours):
   My.Adr: a structure of the addresses that your layer names (classes, functions); My.Txt K t: a structure (Prop) of the equations over K;
   My.txt_mk : {K} {implicit addresses ..} (e1 : nsIn K mainGlobals "law" = some (some (.ref f))) (e2 : K.lookup f = some ⟨oc, od, .func (fnOf "law" "law" params body scope dV kV doc pm an cdv ct), sl⟩) (e3 : codeIn K cdv "law" = true) .. : ∃ t, My.Txt K t

set_option maxRecDepth 100000 in
set_option maxHeartbeats 0 in
theorem PySem.Challenge.cw_LID_holds : PySem.Challenge.rw_LID.Holds := by
  w_on; o_law; k_head; (case hw => w_witness2)
  k_fill
  refine L2.walk_of (l := PySem.Challenge.rw_LID) (n := 63) (k := 40) (x := "script") (CX := fun w => ..) (sp := fun _ => My.sp_law) rfl (by decide) rfl ⟨rfl, by decide, by decide⟩ (fun w h Y => PySem.W.kIn_of Y) ?F ?S ?C
  case F =>
    intro w mg fa h KX G hmg
    have T : ∃ t, My.Txt (L2.KOf KX) t := by
      dsimp only [L2.KOf]                          -- K must stand as «<heap const> w.params» for k_is
      refine' My.txt_mk ?e1 ?e2 ?e3 ..
      (case e1 => PySem.W.k_is)                    -- in the order: a name -> its address -> its object -> its parts
      (case e2 => PySem.W.k_is)
      ..
    obtain ⟨t, T⟩ := T
    have e0 := hmg.symm.trans (PySem.W.mg_of KX G T.law)
    cases e0                                       -- fa is the law's own address
    exact ⟨_, fun s u => .of_eq rfl, fun base kb nb => My.law_fn T kb nb⟩     -- if «.of_eq rfl» comes too early: refine' ⟨_, ?b, fun base kb nb => My.law_fn T kb nb⟩; exact fun s u => .of_eq rfl
  case S => exact fun w H a ns hl hO hS => ..
  case C => exact ..
(the tactic k_is has no namespace: write k_is) -/

/-! SHORT WORDS over the layer: a def of the text, its body, what a loop and a test want. -/
namespace L2
open PySem PySem.Spec PyProof.Rows

/-! ### the text by places -/
/-! ### no exception leaves a def -/
/-! ### a def (or method) of the text as it stands behind the top -/
section
variable {P : Program} {w : World} {K : PySem.W.Frag} {mg : Str → Option Value} {base : Heap}
end
/-! ### expressions in short: the name that stands in the i-th slot -/
section
variable {X : Cx}
end

/-! ### tests -/
/-! ### heaps -/
/-! ### a dict's pairs: keys that differ -/
section
variable {κ : Type} [DecidableEq κ]
end
end L2


set_option Elab.async false
set_option linter.all false
set_option maxRecDepth 100000
set_option maxHeartbeats 4000000
namespace L3
open PySem PySem.Spec PyProof.Rows L2
section
variable {X : Cx} {K : PySem.W.Frag}
/-! ### x in a list, by data -/
def rInB (K : PySem.W.Frag) (neg : Bool) : R2 := fun x y H Q => ∃ ds d, Dp K H y (.list ds) ∧ Dp K H x d ∧ PyData.canLayAll0 ds = true ∧ d.canLay0 = true ∧ d.depth ≤ 190 ∧ Q (.bl (if neg then !(ds.any fun z => PyData.eqv z d) else ds.any fun z => PyData.eqv z d)) H
theorem op_notInB (hK : X.K = K) (hu : X.A.units + 195 < cLine) : OpR X (compareOp .NotIn) (rInB K true) := by
  subst hK
  intro pins s σ H x y u v Q I rx ry h
  obtain ⟨ds, d, hy, hx, c1, c2, dp, q⟩ := h
  obtain ⟨as, a⟩ := hy.reads I ry
  obtain ⟨bs, b⟩ := hx.reads I rx
  exact SeqAt.notIn_list_reads a b c1 c2 (by have := Nat.min_le_right (PyData.depthAll ds) d.depth; omega) ⟨.bl _, H, I, rfl, q⟩
/-! ### sets of ints -/
def rSet0 : List V → Hp → VK → Prop := fun xs H Q => xs = [] ∧ ∀ a, H a = none → Q (.ref a) (upd H a (.set (fun _ => false) 0))
theorem call_set0 : CallR X (.type "set") rSet0 := by
  intro pins s σ H xs us Q I r h
  obtain ⟨rfl, q⟩ := h
  have hu : us = [] := by cases r; rfl
  subst hu
  refine call_set_0 fun led => ⟨.ref s.heap.objs.size, _, I.laid (t' := s.toks) (o := .set (fun _ => false) 0) (fun b ob q => Heap.get?_push_of_some _ q) (Nat.le_refl _) ?_, rfl, q _ (I.hok.fresh (Nat.le_refl _))⟩
  exact (setObjOf_fresh (knd := intKind X.prog X.w) led).setOf (Heap.get?_push_size _ rfl) (by decide)
def rSetAdd : V → List V → Hp → VK → Prop := fun x vs H Q => ∃ a S n k, x = .ref a ∧ vs = [.int k] ∧ H a = some (.set S n) ∧ n + 1 < 4096 ∧ Q .non (upd H a (.set (fun j => S j || decide (j = k)) (if S k then n else n + 1)))
theorem mt_setAdd : MtM X "set.add" rSetAdd := by
  intro pins s σ H x vs v us Q I rx rv h
  obtain ⟨a, S, n, k, rfl, rfl, ha, hn, q⟩ := h
  cases rx
  obtain ⟨u, rfl, ru⟩ := rv.one
  obtain ⟨t, rfl⟩ := (show ∃ t, u = Value.int k t from ru)
  have hS : s.heap.SetOf (intKind X.prog X.w) a S n := I.hok a _ ha
  refine call_set_add (knd := intKind X.prog X.w) (k := k) (by show Value.isInt k (.int k t) = true; simp [Value.isInt]) rfl hS hn fun h' sb hS' => ⟨.non, _, d_write (ob := .set (fun j => S j || decide (j = k)) (if S k then n else n + 1)) I (by rw [ha]; exact True.intro) sb ?_ hS', rfl, q⟩
  obtain ⟨o, _, _, _, e, _⟩ := hS'
  exact ⟨o, e⟩
def rInS (neg : Bool) : R2 := fun x y H Q => ∃ k a S n, x = .int k ∧ y = .ref a ∧ H a = some (.set S n) ∧ Q (.bl (if neg then !S k else S k)) H
theorem op_notInS : OpR X (compareOp .NotIn) (rInS true) := by
  intro pins s σ H x y v u Q I rx ry h
  obtain ⟨k, a, S, n, rfl, rfl, ha, q⟩ := h
  obtain ⟨t, rfl⟩ := (show ∃ t, v = Value.int k t from rx)
  obtain rfl : u = Value.ref a := ry
  have hS : s.heap.SetOf (intKind X.prog X.w) a S n := I.hok a _ ha
  exact wpAny_notInSet_of (knd := intKind X.prog X.w) (k := k) (by show Value.isInt k (.int k t) = true; simp [Value.isInt]) rfl hS ⟨.bl _, H, I.tok _, rfl, q⟩
end
/-! ### sentences whose tuples are all the heap's -/
def ShH (H : Hp) (a : Addr) (vs : List V) : Lb → Prop
  | .yes => vs = [] ∧ H a = some (.tup [.str "yes"])
  | .sign s => vs = [] ∧ H a = some (.tup [.str "sign", .str s])
  | .op w => H a = some (.tup (.str w :: vs))
  | .wit m => H a = some (.tup (.str "within" :: .int m :: vs))
  | .many w => ∃ b, H a = some (.tup [.str w, .ref b]) ∧ H b = some (.tup vs)
def TAt : Nat → Hp → V → Tr → Prop
  | 0, _, _, _ => False
  | n + 1, H, v, t => ∃ a vs, v = .ref a ∧ ShH H a vs t.lb ∧ lbOk t.lb t.ks.length ∧ vs.length = t.ks.length ∧ ∀ (i : Nat) u k, vs[i]? = some u → t.ks[i]? = some k → TAt n H u k
def SameU (H H' : Hp) : Prop := ∀ a xs, H a = some (.tup xs) → H' a = some (.tup xs)
theorem Same.u {H H' : Hp} (s : Same H H') : SameU H H' := fun a xs e => s _ _ e
theorem SameX.u {p : Addr} {H H' : Hp} {o : HO} (s : SameX p H H') (hp : H p = some o) (ho : ∀ xs, o ≠ .tup xs) : SameU H H' := fun a xs e => s _ _ (fun z => by rw [z, hp] at e; cases e; exact ho _ rfl) e
theorem SameU.trans {H H1 H2 : Hp} (a : SameU H H1) (b : SameU H1 H2) : SameU H H2 := fun c xs e => b _ _ (a _ _ e)
theorem ShH.sh {K : PySem.W.Frag} {H : Hp} {a : Addr} {vs : List V} {c : Lb} (h : ShH H a vs c) : Shape K H a vs c := by
  cases c with
  | yes => exact ⟨h.1, SqT.of h.2⟩
  | sign z => exact ⟨h.1, SqT.of h.2⟩
  | op w => exact SqT.of h
  | wit m => exact SqT.of h
  | many w => obtain ⟨b, h1, h2⟩ := h; exact ⟨b, SqT.of h1, SqT.of h2⟩
theorem ShH.mono {H H' : Hp} (s : SameU H H') {a : Addr} {vs : List V} {c : Lb} (h : ShH H a vs c) : ShH H' a vs c := by
  cases c with
  | yes => exact ⟨h.1, s _ _ h.2⟩
  | sign z => exact ⟨h.1, s _ _ h.2⟩
  | op w => exact s _ _ h
  | wit m => exact s _ _ h
  | many w => obtain ⟨b, h1, h2⟩ := h; exact ⟨b, s _ _ h1, s _ _ h2⟩
theorem TAt.at {K : PySem.W.Frag} {H : Hp} : ∀ {n : Nat} {v : V} {t : Tr}, TAt n H v t → At K n H v t
  | 0, _, _, h => h.elim
  | n + 1, v, t, ⟨a, vs, e, sh, ok, l, q⟩ => ⟨a, vs, e, sh.sh, ok, l, fun i u k h1 h2 => TAt.at (q i u k h1 h2)⟩
theorem TAt.mono {H H' : Hp} (s : SameU H H') : ∀ {n : Nat} {v : V} {t : Tr}, TAt n H v t → TAt n H' v t
  | 0, _, _, h => h
  | n + 1, v, t, ⟨a, vs, e, sh, ok, l, q⟩ => ⟨a, vs, e, sh.mono s, ok, l, fun i u k h1 h2 => TAt.mono s (q i u k h1 h2)⟩
theorem TAt.up {H : Hp} : ∀ {n : Nat} {v : V} {t : Tr}, TAt n H v t → TAt (n + 1) H v t
  | 0, _, _, h => h.elim
  | n + 1, v, t, ⟨a, vs, e, sh, ok, l, q⟩ => ⟨a, vs, e, sh, ok, l, fun i u k h1 h2 => TAt.up (q i u k h1 h2)⟩
theorem TAt.le {H : Hp} {n m : Nat} {v : V} {t : Tr} (h : TAt n H v t) (hm : n ≤ m) : TAt m H v t := by
  induction hm with
  | refl => exact h
  | step _ ih => exact ih.up
def TAtL (n : Nat) (H : Hp) (vs : List V) (ts : List Tr) : Prop := vs.length = ts.length ∧ ∀ (i : Nat) u k, vs[i]? = some u → ts[i]? = some k → TAt n H u k
theorem TAtL.at {K : PySem.W.Frag} {n : Nat} {H : Hp} {vs : List V} {ts : List Tr} (h : TAtL n H vs ts) : AtL K n H vs ts := ⟨h.1, fun i u k h1 h2 => (h.2 i u k h1 h2).at⟩
theorem TAtL.mono {n : Nat} {H H' : Hp} {vs : List V} {ts : List Tr} (s : SameU H H') (h : TAtL n H vs ts) : TAtL n H' vs ts := ⟨h.1, fun i u k h1 h2 => (h.2 i u k h1 h2).mono s⟩
theorem TAtL.le {n m : Nat} {H : Hp} {vs : List V} {ts : List Tr} (h : TAtL n H vs ts) (hm : n ≤ m) : TAtL m H vs ts := ⟨h.1, fun i u k h1 h2 => (h.2 i u k h1 h2).le hm⟩
theorem TAtL.nil {n : Nat} {H : Hp} : TAtL n H [] [] := ⟨rfl, fun i u k h => by simp at h⟩
theorem TAtL.one {n : Nat} {H : Hp} {v : V} {t : Tr} (h : TAt n H v t) : TAtL n H [v] [t] := ⟨rfl, fun i u k h1 h2 => by
  cases i with
  | zero => cases h1; cases h2; exact h
  | succ i => simp at h1⟩
theorem TAtL.app {n : Nat} {H : Hp} {vs us : List V} {ts rs : List Tr} (h : TAtL n H vs ts) (g : TAtL n H us rs) : TAtL n H (vs ++ us) (ts ++ rs) := by
  refine ⟨by rw [List.length_append, List.length_append, h.1, g.1], fun i u k h1 h2 => ?_⟩
  by_cases hi : i < vs.length
  · rw [List.getElem?_append_left hi] at h1
    rw [List.getElem?_append_left (by rw [← h.1]; exact hi)] at h2
    exact h.2 i u k h1 h2
  · rw [List.getElem?_append_right (by omega)] at h1
    rw [List.getElem?_append_right (by rw [← h.1]; omega), ← h.1] at h2
    exact g.2 _ u k h1 h2
theorem TAtL.rev {n : Nat} {H : Hp} {vs : List V} {ts : List Tr} (h : TAtL n H vs ts) : TAtL n H vs.reverse ts.reverse := by
  refine ⟨by rw [List.length_reverse, List.length_reverse, h.1], fun i u k h1 h2 => ?_⟩
  have hi := (List.getElem?_eq_some_iff.mp h1).1
  rw [List.length_reverse] at hi
  rw [List.getElem?_reverse hi] at h1
  rw [List.getElem?_reverse (by rw [← h.1]; exact hi), ← h.1] at h2
  exact h.2 _ u k h1 h2
theorem TAtL.last {n : Nat} {H : Hp} {vs : List V} {ts : List Tr} (h : TAtL n H vs ts) (hne : vs ≠ []) : ∃ us u rs r, vs = us ++ [u] ∧ ts = rs ++ [r] ∧ TAtL n H us rs ∧ TAt n H u r := by
  have hl := List.length_pos_iff.mpr hne
  have ht : ts ≠ [] := fun e => by rw [e] at h; have := h.1; simp at this; exact hne this
  have e1 := List.dropLast_concat_getLast hne
  have e2 := List.dropLast_concat_getLast ht
  have hl1 : vs.dropLast.length = ts.dropLast.length := by rw [List.length_dropLast, List.length_dropLast, h.1]
  refine ⟨vs.dropLast, vs.getLast hne, ts.dropLast, ts.getLast ht, e1.symm, e2.symm, ⟨hl1, fun i u k h1 h2 => ?_⟩, ?_⟩
  · have hi := (List.getElem?_eq_some_iff.mp h1).1
    refine h.2 i u k ?_ ?_
    · rw [← e1, List.getElem?_append_left hi]; exact h1
    · rw [← e2, List.getElem?_append_left (by rw [← hl1]; exact hi)]; exact h2
  · refine h.2 (vs.length - 1) _ _ ?_ ?_
    · rw [List.getLast_eq_getElem]; exact List.getElem?_eq_getElem _
    · rw [List.getLast_eq_getElem, h.1]; exact List.getElem?_eq_getElem _
end L3

set_option Elab.async false
set_option linter.all false
set_option maxRecDepth 100000
set_option maxHeartbeats 4000000
namespace L3
open PySem PySem.Spec PyProof.Rows L2
/-! ### each only once -/
section
open Classical
noncomputable def addT (A : List Tr) (t : Tr) : List Tr := if t ∈ A then A else A ++ [t]
noncomputable def addAll (A L : List Tr) : List Tr := L.foldl addT A
theorem addAll_nil (A : List Tr) : addAll A [] = A := rfl
theorem addAll_cons (A : List Tr) (x : Tr) (L : List Tr) : addAll A (x :: L) = addAll (addT A x) L := rfl
theorem addAll_app (A L M : List Tr) : addAll A (L ++ M) = addAll (addAll A L) M := List.foldl_append
theorem addT_in {A : List Tr} {t : Tr} (h : t ∈ A) : addT A t = A := if_pos h
theorem addT_new {A : List Tr} {t : Tr} (h : t ∉ A) : addT A t = A ++ [t] := if_neg h
theorem mem_addT {A : List Tr} {t x : Tr} : x ∈ addT A t ↔ x ∈ A ∨ x = t := by
  unfold addT
  split
  · rename_i h
    exact ⟨.inl, fun z => z.elim id fun e => by rw [e]; exact h⟩
  · simp
theorem mem_addAll : ∀ {L A : List Tr} {x : Tr}, x ∈ addAll A L ↔ x ∈ A ∨ x ∈ L
  | [], A, x => by simp [addAll_nil]
  | t :: r, A, x => by rw [addAll_cons, mem_addAll, mem_addT, List.mem_cons, or_assoc]
theorem nodup_addT {A : List Tr} {t : Tr} (h : A.Nodup) : (addT A t).Nodup := by
  unfold addT
  split
  · exact h
  · rename_i n
    rw [List.nodup_append]
    exact ⟨h, by simp, fun a ha b hb e => n (by rw [List.mem_singleton.mp hb] at e; rw [← e]; exact ha)⟩
theorem nodup_addAll : ∀ {L A : List Tr}, A.Nodup → (addAll A L).Nodup
  | [], _, h => h
  | t :: r, A, h => by rw [addAll_cons]; exact nodup_addAll (nodup_addT h)
theorem addAll_sub : ∀ {L A : List Tr}, (∀ x ∈ L, x ∈ A) → addAll A L = A
  | [], _, _ => rfl
  | t :: r, A, h => by
    rw [addAll_cons, addT_in (h t (by simp))]
    exact addAll_sub fun x hx => h x (List.mem_cons_of_mem _ hx)
theorem addT_pre (A : List Tr) (t : Tr) : ∃ B, addT A t = A ++ B := by
  unfold addT
  split
  · exact ⟨[], by simp⟩
  · exact ⟨[t], rfl⟩
theorem addAll_pre : ∀ (L A : List Tr), ∃ B, addAll A L = A ++ B
  | [], A => ⟨[], by simp [addAll_nil]⟩
  | t :: r, A => by
    obtain ⟨B, e⟩ := addT_pre A t
    obtain ⟨C, e2⟩ := addAll_pre r (addT A t)
    exact ⟨B ++ C, by rw [addAll_cons, e2, e, List.append_assoc]⟩
theorem addAll_len : ∀ (L A : List Tr), (addAll A L).length ≤ A.length + L.length
  | [], A => by simp [addAll_nil]
  | t :: r, A => by
    have := addAll_len r (addT A t)
    have h : (addT A t).length ≤ A.length + 1 := by
      unfold addT
      split <;> simp
    rw [addAll_cons, List.length_cons]
    omega
theorem addAll_idem (A L : List Tr) : addAll A (addAll [] L) = addAll A L := by
  have key : ∀ (n : Nat) (L : List Tr), L.length = n → addAll A (addAll [] L) = addAll A L := by
    intro n
    induction n with
    | zero => intro L h; rw [List.length_eq_zero_iff.mp h]; rfl
    | succ n ih =>
      intro L h
      have hne : L ≠ [] := fun e => by rw [e] at h; simp at h
      rw [← List.dropLast_concat_getLast hne]
      generalize hM : L.dropLast = M
      generalize L.getLast hne = x
      have hl : M.length = n := by rw [← hM, List.length_dropLast]; omega
      have e := ih M hl
      rw [addAll_app [] M [x], addAll_app A M [x]]
      show addAll A (addT (addAll [] M) x) = addT (addAll A M) x
      by_cases hx : x ∈ M
      · rw [addT_in (mem_addAll.mpr (.inr hx)), addT_in (mem_addAll.mpr (.inr hx)), e]
      · rw [addT_new (fun z => hx ((mem_addAll.mp z).resolve_left (by simp))), addAll_app, e]
        rfl
  exact key _ L rfl
end
/-! ### what stands in it, not within some -/
def belowT (t : Tr) : List Tr := match t.lb with
  | .op w => if w = "some" then [] else t.ks
  | _ => t.ks
mutual
def postB : Tr → List Tr
  | .node c ks => (match c with | .op w => if w = "some" then [] else postBL ks | _ => postBL ks) ++ [.node c ks]
def postBL : List Tr → List Tr
  | [] => []
  | t :: r => postB t ++ postBL r
end
theorem postBL_flat : ∀ ks : List Tr, postBL ks = (ks.map postB).flatten
  | [] => by rw [postBL]; rfl
  | t :: r => by rw [postBL, postBL_flat r]; rfl
theorem postB_eq (t : Tr) : postB t = (( belowT t).map postB).flatten ++ [t] := by
  cases t with
  | node c ks =>
    cases c with
    | op w =>
      have e : postB (.node (.op w) ks) = (if w = "some" then [] else postBL ks) ++ [.node (.op w) ks] := by rw [postB]
      rw [e]
      show _ = ((if w = "some" then [] else ks).map postB).flatten ++ _
      split
      · rfl
      · rw [postBL_flat]
    | yes => rw [show postB (.node .yes ks) = postBL ks ++ [.node .yes ks] from (by rw [postB]; intro w z; cases z), postBL_flat]; rfl
    | sign z => rw [show postB (.node (.sign z) ks) = postBL ks ++ [.node (.sign z) ks] from (by rw [postB]; intro w z; cases z), postBL_flat]; rfl
    | wit m => rw [show postB (.node (.wit m) ks) = postBL ks ++ [.node (.wit m) ks] from (by rw [postB]; intro w z; cases z), postBL_flat]; rfl
    | many w => rw [show postB (.node (.many w) ks) = postBL ks ++ [.node (.many w) ks] from (by rw [postB]; intro w z; cases z), postBL_flat]; rfl
theorem below_sub {t k : Tr} (h : k ∈ belowT t) : k ∈ t.ks := by
  unfold belowT at h
  split at h
  · split at h
    · cases h
    · exact h
  · exact h
theorem psz_kid {t k : Tr} (h : k ∈ t.ks) : psz k < psz t := by
  rw [psz_eq t]
  have : ∀ (l : List Nat) (n : Nat), n ∈ l → n ≤ l.sum := by
    intro l
    induction l with
    | nil => intro n h; cases h
    | cons a r ih =>
      intro n h
      rw [List.sum_cons]
      rcases List.mem_cons.mp h with rfl | h
      · omega
      · have := ih n h; omega
  have := this _ _ (List.mem_map_of_mem (f := psz) h)
  omega
theorem postB_cases {t x : Tr} (h : x ∈ postB t) : x = t ∨ ∃ k ∈ belowT t, x ∈ postB k := by
  rw [postB_eq, List.mem_append] at h
  rcases h with h | h
  · obtain ⟨l, hl, hx⟩ := List.mem_flatten.mp h
    obtain ⟨k, hk, rfl⟩ := List.mem_map.mp hl
    exact .inr ⟨k, hk, hx⟩
  · exact .inl (List.mem_singleton.mp h)
theorem postB_kid {t k x : Tr} (h : k ∈ belowT t) (hx : x ∈ postB k) : x ∈ postB t := by
  rw [postB_eq, List.mem_append]
  exact .inl (List.mem_flatten.mpr ⟨_, List.mem_map_of_mem h, hx⟩)
theorem postB_trans : ∀ (n : Nat) {t x y : Tr}, psz t ≤ n → x ∈ postB t → y ∈ postB x → y ∈ postB t
  | 0, t, x, y, h, _, _ => by have := psz_pos t; omega
  | n + 1, t, x, y, h, hx, hy => by
    rcases postB_cases hx with rfl | ⟨k, hk, hxk⟩
    · exact hy
    · have h1 := psz_kid (below_sub hk)
      exact postB_kid hk (postB_trans n (by omega) hxk hy)
theorem postB_len : ∀ (n : Nat) {t : Tr}, psz t ≤ n → (postB t).length ≤ psz t
  | 0, t, h => by have := psz_pos t; omega
  | n + 1, t, h => by
    have key : ∀ ks : List Tr, (∀ k ∈ ks, (postB k).length ≤ psz k) → ((ks.map postB).flatten).length ≤ (ks.map psz).sum := by
      intro ks
      induction ks with
      | nil => intro _; simp
      | cons a r ih =>
        intro hk
        have h1 := hk a (by simp)
        have h2 := ih fun k hk2 => hk k (List.mem_cons_of_mem _ hk2)
        rw [List.map_cons, List.flatten_cons, List.length_append, List.map_cons, List.sum_cons]
        omega
    have hb : ((belowT t).map psz).sum ≤ (t.ks.map psz).sum := by
      unfold belowT
      split
      · split
        · simp
        · exact Nat.le_refl _
      · exact Nat.le_refl _
    have := key (belowT t) fun k hk => postB_len n (by have := psz_kid (below_sub hk); omega)
    rw [postB_eq, List.length_append, psz_eq t, List.length_singleton]
    omega
/-! ### gone through with a stack -/
noncomputable def contD : List Tr → List Tr → List Tr
  | [], F => F
  | t :: w, F => contD w (addAll F (postB t))
def closedB (F : List Tr) : Prop := ∀ x ∈ F, ∀ y ∈ postB x, y ∈ F
theorem closed_nil : closedB [] := fun x h => by cases h
theorem fin_pop {F : List Tr} {t : Tr} (hc : closedB F) (hk : ∀ k ∈ belowT t, k ∈ F) (ht : t ∉ F) : addAll F (postB t) = F ++ [t] ∧ closedB (F ++ [t]) := by
  have hs : ∀ x ∈ ((belowT t).map postB).flatten, x ∈ F := fun x hx => by
    obtain ⟨l, hl, hx2⟩ := List.mem_flatten.mp hx
    obtain ⟨k, hk2, rfl⟩ := List.mem_map.mp hl
    exact hc k (hk k hk2) x hx2
  refine ⟨?_, fun x hx y hy => ?_⟩
  · rw [postB_eq, addAll_app, addAll_sub hs]
    exact addT_new ht
  · rcases List.mem_append.mp hx with hx | hx
    · exact List.mem_append_left _ (hc x hx y hy)
    · rw [List.mem_singleton.mp hx, postB_eq, List.mem_append] at hy
      rcases hy with hy | hy
      · exact List.mem_append_left _ (hs y hy)
      · exact List.mem_append_right _ hy
theorem fin_push {F : List Tr} {t k : Tr} {a b : List Tr} (hc : closedB F) (hb : belowT t = a ++ k :: b) (ha : ∀ x ∈ a, x ∈ F) : addAll (addAll F (postB k)) (postB t) = addAll F (postB t) ∧ closedB (addAll F (postB k)) := by
  have hs : ∀ x ∈ (a.map postB).flatten, x ∈ F := fun x hx => by
    obtain ⟨l, hl, hx2⟩ := List.mem_flatten.mp hx
    obtain ⟨j, hj, rfl⟩ := List.mem_map.mp hl
    exact hc j (ha j hj) x hx2
  have e : postB t = (a.map postB).flatten ++ (postB k ++ ((b.map postB).flatten ++ [t])) := by
    rw [postB_eq, hb, List.map_append, List.flatten_append, List.map_cons, List.flatten_cons]
    simp
  refine ⟨?_, fun x hx y hy => ?_⟩
  · rw [e, addAll_app, addAll_app (addAll (addAll F (postB k)) _), addAll_app F, addAll_app (addAll F (a.map postB).flatten)]
    rw [addAll_sub hs, addAll_sub (A := addAll F (postB k)) fun x hx => mem_addAll.mpr (.inl (hs x hx)), addAll_sub (A := addAll F (postB k)) fun x hx => mem_addAll.mpr (.inr hx)]
  · rcases mem_addAll.mp hx with hx | hx
    · exact mem_addAll.mpr (.inl (hc x hx y hy))
    · exact mem_addAll.mpr (.inr (postB_trans _ (Nat.le_refl _) hx hy))
theorem cont_pre : ∀ (w F : List Tr), ∃ B, contD w F = F ++ B
  | [], F => ⟨[], by simp [contD]⟩
  | t :: w, F => by
    obtain ⟨B, e⟩ := addAll_pre (postB t) F
    obtain ⟨C, e2⟩ := cont_pre w (addAll F (postB t))
    exact ⟨B ++ C, by rw [contD, e2, e, List.append_assoc]⟩
/-- the stack: each right within the one below it -/
def chainD : List Tr → Prop
  | [] => True
  | [_] => True
  | t :: s :: r => t ∈ belowT s ∧ chainD (s :: r)
theorem chain_psz : ∀ {t : Tr} {w : List Tr}, chainD (t :: w) → ∀ s ∈ w, psz t < psz s
  | t, [], _, s, h => by cases h
  | t, a :: r, ⟨h1, h2⟩, s, h => by
    have h3 := psz_kid (below_sub h1)
    rcases List.mem_cons.mp h with rfl | h
    · exact h3
    · have := chain_psz h2 s h; omega
theorem chain_len : ∀ {w : List Tr} {m : Nat}, chainD w → (∀ s ∈ w, psz s ≤ m) → w.length ≤ m
  | [], _, _, _ => by simp
  | [t], m, _, h => by have := h t (by simp); have := psz_pos t; simp; omega
  | t :: s :: r, m, ⟨h1, h2⟩, h => by
    have h3 := psz_kid (below_sub h1)
    have : ∀ {w : List Tr} {t : Tr}, chainD (t :: w) → ∀ m, (∀ s ∈ (t :: w), psz s ≤ m) → w.length + psz t ≤ m := by
      intro w
      induction w with
      | nil => intro t _ m hm; have := hm t (by simp); simp; omega
      | cons a r ih =>
        intro t hc m hm
        have h4 := psz_kid (below_sub hc.1)
        have := ih hc.2 m fun s hs => hm s (List.mem_cons_of_mem _ hs)
        rw [List.length_cons]
        omega
    have := this (w := s :: r) (t := t) ⟨h1, h2⟩ m h
    have := psz_pos t
    simp at *
    omega
end L3

set_option Elab.async false
set_option linter.all false
set_option maxRecDepth 100000
set_option maxHeartbeats 4000000
namespace L3
open PySem PySem.Spec PyProof.Rows L2
/-! ### rows with numbers -/
def nK (is : List Nat) : List Key := is.map fun (i : Nat) => (Sum.inl ((i : Nat) : Int) : Key)
def keyOf : Lb → List Nat → List Key
  | .yes, _ => [.inr "yes"]
  | .sign z, _ => [.inr "sign", .inr z]
  | .wit m, is => .inr "within" :: .inl m :: nK is
  | .op w, is => .inr w :: nK is
  | .many w, is => .inr w :: nK is
def IsRow (ps : List Tr) (t : Tr) (ks : List Key) : Prop := ∃ is : List Nat, is.length = t.ks.length ∧ (∀ (j : Nat) k i, t.ks[j]? = some k → is[j]? = some i → ps[i]? = some k) ∧ ks = keyOf t.lb is
theorem IsRow.more {ps : List Tr} {t x : Tr} {ks : List Key} (h : IsRow ps t ks) : IsRow (ps ++ [x]) t ks := by
  obtain ⟨is, h1, h2, h3⟩ := h
  refine ⟨is, h1, fun j k i e1 e2 => ?_, h3⟩
  have := h2 j k i e1 e2
  rw [List.getElem?_append_left (List.getElem?_eq_some_iff.mp this).1]
  exact this
theorem IsRow.add {ps : List Tr} {t x : Tr} {ks : List Key} (h : IsRow ps t ks) : IsRow (addT ps x) t ks := by
  unfold addT
  split
  · exact h
  · exact h.more
theorem nK_inj : ∀ {a b : List Nat}, nK a = nK b → a = b
  | [], [], _ => rfl
  | [], y :: b, h => by simp [nK] at h
  | x :: a, [], h => by simp [nK] at h
  | x :: a, y :: b, h => by
    have h1 : (Sum.inl (x : Int) : Key) = Sum.inl (y : Int) := (List.cons.inj h).1
    have h2 : nK a = nK b := (List.cons.inj h).2
    have e : (x : Int) = y := Sum.inl.inj h1
    rw [nK_inj h2, show x = y by omega]
theorem w_apart : ∀ w ∈ W1 ++ W2, w ≠ "yes" ∧ w ≠ "sign" ∧ w ≠ "within" ∧ w ≠ "and" ∧ w ≠ "or" := by decide +kernel
theorem lb_op {w : Str} {n : Nat} (h : lbOk (.op w) n) : w ∈ W1 ++ W2 := by
  rcases h with ⟨h, _⟩ | ⟨h, _⟩
  · exact List.mem_append_left _ h
  · exact List.mem_append_right _ h
theorem key_head {c : Lb} {is : List Nat} : ∃ r, keyOf c is = .inr (wordL c) :: r := by
  cases c <;> exact ⟨_, rfl⟩
theorem key_inj {c c' : Lb} {is is' : List Nat} (h1 : lbOk c is.length) (h2 : lbOk c' is'.length) (h : keyOf c is = keyOf c' is') : c = c' ∧ is = is' := by
  obtain ⟨r, e⟩ := key_head (c := c) (is := is)
  obtain ⟨r', e'⟩ := key_head (c := c') (is := is')
  have hw : wordL c = wordL c' := by
    rw [e, e'] at h
    exact Sum.inr.inj (List.cons.inj h).1
  clear e e' r r'
  have ny : ¬ (("sign" : Str) = "yes") ∧ ¬ (("within" : Str) = "yes") ∧ ¬ (("within" : Str) = "sign") ∧ ¬ (("and" : Str) = "yes") ∧ ¬ (("or" : Str) = "yes") ∧ ¬ (("and" : Str) = "sign") ∧ ¬ (("or" : Str) = "sign") ∧ ¬ (("and" : Str) = "within") ∧ ¬ (("or" : Str) = "within") := by decide +kernel
  obtain ⟨n1, n2, n3, n4, n5, n6, n7, n8, n9⟩ := ny
  have z0 : ∀ {l : List Nat}, l.length = 0 → l = [] := fun h => List.length_eq_zero_iff.mp h
  cases c with
  | yes =>
    cases c' with
    | yes => exact ⟨rfl, (z0 h1).trans (z0 h2).symm⟩
    | sign z => exact absurd hw.symm n1
    | wit m => exact absurd hw.symm n2
    | op w => exact absurd hw.symm (w_apart w (lb_op h2)).1
    | many w => rcases h2.1 with rfl | rfl; exact absurd hw.symm n4; exact absurd hw.symm n5
  | sign z =>
    cases c' with
    | yes => exact absurd hw n1
    | sign z' =>
      have e : z = z' := Sum.inr.inj (List.cons.inj (List.cons.inj h).2).1
      exact ⟨by rw [e], (z0 h1.1).trans (z0 h2.1).symm⟩
    | wit m => exact absurd hw.symm n3
    | op w => exact absurd hw.symm (w_apart w (lb_op h2)).2.1
    | many w => rcases h2.1 with rfl | rfl; exact absurd hw.symm n6; exact absurd hw.symm n7
  | wit m =>
    cases c' with
    | yes => exact absurd hw n2
    | sign z => exact absurd hw n3
    | wit m' =>
      have e := (List.cons.inj (List.cons.inj h).2)
      exact ⟨by rw [Sum.inl.inj e.1], nK_inj e.2⟩
    | op w => exact absurd hw.symm (w_apart w (lb_op h2)).2.2.1
    | many w => rcases h2.1 with rfl | rfl; exact absurd hw.symm n8; exact absurd hw.symm n9
  | op w =>
    have wa := w_apart w (lb_op h1)
    cases c' with
    | yes => exact absurd hw wa.1
    | sign z => exact absurd hw wa.2.1
    | wit m => exact absurd hw wa.2.2.1
    | op w' => exact ⟨by rw [show w = w' from hw], nK_inj (List.cons.inj h).2⟩
    | many w' => rcases h2.1 with rfl | rfl; exact absurd hw wa.2.2.2.1; exact absurd hw wa.2.2.2.2
  | many w =>
    cases c' with
    | yes => rcases h1.1 with rfl | rfl; exact absurd hw n4; exact absurd hw n5
    | sign z => rcases h1.1 with rfl | rfl; exact absurd hw n6; exact absurd hw n7
    | wit m => rcases h1.1 with rfl | rfl; exact absurd hw n8; exact absurd hw n9
    | op w' => rcases h1.1 with rfl | rfl; exact absurd hw.symm (w_apart w' (lb_op h2)).2.2.2.1; exact absurd hw.symm (w_apart w' (lb_op h2)).2.2.2.2
    | many w' => exact ⟨by rw [show w = w' from hw], nK_inj (List.cons.inj h).2⟩
theorem row_inj {ps : List Tr} {t s : Tr} {ks : List Key} (o1 : lbOk t.lb t.ks.length) (o2 : lbOk s.lb s.ks.length) (h : IsRow ps t ks) (g : IsRow ps s ks) : t = s := by
  obtain ⟨is, h1, h2, h3⟩ := h
  obtain ⟨js, g1, g2, g3⟩ := g
  obtain ⟨e1, e2⟩ := key_inj (by rw [h1]; exact o1) (by rw [g1]; exact o2) (h3.symm.trans g3)
  subst e2
  rw [Tr.eta t, Tr.eta s, e1]
  congr 1
  apply List.ext_getElem?
  intro j
  have hl : t.ks.length = s.ks.length := h1.symm.trans g1
  by_cases hj : j < t.ks.length
  · have hji : j < is.length := by rw [h1]; exact hj
    have a := h2 j _ _ (List.getElem?_eq_getElem hj) (List.getElem?_eq_getElem hji)
    have b := g2 j _ _ (List.getElem?_eq_getElem (by rw [← hl]; exact hj)) (List.getElem?_eq_getElem hji)
    rw [List.getElem?_eq_getElem hj, List.getElem?_eq_getElem (by rw [← hl]; exact hj)]
    exact a.symm.trans b
  · rw [List.getElem?_eq_none (by omega), List.getElem?_eq_none (by omega)]
theorem nd_ix {ps : List Tr} (nd : ps.Nodup) {i j : Nat} {t : Tr} (h1 : ps[i]? = some t) (h2 : ps[j]? = some t) : i = j := by
  obtain ⟨a, e1⟩ := List.getElem?_eq_some_iff.mp h1
  obtain ⟨b, e2⟩ := List.getElem?_eq_some_iff.mp h2
  have pw := List.pairwise_iff_getElem.mp (List.nodup_iff_pairwise_ne.mp nd)
  rcases Nat.lt_trichotomy i j with h | h | h
  · exact absurd (e1.trans e2.symm) (pw i j a b h)
  · exact h
  · exact absurd (e2.trans e1.symm) (pw j i b a h)
theorem row_fun {ps : List Tr} (nd : ps.Nodup) {t : Tr} {ks js : List Key} (h : IsRow ps t ks) (g : IsRow ps t js) : ks = js := by
  obtain ⟨is, h1, h2, h3⟩ := h
  obtain ⟨is', g1, g2, g3⟩ := g
  have e : is = is' := by
    apply List.ext_getElem?
    intro j
    by_cases hj : j < t.ks.length
    · rw [List.getElem?_eq_getElem (show j < is.length by omega), List.getElem?_eq_getElem (show j < is'.length by omega)]
      congr 1
      exact nd_ix nd (h2 j _ _ (List.getElem?_eq_getElem hj) (List.getElem?_eq_getElem (by omega))) (g2 j _ _ (List.getElem?_eq_getElem hj) (List.getElem?_eq_getElem (by omega)))
    · rw [List.getElem?_eq_none (by omega), List.getElem?_eq_none (by omega)]
  rw [h3, g3, e]
/-! ### the dict of rows -/
def numR : Nat → List (List Key) → List (List Key × V)
  | _, [] => []
  | n, k :: r => (k, .int (n : Int)) :: numR (n + 1) r
theorem val_no : ∀ {n : Nat} {l : List (List Key)} {k : List Key}, k ∉ l → valV (numR n l) k = none
  | n, [], k, _ => rfl
  | n, a :: r, k, h => by
    have ha : a ≠ k := fun e => h (by rw [e]; simp)
    have ih := val_no (n := n + 1) (l := r) (k := k) fun z => h (List.mem_cons_of_mem _ z)
    unfold valV at ih ⊢
    rw [numR, List.find?_cons_of_neg (by simpa using ha)]
    exact ih
theorem val_at : ∀ {n : Nat} {l : List (List Key)} {k : List Key} {i : Nat}, l.Nodup → l[i]? = some k → valV (numR n l) k = some (.int ((n + i : Nat) : Int))
  | n, [], k, i, _, h => by simp at h
  | n, a :: r, k, 0, _, h => by
    have e : a = k := by simpa using h
    unfold valV
    rw [numR, List.find?_cons_of_pos (by simpa using e)]
    rfl
  | n, a :: r, k, i + 1, nd, h => by
    have hm : r[i]? = some k := by simpa using h
    have ha : a ≠ k := fun e => (List.nodup_cons.mp nd).1 (by rw [e]; exact List.mem_of_getElem? hm)
    have ih := val_at (n := n + 1) (l := r) (k := k) (List.nodup_cons.mp nd).2 hm
    unfold valV at ih ⊢
    rw [numR, List.find?_cons_of_neg (by simpa using ha), show n + (i + 1) = n + 1 + i by omega]
    exact ih
/-! ### a table -/
structure TbAt (C : Addr) (H : Hp) (r P R D : Addr) (ps : List Tr) : Prop where
  obj : ∃ dx, H r = some (.ins C dx [("parts", .ref P), ("rows", .ref R), ("numbers", .ref D)])
  pl : ∃ n pv, H P = some (.lst pv) ∧ TAtL n H pv ps
  rl : ∃ rv rks, H R = some (.lst rv) ∧ rv.length = ps.length ∧ rks.length = ps.length ∧ (∀ (i : Nat) v ks, rv[i]? = some v → rks[i]? = some ks → ∃ b, v = .ref b ∧ H b = some (.tup (ks.map kV))) ∧ (∀ (i : Nat) t ks, ps[i]? = some t → rks[i]? = some ks → IsRow ps t ks) ∧ H D = some (.dT (numR 0 rks))
  nd : ps.Nodup
  pr : P ≠ R
/-- all but the table's own three things -/
def SameB (P R D : Addr) (H H' : Hp) : Prop := ∀ b o, b ≠ P → b ≠ R → b ≠ D → H b = some o → H' b = some o
theorem SameB.refl {P R D : Addr} {H : Hp} : SameB P R D H H := fun b o _ _ _ e => e
theorem SameB.trans {P R D : Addr} {H H1 H2 : Hp} (a : SameB P R D H H1) (b : SameB P R D H1 H2) : SameB P R D H H2 := fun c o n1 n2 n3 e => b c o n1 n2 n3 (a c o n1 n2 n3 e)
theorem Same.b {P R D : Addr} {H H' : Hp} (s : Same H H') : SameB P R D H H' := fun b o _ _ _ e => s _ _ e
theorem SameB.u {P R D : Addr} {H H' : Hp} {pv rv : List V} {kvs : List (List Key × V)} (s : SameB P R D H H') (h1 : H P = some (.lst pv)) (h2 : H R = some (.lst rv)) (h3 : H D = some (.dT kvs)) : SameU H H' := fun a xs e =>
  s _ _ (fun z => by rw [z, h1] at e; cases e) (fun z => by rw [z, h2] at e; cases e) (fun z => by rw [z, h3] at e; cases e) e
theorem TbAt.u {C : Addr} {H H' : Hp} {r P R D : Addr} {ps : List Tr} (h : TbAt C H r P R D ps) (s : SameB P R D H H') : SameU H H' := by
  obtain ⟨n, pv, h1, _⟩ := h.pl
  obtain ⟨rv, rks, h2, _, _, _, _, h3⟩ := h.rl
  exact s.u h1 h2 h3
theorem TbAt.mono {C : Addr} {H H' : Hp} {r P R D : Addr} {ps : List Tr} (s : Same H H') (h : TbAt C H r P R D ps) : TbAt C H' r P R D ps := by
  obtain ⟨⟨dx, h0⟩, ⟨n, pv, h1, h2⟩, ⟨rv, rks, g1, g2, g3, g4, g5, g6⟩, nd, pr⟩ := h
  exact ⟨⟨dx, s _ _ h0⟩, ⟨n, pv, s _ _ h1, h2.mono (Same.u s)⟩, ⟨rv, rks, s _ _ g1, g2, g3, fun i v ks a b => let ⟨c, e1, e2⟩ := g4 i v ks a b; ⟨c, e1, s _ _ e2⟩, g5, s _ _ g6⟩, nd, pr⟩
theorem TbAt.monoX {C : Addr} {H H' : Hp} {r P R D F : Addr} {ps : List Tr} {xs : List V} (s : SameX F H H') (hF : H F = some (.lst xs)) (n1 : P ≠ F) (n2 : R ≠ F) (h : TbAt C H r P R D ps) : TbAt C H' r P R D ps := by
  obtain ⟨⟨dx, h0⟩, ⟨n, pv, h1, h2⟩, ⟨rv, rks, g1, g2, g3, g4, g5, g6⟩, nd, pr⟩ := h
  have u : SameU H H' := SameX.u s hF (fun _ z => by cases z)
  exact ⟨⟨dx, s _ _ (ne_of h0 hF (by intro z; cases z)) h0⟩, ⟨n, pv, s _ _ n1 h1, h2.mono u⟩, ⟨rv, rks, s _ _ n2 g1, g2, g3, fun i v ks a b => let ⟨c, e1, e2⟩ := g4 i v ks a b; ⟨c, e1, u _ _ e2⟩, g5, s _ _ (ne_of g6 hF (by intro z; cases z)) g6⟩, nd, pr⟩
/-- what the dict says of a row -/
theorem row_known {ps : List Tr} {rks : List (List Key)} (nd : ps.Nodup) (hl : rks.length = ps.length) (ok : ∀ t ∈ ps, lbOk t.lb t.ks.length) (hr : ∀ (i : Nat) t ks, ps[i]? = some t → rks[i]? = some ks → IsRow ps t ks) :
    rks.Nodup ∧ ∀ {t : Tr} {ks : List Key}, lbOk t.lb t.ks.length → IsRow ps t ks → (∀ i : Nat, ps[i]? = some t → rks[i]? = some ks) ∧ (t ∉ ps → ks ∉ rks) := by
  have same : ∀ (i j : Nat) ks, rks[i]? = some ks → rks[j]? = some ks → i = j := fun i j ks h1 h2 => by
    have hi := (List.getElem?_eq_some_iff.mp h1).1
    have hj := (List.getElem?_eq_some_iff.mp h2).1
    have e1 : ps[i]? = some ps[i] := List.getElem?_eq_getElem (by omega)
    have e2 : ps[j]? = some ps[j] := List.getElem?_eq_getElem (by omega)
    have e := row_inj (ok _ (List.getElem_mem _)) (ok _ (List.getElem_mem _)) (hr i _ _ e1 h1) (hr j _ _ e2 h2)
    rw [← e] at e2
    exact nd_ix nd e1 e2
  refine ⟨?_, fun {t ks} o1 h => ⟨fun i hi => ?_, fun hn hm => ?_⟩⟩
  · rw [List.nodup_iff_pairwise_ne, List.pairwise_iff_getElem]
    intro i j hi hj hij e
    have := same i j rks[i] (List.getElem?_eq_getElem hi) (by rw [e]; exact List.getElem?_eq_getElem hj)
    omega
  · have hi2 := (List.getElem?_eq_some_iff.mp hi).1
    have e1 : rks[i]? = some rks[i] := List.getElem?_eq_getElem (by omega)
    rw [row_fun nd h (hr i t _ hi e1)]
    exact e1
  · obtain ⟨i, hi, e⟩ := List.getElem_of_mem hm
    have e1 : ps[i]? = some ps[i] := List.getElem?_eq_getElem (by omega)
    have := row_inj o1 (ok _ (List.getElem_mem _)) h (hr i _ _ e1 (by rw [← e]; exact List.getElem?_eq_getElem hi))
    exact hn (by rw [this]; exact List.getElem_mem _)
theorem TAtL.oks {n : Nat} {H : Hp} {vs : List V} {ts : List Tr} (h : TAtL n H vs ts) : ∀ t ∈ ts, lbOk t.lb t.ks.length := fun t ht => by
  obtain ⟨i, hi, e⟩ := List.getElem_of_mem ht
  have hv : i < vs.length := by rw [h.1]; exact hi
  have := h.2 i _ t (List.getElem?_eq_getElem hv) (by rw [← e]; exact List.getElem?_eq_getElem hi)
  cases n with
  | zero => exact this.elim
  | succ n => obtain ⟨_, _, _, _, ok, _⟩ := this; exact ok
end L3
namespace L3
open PySem L2
theorem Room.units1 {k : Nat} {A : Around} (r : Room k A) : A.units + 1 < cLine := by have := r.un; omega
theorem tput1 (v : V) : putF "parts" v [] = ([("parts", v)] : List (Str × V)) := by
  simp [putF]
end L3

set_option Elab.async false
set_option linter.all false
set_option maxRecDepth 100000
set_option maxHeartbeats 4000000
namespace L3
open PySem PySem.Spec PyProof.Rows L2
/-! ### a dict with tuples of ints and texts as keys, of the heap or of the module -/
abbrev XE := List (List Key × Addr × V)
abbrev XPr : XE → List (List Key × Addr × Value) → Prop := Paired fun p q => p.1 = q.1 ∧ p.2.1 = q.2.1 ∧ RelV p.2.2 q.2.2
def DxAt (Pm : Params) (a : Addr) (es : XE) (h : Heap) : Prop := es.length ≤ sizeLine ∧ (a == sysModules) = false ∧ ∃ (P : Program) (w : World) (xs : List (List Key × Addr × Value)), w.params = Pm ∧ XPr es xs ∧
  ∃ o fs ep, h.get? a = some o ∧ o.ExactDict ∧ o.data = .dict fs ep ∧ fs.toList = xs.map (entryOfKey (tupleKind (mixKind P w))) ∧ (xs.map (·.1)).Nodup
def DxO (Pm : Params) (a : Addr) (es : XE) : HO := .ext (DxAt Pm a es)
theorem dx_ok {P : Program} {w : World} {Pm : Params} {H : Hp} {h : Heap} {a : Addr} {es : XE} (x : DxAt Pm a es h) : ObjOk P w H h a (DxO Pm a es) := by
  refine ⟨x, ?_, ?_⟩
  · obtain ⟨_, _, _, _, _, _, _, o, _, _, e, _⟩ := x
    exact ⟨o, e⟩
  · rintro h1 h2 ⟨z, y, P', w', xs, hp, r, o, fs, ep, e, c⟩ k
    exact ⟨z, y, P', w', xs, hp, r, o, fs, ep, k _ e, c⟩
theorem entry_same {P P' : Program} {w w' : World} (h : w.params = w'.params) : entryOfKey (tupleKind (mixKind P w)) = entryOfKey (tupleKind (mixKind P' w')) := by
  have hk : keyH w = keyH w' := by
    funext k
    cases k with
    | inl i => rfl
    | inr x => show hashStr w x = hashStr w' x; unfold hashStr; rw [h]
  funext x
  unfold entryOfKey
  congr 1
  show tupleKeyHash (mixKind P w) x.1 = tupleKeyHash (mixKind P' w') x.1
  unfold tupleKeyHash
  show reduceHash (Builtin.Tuple.tupleHashOf (x.1.map (keyH w))) = reduceHash (Builtin.Tuple.tupleHashOf (x.1.map (keyH w')))
  rw [hk]
def valX (es : XE) (k : List Key) : Option V := valV (es.map fun e => (e.1, e.2.2)) k
theorem XPr.val {es : XE} {xs : List (List Key × Addr × Value)} (r : XPr es xs) (k : List Key) : RelO (valX es k) ((atKey xs k).map (·.2)) := by
  induction r with
  | nil => exact True.intro
  | @cons p q ps qs h t ih =>
    obtain ⟨h1, _, h2⟩ := h
    unfold valX at ih ⊢
    rw [List.map_cons]
    by_cases e : p.1 = k
    · have e' : q.1 = k := h1.symm.trans e
      have b : atKey (q :: qs) k = some q.2 := by simp [atKey, List.find?_cons, e']
      rw [valV_pos e, b]; exact h2
    · have e' : ¬ q.1 = k := fun z => e (h1.trans z)
      have b : atKey (q :: qs) k = atKey qs k := by simp [atKey, List.find?_cons, e']
      rw [valV_neg e, b]; exact ih
/-- what the dict at a holds at the key y -/
def XGet (K : PySem.W.Frag) (Pm : Params) (H : Hp) (a : Addr) (y : V) (r : Option V) : Prop := ∃ es k b, H a = some (DxO Pm a es) ∧ y = .ref b ∧ SqT K H b (k.map kV) ∧ (∀ e ∈ es, SqT K H e.2.1 (e.1.map kV)) ∧ r = valX es k
/-- a new key -/
def XPut (K : PySem.W.Frag) (Pm : Params) (H : Hp) (a : Addr) (y v : V) (H' : Hp) : Prop := ∃ es k b, H a = some (DxO Pm a es) ∧ y = .ref b ∧ SqT K H b (k.map kV) ∧ (∀ e ∈ es, SqT K H e.2.1 (e.1.map kV)) ∧ valX es k = none ∧ es.length < sizeLine ∧ H' = upd H a (DxO Pm a (es ++ [(k, b, v)]))
section
variable {X : Cx} {pins : List (Addr × Obj)} {σ : L3.St} {H : Hp} {s : Shared} {a : Addr} {y v : V} {u r : Value} {o : Option V} {A : Around} {E : Value → Shared → Prop} {Pm : Params}
theorem key_ofK {ks : List Key} {b : Addr} (I : L2.Inv X pins σ H s) (e : SqT X.K H b (ks.map kV)) : (tupleKind (mixKind X.prog X.w)).is s.heap ks b := by
  obtain ⟨its, r, t, _⟩ := I.tuple e
  obtain ⟨o, h1, h2, n, h3⟩ := t
  exact ⟨o, its.toArray, n, h1, h2, h3, by simpa using items_are r⟩
theorem dx_of {es : XE} (hw : X.w.params = Pm) (I : L2.Inv X pins σ H s) (e : H a = some (DxO Pm a es)) (hk : ∀ e ∈ es, SqT X.K H e.2.1 (e.1.map kV)) : es.length ≤ sizeLine ∧ (a == sysModules) = false ∧ ∃ xs, XPr es xs ∧ s.heap.DictOfH (tupleKind (mixKind X.prog X.w)) a xs := by
  obtain ⟨⟨z, y, P, w, xs, hp, r, o, fs, ep, h1, h2, h3, h4, h5⟩, _⟩ := I.hok a _ e
  refine ⟨z, y, xs, r, o, fs, ep, h1, h2, h3, ?_, fun x hx => ?_, h5⟩
  · rw [h4, entry_same (P' := X.prog) (w' := X.w) (hp.trans hw.symm)]
  · have all : ∀ {l : XE} {m : List (List Key × Addr × Value)}, XPr l m → (∀ e ∈ l, SqT X.K H e.2.1 (e.1.map kV)) → ∀ x ∈ m, (tupleKind (mixKind X.prog X.w)).is s.heap x.1 x.2.1 := by
      intro l m q
      induction q with
      | nil => intro _ x hx; exact nomatch hx
      | @cons p q ps qs hq t ih =>
        intro hk x hx
        rcases List.mem_cons.mp hx with e | hx
        · subst e
          have := hk p (by simp)
          rw [hq.1, hq.2.1] at this
          exact key_ofK I this
        · exact ih (fun e he => hk e (List.mem_cons_of_mem _ he)) x hx
    exact all r hk x hx
theorem x_getItem {Q : Value → Shared → Prop} (hw : X.w.params = Pm) (hu : A.units + 1 < cLine) (I : L2.Inv X pins σ H s) (g : XGet X.K Pm H a y (some v)) (ry : RelV y u) (h : ∀ w' s', L2.Inv X pins σ H s' → RelV v w' → Q w' s') :
    wpAny (model X.prog X.w) A (getItem (.ref a) u) Q E s := by
  obtain ⟨es, k, b, e, rfl, eb, hk, l⟩ := g
  cases (show u = Value.ref b from ry)
  obtain ⟨z, hd, xs, rel, dd⟩ := dx_of hw I e hk
  obtain ⟨w', hw', rw'⟩ := RelO.some_of (v := v) (o := (atKey xs k).map (·.2)) (by rw [l]; exact rel.val k)
  obtain ⟨p, hp, hp2⟩ := Option.map_eq_some_iff.mp hw'
  refine wpAny_getItem_heap (tupleKind_room_in1 hu) (key_ofK I eb) dd hp ?_
  rw [hp2]
  exact h w' _ (I.tok _) rw'
theorem x_notIn {Q : Value → Shared → Prop} (hw : X.w.params = Pm) (hu : A.units + 1 < cLine) (I : L2.Inv X pins σ H s) (g : XGet X.K Pm H a y o) (ry : RelV y u) (h : ∀ s', L2.Inv X pins σ H s' → Q (.bool (!o.isSome)) s') :
    wpAny (model X.prog X.w) A (compareOp .NotIn u (.ref a)) Q E s := by
  obtain ⟨es, k, b, e, rfl, eb, hk, l⟩ := g
  cases (show u = Value.ref b from ry)
  obtain ⟨z, hd, xs, rel, dd⟩ := dx_of hw I e hk
  refine wpAny_notIn_heap (tupleKind_room_in1 hu) (key_ofK I eb) hd dd ?_
  have q := (rel.val k).isSome_eq
  rw [Option.isSome_map] at q
  rw [← q, ← l]
  exact h _ (I.tok _)
theorem x_setItem {H' : Hp} {Q : Unit → Shared → Prop} (hw : X.w.params = Pm) (hu : A.units + 1 < cLine) (I : L2.Inv X pins σ H s) (g : XPut X.K Pm H a y v H') (ry : RelV y u) (rv : RelV v r) (h : ∀ s', L2.Inv X pins σ H' s' → Q () s') :
    wpAny (model X.prog X.w) A (setItem (.ref a) u r) Q E s := by
  obtain ⟨es, k, b, e, rfl, eb, hk, hn, hl, rfl⟩ := g
  cases (show u = Value.ref b from ry)
  obtain ⟨z, hd, xs, rel, dd⟩ := dx_of hw I e hk
  have hz : xs.length ≤ sizeLine := by rw [← Paired.length rel]; exact z
  have hnone : atKey xs k = none := by
    have q := (rel.val k).isSome_eq
    rw [hn, Option.isSome_map] at q
    cases hh : atKey xs k with
    | none => rfl
    | some p => rw [hh] at q; cases q
  refine wpAny_setItem_heap (hsz := hz) (tupleKind_room_in1 hu) (key_ofK I eb) dd fun h' dd' hs => h _ ?_
  rw [storedH_new hnone] at dd'
  obtain ⟨q, fs, ep, hq, h2, h3, h4, _, h5⟩ := dd'
  refine d_write (ob := DxO Pm a (es ++ [(k, b, v)])) I (by rw [e]; exact True.intro) hs ⟨q, hq⟩ (dx_ok ⟨by rw [List.length_append, List.length_singleton]; omega, hd, X.prog, X.w, _, hw, Paired.snoc rel ⟨rfl, rfl, rv⟩, q, fs, ep, hq, h2, h3, h4, h5⟩)
end
def tXGet (K : PySem.W.Frag) (Pm : Params) (td ty : TE) : TE := fun σ H Q => td σ H fun x H1 => ty σ H1 fun y H2 => ∃ a v, x = .ref a ∧ XGet K Pm H2 a y (some v) ∧ Q v H2
def tXNotIn (K : PySem.W.Frag) (Pm : Params) (ty td : TE) : TE := fun σ H Q => ty σ H fun y H1 => td σ H1 fun x H2 => ∃ a o, x = .ref a ∧ XGet K Pm H2 a y o ∧ Q (.bl (!o.isSome)) H2
def sXPut (K : PySem.W.Frag) (Pm : Params) (td ty tv : TE) : L2.TS := fun D σ H => tv σ H fun v H1 => td σ H1 fun x H2 => ty σ H2 fun y H3 => ∃ a H4, x = .ref a ∧ XPut K Pm H3 a y v H4 ∧ D.nx σ H4
def tXNew (Pm : Params) : TE := fun _ H Q => ∀ p, H p = none → Q (.ref p) (upd H p (DxO Pm p []))
section
variable {X : Cx} {K : PySem.W.Frag} {o i e value : Expr} {pos pos' : Pos} {td ty tv : TE} {Pm : Params}
theorem x_dict {pins : List (Addr × Obj)} {σ : L3.St} {H : Hp} {s : Shared} {a : Addr} {es : XE} (I : L2.Inv X pins σ H s) (e : H a = some (DxO Pm a es)) : s.TypeIs (.ref a) "dict" := by
  obtain ⟨⟨_, _, _, _, _, _, _, o, _, _, h1, h2, _⟩, _⟩ := I.hok a _ e
  exact ⟨o, h1, h2.1⟩
theorem pe_xget (hK : X.K = K) (hw : X.w.params = Pm) (hu : X.A.units + 1 < cLine) (ho : PE X o td) (hi : PE X i ty) (hs : NoSl i) : PE X (.Subscript o i pos) (tXGet K Pm td ty) := by
  subst hK
  intro pins s σ H Q I h
  refine subD_of PySem.F.slot_dict_getitem.lookup hs (thn (ho pins s σ H _ I h) fun u s1 ⟨x, H1, I1, rx, q1⟩ => thn (hi pins s1 σ H1 _ I1 q1) fun iv s2 ⟨y, H2, I2, ry, a, v, ex, g, q2⟩ => ?_)
  subst ex
  obtain rfl : u = Value.ref a := rx
  obtain ⟨es, _, _, e, _⟩ := id g
  exact ⟨x_dict I2 e, x_getItem hw hu I2 g ry fun w' s3 I3 rw' => ⟨v, H2, I3, rw', q2⟩⟩
theorem pc_xnotin (hK : X.K = K) (hw : X.w.params = Pm) (hu : X.A.units + 1 < cLine) (hi : PE X i ty) (ho : PE X o td) : PC X .NotIn i o (tXNotIn K Pm ty td) := by
  subst hK
  intro pins s σ H Q I h
  refine thn (hi pins s σ H _ I h) fun iv s1 ⟨y, H1, I1, ry, q1⟩ => thn (ho pins s1 σ H1 _ I1 q1) fun u s2 ⟨x, H2, I2, rx, a, ov, ex, g, q2⟩ => ?_
  subst ex
  obtain rfl : u = Value.ref a := rx
  exact x_notIn hw hu I2 g ry fun s3 I3 => ⟨.bl (!ov.isSome), H2, I3, rfl, q2⟩
theorem ps_xput (hK : X.K = K) (hw : X.w.params = Pm) (hu : X.A.units + 1 < cLine) (ho : PE X o td) (hi : PE X i ty) (hv : PE X value tv) (hs : swapsWith value (some (.Subscript o i pos')) pos.line X.env = pure false) :
    PS X (.Assign [.Subscript o i pos'] value pos) (sXPut K Pm td ty tv) := by
  subst hK
  intro pins s σ H D I h
  refine wpAny_Assign_Subscript (thn (hv pins s σ H _ I h) fun r s1 ⟨v, H1, I1, rv, q1⟩ => thn (ho pins s1 σ H1 _ I1 q1) fun u s2 ⟨x, H2, I2, rx, q2⟩ => thn (hi pins s2 σ H2 _ I2 q2) fun iv s3 ⟨y, H3, I3, ry, a, H4, ex, g, q3⟩ => ?_) hs
  subst ex
  obtain rfl : u = Value.ref a := rx
  exact x_setItem hw hu I3 g ry rv fun s4 I4 => ⟨σ, H4, I4, q3⟩
theorem pe_xnew (hw : X.w.params = Pm) : PE X (.Dict [] [] pos) (tXNew Pm) := fun pins s σ H Q I h =>
  wpAny_Dict_empty ⟨.ref s.heap.objs.size, _, I.laid (a := s.heap.objs.size) (o := DxO Pm s.heap.objs.size []) (t' := s.toks) (fun _ _ q => Heap.get?_push_of_some _ q) (Nat.le_refl _) (dx_ok ⟨Nat.zero_le _, beq_eq_false_iff_ne.mpr (Ne.symm (Nat.ne_of_lt (Inv.big I))), X.prog, X.w, [], hw, .nil, _, #[], 0, Heap.get?_push_size _ rfl, ⟨rfl, rfl, rfl⟩, rfl, rfl, List.nodup_nil⟩), rfl, h _ (I.hok.fresh (Nat.le_refl _))⟩
end
end L3

set_option Elab.async false
set_option linter.all false
set_option maxRecDepth 100000
set_option maxHeartbeats 4000000
namespace L3
open PySem PySem.Spec PyProof.Rows L2
/-! ### how many different parts a core has -/
open Classical in
theorem nodup_len : ∀ {l₁ l₂ : List Tr}, l₁.Nodup → (∀ x ∈ l₁, x ∈ l₂) → l₁.length ≤ l₂.length
  | [], _, _, _ => by simp
  | x :: r, l₂, nd, h => by
    obtain ⟨h1, h2⟩ := List.nodup_cons.mp nd
    have hx := h x (by simp)
    have := nodup_len (l₂ := l₂.erase x) h2 fun y hy => (List.mem_erase_of_ne (fun e => h1 (by rw [← e]; exact hy))).mpr (h y (List.mem_cons_of_mem _ hy))
    rw [List.length_erase_of_mem hx] at this
    have := List.length_pos_of_mem hx
    rw [List.length_cons]
    omega
theorem mem_postL2 : ∀ {ks : List Tr} {s : Tr}, s ∈ postL ks ↔ ∃ k ∈ ks, s ∈ post k
  | [], s => by rw [postL]; simp
  | t :: r, s => by rw [postL, List.mem_append, mem_postL2]; simp
def Cov (S : Tr → Prop) (x : Tr) (n : Nat) : Prop := ∃ N : List Tr, N.length ≤ n ∧ ∀ y ∈ post x, y ∈ N ∨ S y
theorem cov_of {S : Tr → Prop} {x : Tr} (h : ∀ y ∈ post x, S y) : Cov S x 0 := ⟨[], Nat.le_refl _, fun y hy => .inr (h y hy)⟩
theorem Cov.le {S : Tr → Prop} {x : Tr} {n m : Nat} (h : Cov S x n) (hm : n ≤ m) : Cov S x m := let ⟨N, h1, h2⟩ := h; ⟨N, Nat.le_trans h1 hm, h2⟩
theorem cov_1 {S : Tr → Prop} {c : Lb} {a : Tr} {n : Nat} (h : Cov S a n) : Cov S (.node c [a]) (n + 1) := by
  obtain ⟨N, h1, h2⟩ := h
  refine ⟨.node c [a] :: N, by simp; omega, fun y hy => ?_⟩
  rw [post, List.mem_append, mem_postL2] at hy
  rcases hy with ⟨k, hk, hy⟩ | hy
  · rw [List.mem_singleton.mp hk] at hy
    rcases h2 y hy with h | h
    · exact .inl (List.mem_cons_of_mem _ h)
    · exact .inr h
  · rw [List.mem_singleton.mp hy]; exact .inl (by simp)
theorem cov_2 {S : Tr → Prop} {c : Lb} {a b : Tr} {n m : Nat} (h : Cov S a n) (g : Cov S b m) : Cov S (.node c [a, b]) (n + m + 1) := by
  obtain ⟨N, h1, h2⟩ := h
  obtain ⟨M, g1, g2⟩ := g
  refine ⟨.node c [a, b] :: (N ++ M), by simp; omega, fun y hy => ?_⟩
  rw [post, List.mem_append, mem_postL2] at hy
  rcases hy with ⟨k, hk, hy⟩ | hy
  · simp only [List.mem_cons, List.not_mem_nil, or_false] at hk
    rcases hk with rfl | rfl
    · rcases h2 y hy with h | h
      · exact .inl (List.mem_cons_of_mem _ (List.mem_append_left _ h))
      · exact .inr h
    · rcases g2 y hy with h | h
      · exact .inl (List.mem_cons_of_mem _ (List.mem_append_right _ h))
      · exact .inr h
  · rw [List.mem_singleton.mp hy]; exact .inl (by simp)
theorem cov_core {c : Lb} {cs : List Tr} (ok : lbOk c cs.length) (hc : ∀ z, c ≠ .sign z) : Cov (fun y => y = nYes ∨ ∃ k ∈ cs, y ∈ post k) (coreF c cs) 36 := by
  generalize hS : (fun y => y = nYes ∨ ∃ k ∈ cs, y ∈ post k) = S
  have y0 : Cov S nYes 0 := cov_of fun y hy => by
    rw [post, postL, List.nil_append] at hy
    rw [← hS]
    exact .inl (List.mem_singleton.mp hy)
  have k0 : ∀ k ∈ cs, Cov S k 0 := fun k hk => cov_of fun y hy => by rw [← hS]; exact .inr ⟨k, hk, hy⟩
  have g : ∀ i, Cov S (cs.getD i nYes) 0 := fun i => getD_mem (P := fun k => Cov S k 0) k0 y0
  have ha : ∀ ds : List Tr, (∀ k ∈ ds, Cov S k 0) → Cov S (andT ds) ds.length := by
    intro ds
    induction ds with
    | nil => intro _; exact y0
    | cons x r ih =>
      intro h
      cases r with
      | nil => exact (h x (by simp)).le (Nat.zero_le _)
      | cons z r =>
        have i2 := ih fun k hk => h k (List.mem_cons_of_mem _ hk)
        exact (cov_2 (h x (by simp)) i2).le (by simp)
  have ho : ∀ ds : List Tr, (∀ k ∈ ds, Cov S k 0) → Cov S (orT ds) (4 * ds.length + 1) := by
    intro ds
    induction ds with
    | nil => intro _; exact cov_1 y0
    | cons x r ih =>
      intro h
      cases r with
      | nil => exact (h x (by simp)).le (Nat.zero_le _)
      | cons z r =>
        have i2 := ih fun k hk => h k (List.mem_cons_of_mem _ hk)
        exact (cov_1 (cov_2 (cov_1 (h x (by simp))) (cov_1 i2))).le (by simp; omega)
  have hw : ∀ n f s, Cov S f 0 → Cov S s 0 → Cov S (withinT n f s) (6 * n) := by
    intro n f s hf hs
    induction n with
    | zero => exact hs
    | succ n ih => exact (cov_1 (cov_2 (cov_1 hs) (cov_1 (cov_2 hf (cov_1 ih))))).le (by omega)
  cases c with
  | yes => exact y0.le (Nat.zero_le _)
  | sign z => exact absurd rfl (hc z)
  | many w =>
    show Cov S (if w = "and" then andT cs else orT cs) 36
    have h8 : cs.length ≤ 8 := ok.2
    split
    · exact (ha cs k0).le (by omega)
    · exact (ho cs k0).le (by omega)
  | wit k =>
    have h5 : k.toNat ≤ 5 := by have := ok.1; omega
    exact (hw k.toNat _ _ (g 0) (g 1)).le (by omega)
  | op w =>
    have hself : Cov S (.node (.op w) cs) 36 := by
      have hl : cs.length = 1 ∨ cs.length = 2 := by rcases ok with o | o; exact .inl o.2; exact .inr o.2
      match cs, hl, k0 with
      | [a], _, h => exact (cov_1 (h a (by simp))).le (by decide)
      | [a, b], _, h => exact (cov_2 (h a (by simp)) (h b (by simp))).le (by decide)
    unfold coreF
    dsimp only
    split
    · exact (cov_1 (cov_1 (cov_1 (g 0)))).le (by decide)
    split
    · exact (cov_2 y0 (g 0)).le (by decide)
    split
    · exact (cov_1 (cov_2 y0 (cov_1 (g 0)))).le (by decide)
    split
    · exact (cov_2 y0 (g 0)).le (by decide)
    split
    · exact (cov_1 (cov_2 y0 (cov_1 (g 0)))).le (by decide)
    · exact hself
/-- a sentence's weight: its leaves, and 36 for each other part -/
def wgt : Tr → Nat := valT fun c ws => match c with
  | .yes => 1
  | .sign _ => 1
  | _ => ws.sum + 36
theorem wgt_eq (t : Tr) : wgt t = match t.lb with | .yes => 1 | .sign _ => 1 | _ => (t.ks.map wgt).sum + 36 := valT_eq _ t
theorem wgt_in {c : Lb} {ks : List Tr} (h : c ≠ .yes) (hs : ∀ z, c ≠ .sign z) : wgt (.node c ks) = (ks.map wgt).sum + 36 := by
  rw [wgt_eq]
  show (match c with | .yes => 1 | .sign _ => 1 | _ => (ks.map wgt).sum + 36) = _
  cases c with
  | yes => exact absurd rfl h
  | sign z => exact absurd rfl (hs z)
  | op w => rfl
  | wit m => rfl
  | many w => rfl
theorem cov_all : ∀ {n : Nat} {t : Tr}, OkN n t → ∃ C : List Tr, C.length ≤ wgt t ∧ ∀ y ∈ post (coreT t), y ∈ C ∨ y = nYes
  | 0, _, h => h.elim
  | n + 1, t, ⟨ok, hk⟩ => by
    obtain ⟨c, ks⟩ := t
    have ok' : lbOk c ks.length := ok
    by_cases hy : c = .yes
    · subst hy
      refine ⟨[], Nat.zero_le _, fun y h => .inr ?_⟩
      rw [coreT_eq] at h
      have h' : y ∈ post nYes := h
      rw [post, postL, List.nil_append] at h'
      exact List.mem_singleton.mp h'
    · by_cases hs : ∃ z, c = .sign z
      · obtain ⟨z, rfl⟩ := hs
        refine ⟨[.node (.sign z) []], Nat.le_refl _, fun y h => .inl ?_⟩
        rw [coreT_eq] at h
        have h' : y ∈ post (.node (.sign z) []) := h
        rw [post, postL, List.nil_append] at h'
        exact h'
      · have hs' : ∀ z, c ≠ .sign z := fun z e => hs ⟨z, e⟩
        have kids : ∀ (js : List Tr), (∀ k ∈ js, OkN n k) → ∃ C : List Tr, C.length ≤ (js.map wgt).sum ∧ ∀ k ∈ js, ∀ y ∈ post (coreT k), y ∈ C ∨ y = nYes := by
          intro js
          induction js with
          | nil => intro _; exact ⟨[], Nat.le_refl _, fun k h => by cases h⟩
          | cons a r ih =>
            intro h
            obtain ⟨C1, l1, q1⟩ := cov_all (h a (by simp))
            obtain ⟨C2, l2, q2⟩ := ih fun k hk => h k (List.mem_cons_of_mem _ hk)
            refine ⟨C1 ++ C2, by rw [List.length_append, List.map_cons, List.sum_cons]; omega, fun k hk y hy => ?_⟩
            rcases List.mem_cons.mp hk with rfl | hk
            · rcases q1 y hy with h | h
              · exact .inl (List.mem_append_left _ h)
              · exact .inr h
            · rcases q2 k hk y hy with h | h
              · exact .inl (List.mem_append_right _ h)
              · exact .inr h
        obtain ⟨C, lC, qC⟩ := kids ks hk
        obtain ⟨N, lN, qN⟩ := cov_core (c := c) (cs := ks.map coreT) (by rw [List.length_map]; exact ok') hs'
        refine ⟨N ++ C, by rw [wgt_in hy hs', List.length_append]; omega, fun y h => ?_⟩
        rw [coreT_eq] at h
        rcases qN y h with h | h | ⟨k', hk', h⟩
        · exact .inl (List.mem_append_left _ h)
        · exact .inr h
        · obtain ⟨k, hk2, rfl⟩ := List.mem_map.mp hk'
          rcases qC k hk2 y h with h | h
          · exact .inl (List.mem_append_right _ h)
          · exact .inr h
theorem parts_few {n : Nat} {t : Tr} (h : OkN n t) : (addAll [] (post (coreT t))).length ≤ wgt t + 1 := by
  obtain ⟨C, l, q⟩ := cov_all h
  have := nodup_len (l₂ := nYes :: C) (nodup_addAll (L := post (coreT t)) (A := []) (by simp)) fun x hx => by
    rcases mem_addAll.mp hx with hx | hx
    · cases hx
    · rcases q x hx with h | h
      · exact List.mem_cons_of_mem _ h
      · rw [h]; simp
  rw [List.length_cons] at this
  omega
theorem post_trans : ∀ (n : Nat) {t x y : Tr}, psz t ≤ n → x ∈ post t → y ∈ post x → y ∈ post t
  | 0, t, x, y, h, _, _ => by have := psz_pos t; omega
  | n + 1, t, x, y, h, hx, hy => by
    rw [post_eq, List.mem_append, mem_postL2] at hx
    rcases hx with ⟨k, hk, hx⟩ | hx
    · rw [post_eq, List.mem_append, mem_postL2]
      exact .inl ⟨k, hk, post_trans n (by have := psz_kid hk; omega) hx hy⟩
    · rw [List.mem_singleton.mp hx] at hy; exact hy
/-- a part's parts are fewer -/
theorem parts_sub {t x : Tr} (h : x ∈ post t) : (addAll [] (post x)).length ≤ (addAll [] (post t)).length := by
  refine nodup_len (nodup_addAll (by simp)) fun y hy => ?_
  rcases mem_addAll.mp hy with hy | hy
  · cases hy
  · exact mem_addAll.mpr (.inr (post_trans _ (Nat.le_refl _) h hy))
theorem postB_sub : ∀ (n : Nat) {t x : Tr}, psz t ≤ n → x ∈ postB t → x ∈ post t
  | 0, t, x, h, _ => by have := psz_pos t; omega
  | n + 1, t, x, h, hx => by
    rcases postB_cases hx with rfl | ⟨k, hk, hxk⟩
    · exact post_mem _
    · rw [post_eq, List.mem_append, mem_postL2]
      exact .inl ⟨k, below_sub hk, postB_sub n (by have := psz_kid (below_sub hk); omega) hxk⟩
theorem partsB_few (t : Tr) : (addAll [] (postB t)).length ≤ (addAll [] (post t)).length := by
  refine nodup_len (nodup_addAll (by simp)) fun y hy => ?_
  rcases mem_addAll.mp hy with hy | hy
  · cases hy
  · exact mem_addAll.mpr (.inr (postB_sub _ (Nat.le_refl _) hy))
end L3

set_option Elab.async false
set_option linter.all false
set_option maxRecDepth 100000
set_option maxHeartbeats 4000000
namespace L3
open PySem PySem.Spec PyProof.Rows L2
/-! ### a table, its rows of the heap or of the module -/
def numX : Nat → List (List Key × Addr) → XE
  | _, [] => []
  | n, e :: r => (e.1, e.2, .int (n : Int)) :: numX (n + 1) r
theorem numX_len : ∀ (n : Nat) (l : List (List Key × Addr)), (numX n l).length = l.length
  | _, [] => rfl
  | n, k :: r => by rw [numX, List.length_cons, numX_len, List.length_cons]
theorem numX_snoc : ∀ (n : Nat) (l : List (List Key × Addr)) (e : List Key × Addr), numX n (l ++ [e]) = numX n l ++ [(e.1, e.2, .int ((n + l.length : Nat) : Int))]
  | n, [], e => rfl
  | n, a :: r, e => by rw [List.cons_append, numX, numX_snoc (n + 1) r e, numX, List.length_cons, List.cons_append, show n + 1 + r.length = n + (r.length + 1) by omega]
theorem numX_R : ∀ (n : Nat) (l : List (List Key × Addr)), (numX n l).map (fun e => (e.1, e.2.2)) = numR n (l.map (·.1))
  | _, [] => rfl
  | n, e :: r => by rw [numX, List.map_cons, numX_R, List.map_cons, numR]
theorem valX_R (rows : List (List Key × Addr)) (k : List Key) : valX (numX 0 rows) k = valV (numR 0 (rows.map (·.1))) k := by unfold valX; rw [numX_R]
theorem numX_mem : ∀ {n : Nat} {l : List (List Key × Addr)} {e : List Key × Addr × V}, e ∈ numX n l → (e.1, e.2.1) ∈ l
  | _, [], e, h => by cases h
  | n, a :: r, e, h => by
    rw [numX] at h
    rcases List.mem_cons.mp h with rfl | h
    · simp
    · exact List.mem_cons_of_mem _ (numX_mem h)
structure TbK (K : PySem.W.Frag) (Pm : Params) (C : Addr) (H : Hp) (r P R D : Addr) (ps : List Tr) : Prop where
  obj : ∃ dx, H r = some (.ins C dx [("parts", .ref P), ("rows", .ref R), ("numbers", .ref D)])
  pl : ∃ n pv, H P = some (.lst pv) ∧ AtL K n H pv ps
  rl : ∃ rows : List (List Key × Addr), H R = some (.lst (rows.map fun e => .ref e.2)) ∧ rows.length = ps.length ∧ (∀ e ∈ rows, SqT K H e.2 (e.1.map kV)) ∧ (∀ (i : Nat) t e, ps[i]? = some t → rows[i]? = some e → IsRow ps t e.1) ∧ H D = some (DxO Pm D (numX 0 rows))
  nd : ps.Nodup
  pr : P ≠ R
theorem SameB.t {P R D : Addr} {H H' : Hp} {pv rv : List V} {Pm : Params} {es : XE} (s : SameB P R D H H') (h1 : H P = some (.lst pv)) (h2 : H R = some (.lst rv)) (h3 : H D = some (DxO Pm D es)) : SameT H H' := fun K b xs h => by
  have n : ∀ {o : HO}, H b = some o → (∀ ys, o ≠ .lst ys) → (∀ φ, o ≠ .ext φ) → H' b = some o := fun e q1 q2 => s _ _ (fun z => by rw [z, h1] at e; cases e; exact q1 _ rfl) (fun z => by rw [z, h2] at e; cases e; exact q1 _ rfl) (fun z => by rw [z, h3] at e; cases e; exact q2 _ rfl) e
  rcases h with (h | ⟨o, h⟩) | h
  · exact .inl (.inl (n h (fun _ z => by cases z) (fun _ z => by cases z)))
  · exact .inl (.inr ⟨o, n h (fun _ z => by cases z) (fun _ z => by cases z)⟩)
  · exact .inr h
variable {K : PySem.W.Frag} {Pm : Params}
theorem TbK.t {C : Addr} {H H' : Hp} {r P R D : Addr} {ps : List Tr} (h : TbK K Pm C H r P R D ps) (s : SameB P R D H H') : SameT H H' := by
  obtain ⟨n, pv, h1, _⟩ := h.pl
  obtain ⟨rows, h2, _, _, _, h3⟩ := h.rl
  exact s.t h1 h2 h3
theorem TbK.mono {C : Addr} {H H' : Hp} {r P R D : Addr} {ps : List Tr} (s : Same H H') (h : TbK K Pm C H r P R D ps) : TbK K Pm C H' r P R D ps := by
  obtain ⟨⟨dx, h0⟩, ⟨n, pv, h1, h2⟩, ⟨rows, g1, g2, g3, g4, g5⟩, nd, pr⟩ := h
  exact ⟨⟨dx, s _ _ h0⟩, ⟨n, pv, s _ _ h1, h2.mono (Same.tup s)⟩, ⟨rows, s _ _ g1, g2, fun e he => Same.tup s _ _ _ (g3 e he), g4, s _ _ g5⟩, nd, pr⟩
theorem TbK.monoX {C : Addr} {H H' : Hp} {r P R D F : Addr} {ps : List Tr} {xs : List V} (s : SameX F H H') (hF : H F = some (.lst xs)) (n1 : P ≠ F) (n2 : R ≠ F) (h : TbK K Pm C H r P R D ps) : TbK K Pm C H' r P R D ps := by
  obtain ⟨⟨dx, h0⟩, ⟨n, pv, h1, h2⟩, ⟨rows, g1, g2, g3, g4, g5⟩, nd, pr⟩ := h
  have u : SameT H H' := SameX.tup s hF
  exact ⟨⟨dx, s _ _ (ne_of h0 hF (by intro z; cases z)) h0⟩, ⟨n, pv, s _ _ n1 h1, h2.mono u⟩, ⟨rows, s _ _ n2 g1, g2, fun e he => u _ _ _ (g3 e he), g4, s _ _ (ne_of g5 hF (by intro z; cases z)) g5⟩, nd, pr⟩
theorem AtL.oks {n : Nat} {H : Hp} {vs : List V} {ts : List Tr} (h : AtL K n H vs ts) : ∀ t ∈ ts, lbOk t.lb t.ks.length := fun t ht => by
  obtain ⟨i, hi, e⟩ := List.getElem_of_mem ht
  have hv : i < vs.length := by rw [h.1]; exact hi
  have := h.2 i _ t (List.getElem?_eq_getElem hv) (by rw [← e]; exact List.getElem?_eq_getElem hi)
  cases n with
  | zero => exact this.elim
  | succ n => obtain ⟨_, _, _, _, ok, _⟩ := this; exact ok
/-- xs[::k], k positive: some of them -/
def tStep (K : PySem.W.Frag) (te : TE) (ts : TO) : TE := fun σ H Q => te σ H fun x H1 => ts σ H1 fun k H2 => ∃ a xs, ∃ j : Int, x = .ref a ∧ k = some j ∧ 0 < j ∧ SqL K H2 a xs ∧ ∀ p ys, H2 p = none → ys.length ≤ xs.length → (∀ y ∈ ys, y ∈ xs) → Q (.ref p) (upd H2 p (.lst ys))
theorem vals_pick {xs : List V} {its : List Value} (r : Vals xs its) : ∀ idx : List Nat, Vals (idx.filterMap fun i => xs[i]?) (idx.filterMap fun i => its.toArray[i]?)
  | [] => .nil
  | i :: idx => by
    have ih := vals_pick r idx
    have hl := r.length
    by_cases hi : i < xs.length
    · obtain ⟨u, hu, ru⟩ := r.get (List.getElem?_eq_getElem hi)
      have hu' : its.toArray[i]? = some u := by simpa using hu
      rw [List.filterMap_cons_some (List.getElem?_eq_getElem hi), List.filterMap_cons_some hu']
      exact .cons ru ih
    · have h1 : xs[i]? = none := List.getElem?_eq_none (by omega)
      have h2 : its.toArray[i]? = none := by simpa using (show its.length ≤ i by omega)
      rw [List.filterMap_cons_none h1, List.filterMap_cons_none h2]
      exact ih
section
variable {X : Cx}
theorem pe_step {e st : Expr} {te : TE} {ts : TO} {pos p2 : Pos} (hK : X.K = K) (he : PE X e te) (hs : PO X (some st) ts) : PE X (.Subscript e (.Slice none none (some st) p2) pos) (tStep K te ts) := by
  subst hK
  intro pins s σ H Q I h
  refine Subscript_ (thn (he pins s σ H _ I h) fun v s1 ⟨x, H1, I1, r1, q1⟩ => ?_)
  refine wpAny_Slice ?_
  rw [evalPart_none]
  refine wpAny_pure (wpAny_pure (thn (hs pins s1 σ H1 _ I1 q1) fun vk s3 ⟨k, H3, I3, pk, q3⟩ => ?_))
  obtain ⟨a, xs, j, rfl, rfl, hj, hq, q⟩ := q3
  obtain rfl : v = Value.ref a := r1
  have I4 : L2.Inv X pins σ H3 { s3 with heap := s3.heap.push { cls := .type "slice", data := .fields #[.none, .none, vk] } } := I3.kept (t' := s3.toks) fun b ob q => Heap.get?_push_of_some _ q
  obtain ⟨its4, r4, ht4, hz4⟩ := I4.list hq
  have hlen4 := r4.length
  show wpAny (model X.prog X.w) X.A (subscriptTail e (.Slice none none (some st) p2) (.ref a) (.ref s3.heap.objs.size)) (EP X pins σ Q) X.xe { s3 with heap := s3.heap.push { cls := .type "slice", data := .fields #[.none, .none, vk] } }
  refine tail_any (ops := [.ref a, .ref s3.heap.objs.size]) ht4.isList.typeIs slot_list_getitem.lookup ?_ (by with_unfolding_all rfl)
  have hpl := slicePick_size_le its4.toArray none none (some j)
  refine wpAny_getItem_list_slice ht4.isList (Heap.IsSliceOf.new ..) .none .none pk (by intro z; cases z; omega) ?_ (by rw [List.size_toArray] <;> omega)
  generalize hidx : sliceRange (sliceBounds none none (some j) its4.toArray.size).1 (sliceBounds none none (some j) its4.toArray.size).2.1 (sliceBounds none none (some j) its4.toArray.size).2.2 = idx
  have ep : slicePick its4.toArray none none (some j) = (idx.filterMap fun i => its4.toArray[i]?).toArray := by unfold slicePick; rw [hidx]
  rw [ep] at hpl ⊢
  have rv := vals_pick r4 idx
  have rl := rv.length
  rw [List.size_toArray, List.size_toArray] at hpl
  refine ⟨.ref _, _, I4.laid (t' := s3.toks) (o := .lst (idx.filterMap fun i => xs[i]?)) (fun b ob q => Heap.get?_push_of_some _ q) (Nat.le_refl _) ?_, rfl, q _ _ (I4.hok.fresh (Nat.le_refl _)) (by omega) fun y hy => ?_⟩
  · exact ⟨by omega, _, 0, rv, Heap.get?_push_size _ rfl⟩
  · obtain ⟨i, _, hi⟩ := List.mem_filterMap.mp hy
    exact List.mem_of_getElem? hi
/-- sum of ints -/
def rSumI (K : PySem.W.Frag) : List V → Hp → VK → Prop := fun vs H Q => ∃ (a : Addr) (ns : List Int), vs = [.ref a] ∧ SqL K H a (ns.map V.int) ∧ Q (.int ns.sum) H
theorem call_sumI (hK : X.K = K) (hc : X.calm = true) : CallR X (.builtin "sum") (rSumI K) := by
  subst hK
  intro pins s σ H xs us Q I r h
  obtain ⟨a, ns, rfl, hq, q⟩ := h
  obtain ⟨u, rfl, ru⟩ := vals1 r
  obtain rfl : u = Value.ref a := ru
  obtain ⟨its, rits, pl, hz⟩ := I.list hq
  have ia : IntsAre its ns := intsAre_of rits
  obtain ⟨ys, ey⟩ := (IntsAre.allInts ia).items
  have en : ys.toList.map (·.1) = ns := by
    rw [← nums_intItems, ← ey]
    exact IntsAre.numsOf ia
  have il := pl.isList
  rw [ey] at il
  refine sum_intListG (I.ok.hd hc) il fun h' tk t' hk => ?_
  have e2 : preSum (numAt ys) ys.size = ns.sum := by rw [preSum_eq, List.take_of_length_le (by simp), en]
  rw [e2]
  exact ⟨.int ns.sum, H, I.kept (t' := tk) hk, ⟨t', rfl⟩, q⟩
end
end L3

set_option Elab.async false
set_option linter.all false
set_option maxRecDepth 100000
set_option maxHeartbeats 8000000
namespace KK
open PySem PySem.Spec L2 L3
def top (i : Nat) : Stmt := PySem.Challenge.pw_timecourt_k14_parts_and_sizes.main.body.getD i (.Pass ⟨0, 0, 0, 0⟩)
abbrev s_is_whole : Stmt := top 3
abbrev s_is_name : Stmt := top 4
abbrev s_last_ones : Stmt := top 5
abbrev s_is_formed : Stmt := top 12
abbrev s_inner_of : Stmt := top 13
abbrev s_inner_ahead : Stmt := top 14
abbrev s_core_of : Stmt := top 17
abbrev s_core_with : Stmt := top 18
abbrev s_and_of : Stmt := top 19
abbrev s_or_of : Stmt := top 20
abbrev s_within_of : Stmt := top 21
abbrev s_row_with : Stmt := top 22
abbrev s_Table_init : Stmt := inClass (top 23) 0
abbrev s_Table_number_of : Stmt := inClass (top 23) 1
abbrev s_Table_taken_in : Stmt := inClass (top 23) 2
abbrev s_Table_inner_numbers : Stmt := inClass (top 23) 3
abbrev s_below : Stmt := top 24
abbrev s_parts_of : Stmt := top 25
abbrev s_inner_parts : Stmt := top 26
abbrev s_size_of : Stmt := top 27
abbrev s__law_cell_at : Stmt := top 29
abbrev s__law_stream : Stmt := top 30
abbrev s__law_draw : Stmt := top 31
abbrev s__law_sentence : Stmt := top 32
abbrev s__law_inner : Stmt := top 33
abbrev s__law_gone_through : Stmt := top 34
abbrev s__law_right : Stmt := top 35
abbrev s__law_sized : Stmt := top 36
abbrev s_law : Stmt := top 37
theorem sc_is_whole : FnScope ["thing"] ["thing"] (defScope s_is_whole) := ⟨rfl, rfl, rfl, by decide +kernel, rfl, by decide +kernel, by decide +kernel⟩
theorem sc_is_name : FnScope ["thing"] ["thing"] (defScope s_is_name) := ⟨rfl, rfl, rfl, by decide +kernel, rfl, by decide +kernel, by decide +kernel⟩
theorem sc_last_ones : FnScope ["things", "many", "start", "taken"] ["things", "many"] (defScope s_last_ones) := ⟨rfl, rfl, rfl, by decide +kernel, rfl, by decide +kernel, by decide +kernel⟩
theorem sc_is_formed : FnScope ["thing", "word"] ["thing"] (defScope s_is_formed) := ⟨rfl, rfl, rfl, by decide +kernel, rfl, by decide +kernel, by decide +kernel⟩
theorem sc_inner_of : FnScope ["sentence", "word"] ["sentence"] (defScope s_inner_of) := ⟨rfl, rfl, rfl, by decide +kernel, rfl, by decide +kernel, by decide +kernel⟩
theorem sc_inner_ahead : FnScope ["sentence", "found", "waiting", "one"] ["sentence"] (defScope s_inner_ahead) := ⟨rfl, rfl, rfl, by decide +kernel, rfl, by decide +kernel, by decide +kernel⟩
theorem sc_core_of : FnScope ["sentence", "found", "one", "inner"] ["sentence"] (defScope s_core_of) := ⟨rfl, rfl, rfl, by decide +kernel, rfl, by decide +kernel, by decide +kernel⟩
theorem sc_core_with : FnScope ["sentence", "inner", "word"] ["sentence", "inner"] (defScope s_core_with) := ⟨rfl, rfl, rfl, by decide +kernel, rfl, by decide +kernel, by decide +kernel⟩
theorem sc_and_of : FnScope ["cores", "whole", "core"] ["cores"] (defScope s_and_of) := ⟨rfl, rfl, rfl, by decide +kernel, rfl, by decide +kernel, by decide +kernel⟩
theorem sc_or_of : FnScope ["cores", "whole", "core"] ["cores"] (defScope s_or_of) := ⟨rfl, rfl, rfl, by decide +kernel, rfl, by decide +kernel, by decide +kernel⟩
theorem sc_within_of : FnScope ["turns", "first", "second", "whole", "turn"] ["turns", "first", "second"] (defScope s_within_of) := ⟨rfl, rfl, rfl, by decide +kernel, rfl, by decide +kernel, by decide +kernel⟩
theorem sc_row_with : FnScope ["sentence", "inner", "head"] ["sentence", "inner"] (defScope s_row_with) := ⟨rfl, rfl, rfl, by decide +kernel, rfl, by decide +kernel, by decide +kernel⟩
theorem sc_Table_init : FnScope ["self"] ["self"] (defScope s_Table_init) := ⟨rfl, rfl, rfl, by decide +kernel, rfl, by decide +kernel, by decide +kernel⟩
theorem sc_Table_number_of : FnScope ["self", "core", "found", "part", "inner"] ["self", "core"] (defScope s_Table_number_of) := ⟨rfl, rfl, rfl, by decide +kernel, rfl, by decide +kernel, by decide +kernel⟩
theorem sc_Table_taken_in : FnScope ["self", "part", "row"] ["self", "part", "row"] (defScope s_Table_taken_in) := ⟨rfl, rfl, rfl, by decide +kernel, rfl, by decide +kernel, by decide +kernel⟩
theorem sc_Table_inner_numbers : FnScope ["self", "number", "found", "seen", "waiting", "at", "ahead"] ["self", "number"] (defScope s_Table_inner_numbers) := ⟨rfl, rfl, rfl, by decide +kernel, rfl, by decide +kernel, by decide +kernel⟩
theorem sc_below : FnScope ["row"] ["row"] (defScope s_below) := ⟨rfl, rfl, rfl, by decide +kernel, rfl, by decide +kernel, by decide +kernel⟩
theorem sc_parts_of : FnScope ["core", "table"] ["core"] (defScope s_parts_of) := ⟨rfl, rfl, rfl, by decide +kernel, rfl, by decide +kernel, by decide +kernel⟩
theorem sc_inner_parts : FnScope ["core", "table", "number"] ["core"] (defScope s_inner_parts) := ⟨rfl, rfl, rfl, by decide +kernel, rfl, by decide +kernel, by decide +kernel⟩
theorem sc_size_of : FnScope ["core"] ["core"] (defScope s_size_of) := ⟨rfl, rfl, rfl, by decide +kernel, rfl, by decide +kernel, by decide +kernel⟩
theorem sc__law_cell_at : FnScope ["_law_script", "_law_k"] ["_law_script", "_law_k"] (defScope s__law_cell_at) := ⟨rfl, rfl, rfl, by decide +kernel, rfl, by decide +kernel, by decide +kernel⟩
theorem sc__law_stream : FnScope ["_law_cell", "_law_many", "_law_found", "_law_left", "_law_number", "_law_step"] ["_law_cell", "_law_many"] (defScope s__law_stream) := ⟨rfl, rfl, rfl, by decide +kernel, rfl, by decide +kernel, by decide +kernel⟩
theorem sc__law_draw : FnScope ["_law_xs"] ["_law_xs"] (defScope s__law_draw) := ⟨rfl, rfl, rfl, by decide +kernel, rfl, by decide +kernel, by decide +kernel⟩
theorem sc__law_sentence : FnScope ["_law_xs", "_law_deep", "_law_names", "_law_number", "_law_way", "_law_one", "_law_found", "_law_k"] ["_law_xs", "_law_deep", "_law_names"] (defScope s__law_sentence) := ⟨rfl, rfl, rfl, by decide +kernel, rfl, by decide +kernel, by decide +kernel⟩
theorem sc__law_inner : FnScope ["_law_core"] ["_law_core"] (defScope s__law_inner) := ⟨rfl, rfl, rfl, by decide +kernel, rfl, by decide +kernel, by decide +kernel⟩
theorem sc__law_gone_through : FnScope ["_law_core", "_law_into_somes", "_law_found", "_law_one", "_law_part"] ["_law_core", "_law_into_somes"] (defScope s__law_gone_through) := ⟨rfl, rfl, rfl, by decide +kernel, rfl, by decide +kernel, by decide +kernel⟩
theorem sc__law_right : FnScope ["_law_core", "_law_parts", "_law_inner_here", "_law_found", "_law_told"] ["_law_core"] (defScope s__law_right) := ⟨rfl, rfl, rfl, by decide +kernel, rfl, by decide +kernel, by decide +kernel⟩
theorem sc__law_sized : FnScope ["_law_core", "_law_size"] ["_law_core"] (defScope s__law_sized) := ⟨rfl, rfl, rfl, by decide +kernel, rfl, by decide +kernel, by decide +kernel⟩
theorem sc_law : FnScope ["_law_script", "_law_xs", "_law_core", "_law_parts", "_law_part", "_law_twice"] ["_law_script"] (defScope s_law) := ⟨rfl, rfl, rfl, by decide +kernel, rfl, by decide +kernel, by decide +kernel⟩
structure Adr where
  is_whole : Addr
  is_whole_fd : FuncData
  is_name : Addr
  is_name_fd : FuncData
  last_ones : Addr
  last_ones_fd : FuncData
  is_formed : Addr
  is_formed_fd : FuncData
  inner_of : Addr
  inner_of_fd : FuncData
  inner_ahead : Addr
  inner_ahead_fd : FuncData
  core_of : Addr
  core_of_fd : FuncData
  core_with : Addr
  core_with_fd : FuncData
  and_of : Addr
  and_of_fd : FuncData
  or_of : Addr
  or_of_fd : FuncData
  within_of : Addr
  within_of_fd : FuncData
  row_with : Addr
  row_with_fd : FuncData
  Table_init : Addr
  Table_init_fd : FuncData
  Table_number_of : Addr
  Table_number_of_fd : FuncData
  Table_taken_in : Addr
  Table_taken_in_fd : FuncData
  Table_inner_numbers : Addr
  Table_inner_numbers_fd : FuncData
  below : Addr
  below_fd : FuncData
  parts_of : Addr
  parts_of_fd : FuncData
  inner_parts : Addr
  inner_parts_fd : FuncData
  size_of : Addr
  size_of_fd : FuncData
  _law_cell_at : Addr
  _law_cell_at_fd : FuncData
  _law_stream : Addr
  _law_stream_fd : FuncData
  _law_draw : Addr
  _law_draw_fd : FuncData
  _law_sentence : Addr
  _law_sentence_fd : FuncData
  _law_inner : Addr
  _law_inner_fd : FuncData
  _law_gone_through : Addr
  _law_gone_through_fd : FuncData
  _law_right : Addr
  _law_right_fd : FuncData
  _law_sized : Addr
  _law_sized_fd : FuncData
  law : Addr
  law_fd : FuncData
  C_TimeError : Addr
  C_BadSentence : Addr
  C_Table : Addr
  D_LENGTHS : Addr
  Y_YES : Addr
  Pm : Params
structure Txt (K : PySem.W.Frag) (mg : Str → Option Value) (a : Adr) : Prop where
  f_is_whole : Fun K "is_whole" "is_whole" s_is_whole a.is_whole a.is_whole_fd
  n_is_whole : Binds K a.is_whole_fd ["thing"] []
  g_is_whole : mg "is_whole" = some (.ref a.is_whole)
  f_is_name : Fun K "is_name" "is_name" s_is_name a.is_name a.is_name_fd
  n_is_name : Binds K a.is_name_fd ["thing"] []
  g_is_name : mg "is_name" = some (.ref a.is_name)
  f_last_ones : Fun K "last_ones" "last_ones" s_last_ones a.last_ones a.last_ones_fd
  n_last_ones : Binds K a.last_ones_fd ["things", "many"] []
  g_last_ones : mg "last_ones" = some (.ref a.last_ones)
  f_is_formed : Fun K "is_formed" "is_formed" s_is_formed a.is_formed a.is_formed_fd
  n_is_formed : Binds K a.is_formed_fd ["thing"] []
  g_is_formed : mg "is_formed" = some (.ref a.is_formed)
  f_inner_of : Fun K "inner_of" "inner_of" s_inner_of a.inner_of a.inner_of_fd
  n_inner_of : Binds K a.inner_of_fd ["sentence"] []
  g_inner_of : mg "inner_of" = some (.ref a.inner_of)
  f_inner_ahead : Fun K "inner_ahead" "inner_ahead" s_inner_ahead a.inner_ahead a.inner_ahead_fd
  n_inner_ahead : Binds K a.inner_ahead_fd ["sentence"] []
  g_inner_ahead : mg "inner_ahead" = some (.ref a.inner_ahead)
  f_core_of : Fun K "core_of" "core_of" s_core_of a.core_of a.core_of_fd
  n_core_of : Binds K a.core_of_fd ["sentence"] []
  g_core_of : mg "core_of" = some (.ref a.core_of)
  f_core_with : Fun K "core_with" "core_with" s_core_with a.core_with a.core_with_fd
  n_core_with : Binds K a.core_with_fd ["sentence", "inner"] []
  g_core_with : mg "core_with" = some (.ref a.core_with)
  f_and_of : Fun K "and_of" "and_of" s_and_of a.and_of a.and_of_fd
  n_and_of : Binds K a.and_of_fd ["cores"] []
  g_and_of : mg "and_of" = some (.ref a.and_of)
  f_or_of : Fun K "or_of" "or_of" s_or_of a.or_of a.or_of_fd
  n_or_of : Binds K a.or_of_fd ["cores"] []
  g_or_of : mg "or_of" = some (.ref a.or_of)
  f_within_of : Fun K "within_of" "within_of" s_within_of a.within_of a.within_of_fd
  n_within_of : Binds K a.within_of_fd ["turns", "first", "second"] []
  g_within_of : mg "within_of" = some (.ref a.within_of)
  f_row_with : Fun K "row_with" "row_with" s_row_with a.row_with a.row_with_fd
  n_row_with : Binds K a.row_with_fd ["sentence", "inner"] []
  g_row_with : mg "row_with" = some (.ref a.row_with)
  f_Table_init : Fun K "__init__" "Table.__init__" s_Table_init a.Table_init a.Table_init_fd
  n_Table_init : Binds K a.Table_init_fd ["self"] []
  m_Table_init : Meth K a.C_Table "__init__" a.Table_init
  f_Table_number_of : Fun K "number_of" "Table.number_of" s_Table_number_of a.Table_number_of a.Table_number_of_fd
  n_Table_number_of : Binds K a.Table_number_of_fd ["self", "core"] []
  m_Table_number_of : Meth K a.C_Table "number_of" a.Table_number_of
  f_Table_taken_in : Fun K "taken_in" "Table.taken_in" s_Table_taken_in a.Table_taken_in a.Table_taken_in_fd
  n_Table_taken_in : Binds K a.Table_taken_in_fd ["self", "part", "row"] []
  m_Table_taken_in : Meth K a.C_Table "taken_in" a.Table_taken_in
  f_Table_inner_numbers : Fun K "inner_numbers" "Table.inner_numbers" s_Table_inner_numbers a.Table_inner_numbers a.Table_inner_numbers_fd
  n_Table_inner_numbers : Binds K a.Table_inner_numbers_fd ["self", "number"] []
  m_Table_inner_numbers : Meth K a.C_Table "inner_numbers" a.Table_inner_numbers
  f_below : Fun K "below" "below" s_below a.below a.below_fd
  n_below : Binds K a.below_fd ["row"] []
  g_below : mg "below" = some (.ref a.below)
  f_parts_of : Fun K "parts_of" "parts_of" s_parts_of a.parts_of a.parts_of_fd
  n_parts_of : Binds K a.parts_of_fd ["core"] []
  g_parts_of : mg "parts_of" = some (.ref a.parts_of)
  f_inner_parts : Fun K "inner_parts" "inner_parts" s_inner_parts a.inner_parts a.inner_parts_fd
  n_inner_parts : Binds K a.inner_parts_fd ["core"] []
  g_inner_parts : mg "inner_parts" = some (.ref a.inner_parts)
  f_size_of : Fun K "size_of" "size_of" s_size_of a.size_of a.size_of_fd
  n_size_of : Binds K a.size_of_fd ["core"] []
  g_size_of : mg "size_of" = some (.ref a.size_of)
  f__law_cell_at : Fun K "_law_cell_at" "_law_cell_at" s__law_cell_at a._law_cell_at a._law_cell_at_fd
  n__law_cell_at : Binds K a._law_cell_at_fd ["_law_script", "_law_k"] []
  g__law_cell_at : mg "_law_cell_at" = some (.ref a._law_cell_at)
  f__law_stream : Fun K "_law_stream" "_law_stream" s__law_stream a._law_stream a._law_stream_fd
  n__law_stream : Binds K a._law_stream_fd ["_law_cell", "_law_many"] []
  g__law_stream : mg "_law_stream" = some (.ref a._law_stream)
  f__law_draw : Fun K "_law_draw" "_law_draw" s__law_draw a._law_draw a._law_draw_fd
  n__law_draw : Binds K a._law_draw_fd ["_law_xs"] []
  g__law_draw : mg "_law_draw" = some (.ref a._law_draw)
  f__law_sentence : Fun K "_law_sentence" "_law_sentence" s__law_sentence a._law_sentence a._law_sentence_fd
  n__law_sentence : Binds K a._law_sentence_fd ["_law_xs", "_law_deep", "_law_names"] []
  g__law_sentence : mg "_law_sentence" = some (.ref a._law_sentence)
  f__law_inner : Fun K "_law_inner" "_law_inner" s__law_inner a._law_inner a._law_inner_fd
  n__law_inner : Binds K a._law_inner_fd ["_law_core"] []
  g__law_inner : mg "_law_inner" = some (.ref a._law_inner)
  f__law_gone_through : Fun K "_law_gone_through" "_law_gone_through" s__law_gone_through a._law_gone_through a._law_gone_through_fd
  n__law_gone_through : Binds K a._law_gone_through_fd ["_law_core", "_law_into_somes"] []
  g__law_gone_through : mg "_law_gone_through" = some (.ref a._law_gone_through)
  f__law_right : Fun K "_law_right" "_law_right" s__law_right a._law_right a._law_right_fd
  n__law_right : Binds K a._law_right_fd ["_law_core"] []
  g__law_right : mg "_law_right" = some (.ref a._law_right)
  f__law_sized : Fun K "_law_sized" "_law_sized" s__law_sized a._law_sized a._law_sized_fd
  n__law_sized : Binds K a._law_sized_fd ["_law_core"] []
  g__law_sized : mg "_law_sized" = some (.ref a._law_sized)
  f_law : Fun K "law" "law" s_law a.law a.law_fd
  n_law : Binds K a.law_fd ["_law_script"] []
  g_law : mg "law" = some (.ref a.law)
  b_ValueError : mg "ValueError" = none
  b_all : mg "all" = none
  b_reversed : mg "reversed" = none
  b_range : mg "range" = none
  b_len : mg "len" = none
  b_list : mg "list" = none
  b_isinstance : mg "isinstance" = none
  b_int : mg "int" = none
  b_tuple : mg "tuple" = none
  b_set : mg "set" = none
  b_bool : mg "bool" = none
  b_str : mg "str" = none
  b_sum : mg "sum" = none
  c_LETTERS : ∃ u, mg "LETTERS" = some u ∧ RelV (.str "abcdefghijklmnopqrstuvwxyz") u
  c_MOST_LETTERS : ∃ u, mg "MOST_LETTERS" = some u ∧ RelV (.int 8) u
  c_MOST_WITHIN : ∃ u, mg "MOST_WITHIN" = some u ∧ RelV (.int 5) u
  g_TimeError : mg "TimeError" = some (.ref a.C_TimeError)
  x_TimeError : PySem.W.excIn K a.C_TimeError [.type "ValueError", .type "Exception", .type "BaseException", .type "object"] "ValueError.__new__" = true
  g_BadSentence : mg "BadSentence" = some (.ref a.C_BadSentence)
  x_BadSentence : PySem.W.excIn K a.C_BadSentence [.type "ValueError", .type "Exception", .type "BaseException", .type "object"] "ValueError.__new__" = true
  nk_signs : PySem.W.nsIn K a.D_LENGTHS "signs" = some none
  nk_Next : PySem.W.nsIn K a.D_LENGTHS "Next" = some none
  g_YES : mg "YES" = some (.ref a.Y_YES)
  y_YES : ∀ H : Hp, SqT K H a.Y_YES [.str "yes"]
  g_LENGTHS : mg "LENGTHS" = some (.ref a.D_LENGTHS)
  d_LENGTHS : DicK K a.Pm a.D_LENGTHS [("all", 2), ("some", 2), ("not", 2), ("next", 2), ("always", 2), ("ever", 2), ("before", 2), ("once", 2), ("sofar", 2), ("until", 3), ("since", 3)]
  cl_Table : Cls K a.C_Table
  g_Table : mg "Table" = some (.ref a.C_Table)
  mk_Table : Mk K a.C_Table a.Table_init
  na_Table_parts : NoAttr K a.C_Table "parts"
  na_Table_rows : NoAttr K a.C_Table "rows"
  na_Table_numbers : NoAttr K a.C_Table "numbers"
end KK

set_option Elab.async false
set_option linter.all false
set_option maxRecDepth 100000
set_option maxHeartbeats 8000000
namespace KK
open PySem PySem.Spec L2 L3
def sp_is_whole (K : PySem.W.Frag) (a : Adr) : Sp := fun vs H Q _ => ∃ x, vs = [x] ∧ Kd H x ∧ Q (.bl (isIntV x)) H
theorem ok_is_whole {P : Program} {w : World} {K : PySem.W.Frag} {mg : Str → Option Value} {base : Heap} {a : Adr} (T : Txt K mg a) (hw : w.params = a.Pm) : FnOk P w K mg base CX0 1 a.is_whole a.is_whole_fd ["thing"] (sp_is_whole K a) := by
  refine T.f_is_whole.ok sc_is_whole (fun vs H Q E h => ?_) (fun cdv A outer s H vs Q E hr h => ?_)
  · obtain ⟨x, rfl, _⟩ := h
    rfl
  · obtain ⟨x, rfl, hk, k⟩ := h
    refine ⟨_, (@pss_one _ _ _ (@ps_ret _ _ _ _ (pe_and (pe_callB (call_isiK (K := K) rfl "int") rfl T.b_isinstance PyProof.Rows.Boot.«isinstance» (@pa_cons _ _ _ _ _ (pv 0)
      (@pa_cons _ _ _ _ _ (pe_bltn (v := .ty "int") rfl T.b_int PyProof.Rows.Boot.«int» rfl)
      pa_nil
      (by rfl))
      (by rfl))) (pe_one (pe_not (pe_callB (call_isiK (K := K) rfl "bool") rfl T.b_isinstance PyProof.Rows.Boot.«isinstance» (@pa_cons _ _ _ _ _ (pv 0)
      (@pa_cons _ _ _ _ _ (pe_bltn (v := .ty "bool") rfl T.b_bool PyProof.Rows.Boot.«bool» rfl)
      pa_nil
      (by rfl))
      (by rfl)))))))), ?_⟩
    cases hb : isTy H "int" x with
    | false =>
      obtain ⟨t, h1, h2⟩ := isi_f K (by simp) hk hb
      have e : isIntV x = false := by cases hk <;> first | rfl | (simp [isTy] at hb)
      rw [e] at k
      exact ⟨_, rfl, _, t, _, rfl, h1, h2, _, rfl, iteF k⟩
    | true =>
      obtain ⟨t, h1, h2⟩ := isi_f K (by simp) hk hb
      obtain ⟨u, h3, h4⟩ := isi_f K (T := "bool") (by simp) hk rfl
      have e : isIntV x = !isTy H "bool" x := by
        cases hk with
        | lst e => simp [isTy, e] at hb
        | tup e => simp [isTy, e] at hb
        | dK e => simp [isTy, e] at hb
        | non => simp [isTy] at hb
        | str z hz => simp [isTy] at hb
        | bl b => rfl
        | int i => rfl
      rw [e] at k
      exact ⟨_, rfl, _, t, _, rfl, h1, h2, _, rfl, iteT ⟨_, rfl, _, u, _, rfl, h3, h4, _, rfl, k⟩⟩
def sp_is_name (K : PySem.W.Frag) (a : Adr) : Sp := fun vs H Q _ => ∃ x, vs = [x] ∧ Kd H x ∧ ∀ H', Same H H' → Q (.bl (isNameV x)) H'
theorem ok_is_name {P : Program} {w : World} {K : PySem.W.Frag} {mg : Str → Option Value} {base : Heap} {a : Adr} (T : Txt K mg a) (hw : w.params = a.Pm) : FnOk P w K mg base CX0 1 a.is_name a.is_name_fd ["thing"] (sp_is_name K a) := by
  refine T.f_is_name.ok sc_is_name (fun vs H Q E h => ?_) (fun cdv A outer s H vs Q E hr h => ?_)
  · obtain ⟨x, rfl, _⟩ := h
    rfl
  · obtain ⟨x, rfl, hk, k⟩ := h
    refine ⟨_, (@pss_cons _ _ _ _ _ (@ps_if _ _ _ _ _ _ _ _ (PW.pt (pw_or (@pt_not _ _ _ _ (pt_val (pe_callB (call_isiK (K := K) rfl "str") rfl T.b_isinstance PyProof.Rows.Boot.«isinstance» (@pa_cons _ _ _ _ _ (pv 0)
      (@pa_cons _ _ _ _ _ (pe_bltn (v := .ty "str") rfl T.b_str PyProof.Rows.Boot.«str» rfl)
      pa_nil
      (by rfl))
      (by rfl))))) (pw_or1 (@pt_not _ _ _ _ (pt_chain op_le op_le pe_int (pe_callB (call_lenK (K := K) rfl) rfl T.b_len PyProof.Rows.Boot.«len» (@pa_cons _ _ _ _ _ (pv 0)
      pa_nil
      (by rfl))) (pe_gc rfl T.c_MOST_LETTERS))))))
      (@pss_one _ _ _ (@ps_ret _ _ _ _ pe_bl))
      pss_nil)
      (@pss_one _ _ _ (@ps_ret _ _ _ _ (pe_callB (call_allK (K := K) rfl rfl) rfl T.b_all PyProof.Rows.Boot.«all» (@pa_cons _ _ _ _ _ (pe_comp (Nc := ["letter"]) (ix := [none]) (CompOk.of (by decide +kernel : compChk (defScope s_is_name) ["thing"] ["letter"] [none] _ = true)) rfl (pi_str (pv 0)) (fun _ _ _ _ _ => (pg_name (i := 0) (show List.Nodup (["letter"] : List Str) by decide +kernel) rfl (by first | exact Or.inl rfl | exact Or.inr rfl))) (fun _ _ _ _ _ => pts_nil) (fun _ _ _ _ _ => (@pe_cmpR _ _ _ _ _ _ _ _ op_in_str
      (pv 0)
      (pe_gc rfl T.c_LETTERS)
      (by with_unfolding_all rfl))))
      pa_nil
      (by rfl)))))), ?_⟩
    rcases kd_str hk with ⟨hb, z, rfl, hz⟩ | ⟨hb, e⟩
    · obtain ⟨t, h1, h2⟩ := isi_f K (by simp) hk hb
      refine ⟨_, rfl, _, t, _, rfl, h1, h2, _, rfl, iteF ?_⟩
      refine ⟨_, rfl, .inr (.inl ⟨z, rfl, by rw [sizeLine_eq]; omega, _, _, rfl, rfl, _, rfl, ?_⟩)⟩
      have fin : decide (1 ≤ (z.length : Int)) = true → decide ((z.length : Int) ≤ 8) = true → isNameV (.str z) = z.cps.toList.all isLow := fun a b => by
        have a' := of_decide_eq_true a
        have b' := of_decide_eq_true b
        have a2 : 1 ≤ z.length := by omega
        have b2 : z.length ≤ 8 := by omega
        simp [isNameV, isNameS, a2, b2]
      have nof : ¬ ((1 : Int) ≤ z.length ∧ (z.length : Int) ≤ 8) → isNameV (.str z) = false := fun q => by
        have : ¬ (1 ≤ z.length ∧ z.length ≤ 8) := by omega
        simp only [isNameV, isNameS]
        by_cases h1 : 1 ≤ z.length
        · have h2 : ¬ z.length ≤ 8 := fun h2 => this ⟨h1, h2⟩
          simp [h1, h2]
        · simp [h1]
      refine ite2 (fun c1 => ?_) (fun c1 => ?_)
      · refine ⟨_, _, rfl, rfl, _, rfl, ?_⟩
        cases c2 : decide ((z.length : Int) ≤ 8) with
        | false =>
          refine iteT ?_
          have q := k H (.refl H)
          rw [nof (fun q => by have := of_decide_eq_false c2; omega)] at q
          exact q
        | true =>
          refine iteF ⟨_, rfl, z, rfl, fun D hD => ?_⟩
          refine comp_gen (J := Its z) (n := z.cps.size) (fun i σ H' => Same H H' ∧ H' D = some (.lst ((z.cps.toList.take i).map fun c => V.bl (isLow c))) ∧ ∃ y, σ = [y]) ?_ (fun i σ H' hi _ => hi) (fun σ H' _ => Nat.le_refl _) ?_ ?_
          · exact ⟨same_upd hD, upd_same, _, rfl⟩
          · rintro i x σ H' H2 hi ⟨sm, hl, y, rfl⟩ ⟨rfl, c, hc, rfl⟩ N N0 hN hN0
            refine ⟨_, rfl, _, _, rfl, rfl, ?_⟩
            have el := PySem.StrLaws.found_one ("abcdefghijklmnopqrstuvwxyz" : Str) c
            refine hN _ _ _ _ hl (by rw [List.length_map, List.length_take, sizeLine_eq]; have : z.cps.size = z.length := rfl; omega) ⟨(SameX.upd (Same.x sm)).same hD, ?_, _, rfl⟩
            have hc' : z.cps.toList[i]? = some c := by rw [Array.getElem?_toList]; exact hc
            rw [upd_same, List.take_add_one, hc', List.map_append]
            refine congrArg (fun b => some (HO.lst (_ ++ [V.bl b]))) ?_
            rw [← mem_letters]
            exact el
          · rintro σ H' ⟨sm, hl, y, rfl⟩
            have et : z.cps.toList.take z.cps.size = z.cps.toList := by rw [← Array.length_toList]; exact List.take_length
            rw [et] at hl
            have q := k H' sm
            rw [fin c1 c2, ← all_id] at q
            exact ⟨D, z.cps.toList.map isLow, rfl, SqL.of (by rw [hl, List.map_map]; rfl), q⟩
      · refine ⟨_, rfl, iteT ?_⟩
        have q := k H (.refl H)
        rw [nof (fun q => c1 (decide_eq_true q.1))] at q
        exact q
    · obtain ⟨t, h1, h2⟩ := isi_f K (by simp) hk hb
      have q := k H (.refl H)
      rw [e] at q
      exact ⟨_, rfl, _, t, _, rfl, h1, h2, _, rfl, iteT (iteT q)⟩
end KK

set_option Elab.async false
set_option linter.all false
set_option maxRecDepth 100000
set_option maxHeartbeats 8000000
namespace KK
open PySem PySem.Spec L2 L3
def sp_last_ones (K : PySem.W.Frag) (a : Adr) : Sp := fun vs H Q _ => ∃ (p : Addr) (xs : List V) (m : Nat), vs = [.ref p, .int (m : Nat)] ∧ H p = some (.lst xs) ∧ m ≤ xs.length ∧ ∀ H' l, SameX p H H' → H' p = some (.lst (xs.take (xs.length - m))) → H l = none → H' l = some (.lst (xs.drop (xs.length - m))) → Q (.ref l) H'
theorem ok_last_ones {P : Program} {w : World} {K : PySem.W.Frag} {mg : Str → Option Value} {base : Heap} {a : Adr} (T : Txt K mg a) (hw : w.params = a.Pm) : FnOk P w K mg base CX0 1 a.last_ones a.last_ones_fd ["things", "many"] (sp_last_ones K a) := by
  refine T.f_last_ones.ok sc_last_ones (fun vs H Q E h => ?_) (fun cdv A outer s H vs Q E hr h => ?_)
  · obtain ⟨p, xs, m, rfl, _⟩ := h
    rfl
  · obtain ⟨p, xs, m, rfl, hp, hm, k⟩ := h
    refine ⟨_, (@pss_cons _ _ _ _ _ (@ps_set _ _ (2) _ _ _ _ sc_last_ones.nd
      rfl
      (by first | exact Or.inl rfl | exact Or.inr rfl)
      (@pe_op _ _ _ _ _ _ _ _ op_sub
      (pe_callB (call_lenK (K := K) rfl) rfl T.b_len PyProof.Rows.Boot.«len» (@pa_cons _ _ _ _ _ (pv 0)
      pa_nil
      (by rfl)))
      (pv 1))
      (by rfl)
      (by first | exact .inl rfl | exact .inr rfl | assumption))
      (@pss_cons _ _ _ _ _ (@ps_set _ _ (3) _ _ _ _ sc_last_ones.nd
      rfl
      (by first | exact Or.inl rfl | exact Or.inr rfl)
      (pe_slice (sl_listK (K := K) rfl) (pv 0) (po_some (pv 2)) po_none)
      (by rfl)
      (by first | exact .inl rfl | exact .inr rfl | assumption))
      (@pss_cons _ _ _ _ _ (ps_delFrom (pv 0) (pv 2))
      (@pss_one _ _ _ (@ps_ret _ _ _ _ (pv 3)))))), ?_⟩
    have e : (xs.length : Int) - (m : Int) = ((xs.length - m : Nat) : Int) := by omega
    refine ⟨_, rfl, .inl ⟨p, _, rfl, .inl (SqL.of hp), _, rfl, _, _, rfl, rfl, ?_⟩⟩
    refine ⟨_, rfl, _, rfl, ((xs.length - m : Nat) : Int), congrArg V.int e, p, xs, rfl, SqL.of hp, fun l hl => ?_⟩
    rw [cutV_from _ _ (by omega)]
    have np := ne_new hp hl
    refine ⟨_, rfl, _, rfl, p, xs, xs.length - m, rfl, congrArg V.int e, updK hp np, by omega, ?_⟩
    refine ⟨_, rfl, k _ l (Same.x (same_upd hl)).upd upd_same hl ?_⟩
    rw [upd_ne (Ne.symm np), upd_same]
end KK

set_option Elab.async false
set_option linter.all false
set_option maxRecDepth 100000
set_option maxHeartbeats 8000000
namespace KK
open PySem PySem.Spec L2 L3
def sp_is_formed (K : PySem.W.Frag) (a : Adr) : Sp := fun vs H Q _ => ∃ (v : V) (b : Bool), vs = [v] ∧ ((b = true ∧ FmT K H v) ∨ (b = false ∧ Fm K H v)) ∧ ∀ H', Same H H' → Q (.bl b) H'
theorem nw_of : ∀ w ∈ (["signs", "Next"] : List Str), w ≠ "yes" ∧ w ≠ "sign" ∧ w ∉ (["and", "or"] : List Str) ∧ w ≠ "within" := by decide +kernel
theorem nwx {w : Str} (h : w ∉ NW) : w ≠ "yes" ∧ w ≠ "sign" ∧ w ∉ (["and", "or"] : List Str) ∧ w ≠ "within" := by
  refine ⟨fun e => h (by rw [e]; simp), fun e => h (by rw [e]; simp), fun e => h ?_, fun e => h (by rw [e]; simp)⟩
  simp at e
  rcases e with rfl | rfl <;> simp
theorem lk_one : ∀ p ∈ LK, ∀ q ∈ LK, p.1 = q.1 → p.2 = q.2 := by decide +kernel
theorem ok_is_formed {P : Program} {w : World} {K : PySem.W.Frag} {mg : Str → Option Value} {base : Heap} {a : Adr} (T : Txt K mg a) (hw : w.params = a.Pm) : FnOk P w K mg base CX0 2 a.is_formed a.is_formed_fd ["thing"] (sp_is_formed K a) := by
  have G_is_whole := ok_is_whole (P := P) (w := w) (base := base) T hw
  have G_is_name := ok_is_name (P := P) (w := w) (base := base) T hw
  refine T.f_is_formed.ok sc_is_formed (fun vs H Q E h => ?_) (fun cdv A outer s H vs Q E hr h => ?_)
  · obtain ⟨v, b, rfl, _⟩ := h
    rfl
  · obtain ⟨v, b, rfl, hb, k⟩ := h
    refine ⟨_, (@pss_cons _ _ _ _ _ (@ps_if _ _ _ _ _ _ _ _ (PW.pt (pw_or (@pt_not _ _ _ _ (pt_val (pe_callB (call_isT (K := K) rfl) rfl T.b_isinstance PyProof.Rows.Boot.«isinstance» (@pa_cons _ _ _ _ _ (pv 0)
      (@pa_cons _ _ _ _ _ (pe_bltn (v := .ty "tuple") rfl T.b_tuple PyProof.Rows.Boot.«tuple» rfl)
      pa_nil
      (by rfl))
      (by rfl))))) (pw_or (@pt_cmpR _ _ _ _ _ _ _ _ op_eq
      (pe_callB (call_lenK (K := K) rfl) rfl T.b_len PyProof.Rows.Boot.«len» (@pa_cons _ _ _ _ _ (pv 0)
      pa_nil
      (by rfl)))
      pe_int
      (nomark _)) (pw_or1 (@pt_not _ _ _ _ (pt_val (pe_callB (call_isiK (K := K) rfl "str") rfl T.b_isinstance PyProof.Rows.Boot.«isinstance» (@pa_cons _ _ _ _ _ (@pe_ix _ _ _ _ _ _ _ (ix_tupK (K := K) rfl)
      (pv 0)
      pe_int
      (fun _ _ => rfl))
      (@pa_cons _ _ _ _ _ (pe_bltn (v := .ty "str") rfl T.b_str PyProof.Rows.Boot.«str» rfl)
      pa_nil
      (by rfl))
      (by rfl)))))))))
      (@pss_one _ _ _ (@ps_ret _ _ _ _ pe_bl))
      pss_nil)
      (@pss_cons _ _ _ _ _ (@ps_set _ _ (1) _ _ _ _ sc_is_formed.nd
      rfl
      (by first | exact Or.inl rfl | exact Or.inr rfl)
      (@pe_ix _ _ _ _ _ _ _ (ix_tupK (K := K) rfl)
      (pv 0)
      pe_int
      (fun _ _ => rfl))
      (by rfl)
      (by first | exact .inl rfl | exact .inr rfl | assumption))
      (@pss_cons _ _ _ _ _ (@ps_if _ _ _ _ _ _ _ _ (@pt_cmpR _ _ _ _ _ _ _ _ op_eq
      (pv 1)
      pe_str
      (nomark _))
      (@pss_one _ _ _ (@ps_ret _ _ _ _ (@pe_cmpR _ _ _ _ _ _ _ _ op_eq
      (pe_callB (call_lenK (K := K) rfl) rfl T.b_len PyProof.Rows.Boot.«len» (@pa_cons _ _ _ _ _ (pv 0)
      pa_nil
      (by rfl)))
      pe_int
      (nomark _))))
      pss_nil)
      (@pss_cons _ _ _ _ _ (@ps_if _ _ _ _ _ _ _ _ (@pt_cmpR _ _ _ _ _ _ _ _ op_eq
      (pv 1)
      pe_str
      (nomark _))
      (@pss_one _ _ _ (@ps_ret _ _ _ _ (pe_and (@pe_cmpR _ _ _ _ _ _ _ _ op_eq
      (pe_callB (call_lenK (K := K) rfl) rfl T.b_len PyProof.Rows.Boot.«len» (@pa_cons _ _ _ _ _ (pv 0)
      pa_nil
      (by rfl)))
      pe_int
      (nomark _)) (pe_one (pe_call G_is_name (hr.mono (by decide)) rfl T.g_is_name T.f_is_name.kp T.n_is_name .nil pass0 (@pa_cons _ _ _ _ _ (@pe_ix _ _ _ _ _ _ _ (ix_tupK (K := K) rfl)
      (pv 0)
      pe_int
      (fun _ _ => rfl))
      pa_nil
      (by rfl)))))))
      pss_nil)
      (@pss_cons _ _ _ _ _ (@ps_if _ _ _ _ _ _ _ _ (@pt_cmpR _ _ _ _ _ _ _ _ (op_inK (K := K) rfl)
      (pv 1)
      (@pe_tup _ _ _ _ _ (@pa_cons _ _ _ _ _ pe_str
      (@pa_cons _ _ _ _ _ pe_str
      pa_nil
      (by rfl))
      (by rfl)))
      (by with_unfolding_all rfl))
      (@pss_one _ _ _ (@ps_ret _ _ _ _ (pe_and (@pe_cmpR _ _ _ _ _ _ _ _ op_eq
      (pe_callB (call_lenK (K := K) rfl) rfl T.b_len PyProof.Rows.Boot.«len» (@pa_cons _ _ _ _ _ (pv 0)
      pa_nil
      (by rfl)))
      pe_int
      (nomark _)) (pe_one (pe_callB (call_isT (K := K) rfl) rfl T.b_isinstance PyProof.Rows.Boot.«isinstance» (@pa_cons _ _ _ _ _ (@pe_ix _ _ _ _ _ _ _ (ix_tupK (K := K) rfl)
      (pv 0)
      pe_int
      (fun _ _ => rfl))
      (@pa_cons _ _ _ _ _ (pe_bltn (v := .ty "tuple") rfl T.b_tuple PyProof.Rows.Boot.«tuple» rfl)
      pa_nil
      (by rfl))
      (by rfl)))))))
      pss_nil)
      (@pss_cons _ _ _ _ _ (@ps_if _ _ _ _ _ _ _ _ (@pt_cmpR _ _ _ _ _ _ _ _ op_eq
      (pv 1)
      pe_str
      (nomark _))
      (@pss_one _ _ _ (@ps_ret _ _ _ _ (pe_and (@pe_cmpR _ _ _ _ _ _ _ _ op_eq
      (pe_callB (call_lenK (K := K) rfl) rfl T.b_len PyProof.Rows.Boot.«len» (@pa_cons _ _ _ _ _ (pv 0)
      pa_nil
      (by rfl)))
      pe_int
      (nomark _)) (pe_and (pe_call G_is_whole (hr.mono (by decide)) rfl T.g_is_whole T.f_is_whole.kp T.n_is_whole .nil pass0 (@pa_cons _ _ _ _ _ (@pe_ix _ _ _ _ _ _ _ (ix_tupK (K := K) rfl)
      (pv 0)
      pe_int
      (fun _ _ => rfl))
      pa_nil
      (by rfl))) (pe_one (pe_chain op_le op_le pe_int (@pe_ix _ _ _ _ _ _ _ (ix_tupK (K := K) rfl)
      (pv 0)
      pe_int
      (fun _ _ => rfl)) (pe_gc rfl T.c_MOST_WITHIN)))))))
      pss_nil)
      (@pss_one _ _ _ (@ps_ret _ _ _ _ (pe_and (@pe_cmpR _ _ _ _ _ _ _ _ (op_inD2 (K := K) (P := a.Pm) rfl hw)
      (pv 1)
      (pe_gc (v := .ref a.D_LENGTHS) rfl ⟨_, T.g_LENGTHS, rfl⟩)
      (by with_unfolding_all rfl)) (pe_one (@pe_cmpR _ _ _ _ _ _ _ _ op_eq
      (pe_callB (call_lenK (K := K) rfl) rfl T.b_len PyProof.Rows.Boot.«len» (@pa_cons _ _ _ _ _ (pv 0)
      pa_nil
      (by rfl)))
      (@pe_ix _ _ _ _ _ _ _ (ix_dic (K := K) (P := a.Pm) rfl hw)
      (pe_gc (v := .ref a.D_LENGTHS) rfl ⟨_, T.g_LENGTHS, rfl⟩)
      (pv 1)
      (fun _ _ => rfl))
      (nomark _)))))))))))), ?_⟩
    rcases hb with ⟨rfl, hT⟩ | ⟨rfl, hF⟩
    · obtain ⟨ad, us, c, rfl, sh, ok⟩ := hT
      obtain ⟨xs, e⟩ := sh.tup
      obtain ⟨ty2, c3, c4⟩ := str_ty (K := K) (H := H) (wordL c)
      refine ⟨_, rfl, _, rfl, .inl ⟨ad, _, rfl, e, _, rfl, iteF ?_⟩⟩
      refine ⟨_, rfl, .inl ⟨ad, _, rfl, .inr e, rfl, _, rfl, iteN (fun z => by have := V.int.inj z; simp at this <;> omega) ?_⟩⟩
      refine ⟨_, rfl, ad, _, _, _, rfl, rfl, e, atI_nat (j := 0) rfl, _, ty2, _, rfl, c3, c4, _, rfl, iteF ?_⟩
      refine ⟨_, rfl, ad, _, _, _, rfl, rfl, e, atI_nat (j := 0) rfl, ?_⟩
      clear e c3 c4 ty2 xs
      revert sh ok
      cases c with
      | yes =>
        intro sh ok
        refine ⟨_, rfl, rfl, _, rfl, iteD rfl ?_⟩
        exact ⟨_, rfl, .inl ⟨ad, _, rfl, .inr (sh.2), rfl, qD (by rfl) (k _ (.refl _))⟩⟩
      | sign z =>
        intro sh ok
        refine ⟨_, rfl, rfl, _, rfl, iteN (fun z => (by decide +kernel : ¬ (("sign" : Str) = "yes")) (V.str.inj z)) ?_⟩
        refine ⟨_, rfl, rfl, _, rfl, iteD rfl ?_⟩
        refine ⟨_, rfl, .inl ⟨ad, _, rfl, .inr (sh.2), rfl, _, rfl, iteD (by rfl) ?_⟩⟩
        refine ⟨_, rfl, ad, _, _, _, rfl, rfl, sh.2, atI_nat (j := 1) rfl, .str z, rfl, .str z (Nat.le_trans (name_short ok.2) (by decide)), fun H' s' => ?_⟩
        have e : isNameV (.str z) = true := ok.2
        rw [e]
        exact k H' s'
      | op w =>
        intro sh ok
        obtain ⟨h1, h2, h3, h4, _⟩ := op_words w (by rcases ok with ok | ok; exact List.mem_append_left _ ok.1; exact List.mem_append_right _ ok.1)
        refine ⟨_, rfl, rfl, _, rfl, iteN (fun z => h1 (V.str.inj z)) ?_⟩
        refine ⟨_, rfl, rfl, _, rfl, iteN (fun z => h2 (V.str.inj z)) ?_⟩
        refine ⟨_, rfl, by rw [sizeLine_eq]; simp, fun q hq2 => ⟨q, _, rfl, .inr (SqT.of upd_same), rfl, rfl, _, rfl, iteNin (ss := ["and", "or"]) h3 ?_⟩⟩
        have s1 := same_upd (o := .tup [.str "and", .str "or"]) hq2
        have e1 := Same.tup s1 K _ _ sh
        generalize upd H q (.tup [.str "and", .str "or"]) = H1 at s1 e1 ⊢
        refine ⟨_, rfl, rfl, _, rfl, iteN (fun z => h4 (V.str.inj z)) ?_⟩
        obtain ⟨i, hm, hi⟩ : ∃ i : Int, (w, i) ∈ LK ∧ ((us.length + 1 : Nat) : Int) = i := by
          rcases ok with ⟨ok, o2⟩ | ⟨ok, o2⟩
          · exact ⟨2, lk1 w ok, by omega⟩
          · exact ⟨3, lk2 w ok, by omega⟩
        refine ⟨_, rfl, w, _, _, true, rfl, rfl, T.d_LENGTHS, .inl ⟨rfl, i, hm⟩, _, rfl, iteT ⟨_, rfl, .inl ⟨ad, _, rfl, .inr (e1), _, rfl, _, w, _, i, rfl, rfl, T.d_LENGTHS, hm, rfl, qD (congrArg V.int hi) (k _ s1)⟩⟩⟩
      | wit m =>
        intro sh ok
        refine ⟨_, rfl, rfl, _, rfl, iteN (fun z => (by decide +kernel : ¬ (("within" : Str) = "yes")) (V.str.inj z)) ?_⟩
        refine ⟨_, rfl, rfl, _, rfl, iteN (fun z => (by decide +kernel : ¬ (("within" : Str) = "sign")) (V.str.inj z)) ?_⟩
        refine ⟨_, rfl, by rw [sizeLine_eq]; simp, fun q hq2 => ⟨q, _, rfl, .inr (SqT.of upd_same), rfl, rfl, _, rfl, iteNin (ss := ["and", "or"]) (show ("within" : Str) ∉ (["and", "or"] : List Str) by decide +kernel) ?_⟩⟩
        have s1 := same_upd (o := .tup [.str "and", .str "or"]) hq2
        have e1 := Same.tup s1 K _ _ sh
        generalize upd H q (.tup [.str "and", .str "or"]) = H1 at s1 e1 ⊢
        refine ⟨_, rfl, rfl, _, rfl, iteD rfl ?_⟩
        have hu : us.length = 2 := ok.2
        refine ⟨_, rfl, .inl ⟨ad, _, rfl, .inr (e1), rfl, _, rfl, iteD (congrArg V.int (by simp [hu])) ?_⟩⟩
        refine ⟨_, rfl, ad, _, _, _, rfl, rfl, e1, atI_nat (j := 1) rfl, .int m, rfl, .int m, _, rfl, iteT ?_⟩
        exact ⟨_, rfl, ad, _, _, _, rfl, rfl, e1, atI_nat (j := 1) rfl, _, _, rfl, rfl, _, rfl, iteD ok.1.1 ⟨_, _, rfl, rfl, qD ok.1.2 (k _ s1)⟩⟩
      | many w =>
        intro sh ok
        obtain ⟨b, sh1, sh2⟩ := sh
        have hw0 : w ∈ (["and", "or"] : List Str) := by rcases ok.1 with rfl | rfl <;> simp
        obtain ⟨h1, h2, h3, _⟩ := many_words w hw0
        refine ⟨_, rfl, rfl, _, rfl, iteN (fun z => h1 (V.str.inj z)) ?_⟩
        refine ⟨_, rfl, rfl, _, rfl, iteN (fun z => h2 (V.str.inj z)) ?_⟩
        refine ⟨_, rfl, by rw [sizeLine_eq]; simp, fun q hq2 => ⟨q, _, rfl, .inr (SqT.of upd_same), rfl, rfl, _, rfl, iteIn (ss := ["and", "or"]) hw0 ?_⟩⟩
        have s1 := same_upd (o := .tup [.str "and", .str "or"]) hq2
        have e1 := Same.tup s1 K _ _ sh1
        have e2 := Same.tup s1 K _ _ sh2
        generalize upd H q (.tup [.str "and", .str "or"]) = H1 at s1 e1 e2 ⊢
        exact ⟨_, rfl, .inl ⟨ad, _, rfl, .inr (e1), rfl, _, rfl, iteD (by rfl) ⟨_, rfl, ad, _, _, _, rfl, rfl, e1, atI_nat (j := 1) rfl, _, rfl, .inl ⟨b, _, rfl, e2, k _ s1⟩⟩⟩⟩
    cases hF with
    | noT hk ht =>
      obtain ⟨t, h1, h2⟩ := isi_f K (by simp) hk ht
      exact ⟨_, rfl, _, rfl, .inr ⟨t, h1, h2, _, rfl, iteT (k _ (.refl _))⟩⟩
    | @emp ad e =>
      refine ⟨_, rfl, _, rfl, .inl ⟨ad, _, rfl, e, _, rfl, iteF ?_⟩⟩
      exact ⟨_, rfl, .inl ⟨ad, _, rfl, .inr e, rfl, _, rfl, iteD rfl (k _ (.refl _))⟩⟩
    | @noS ad x xs e hk ht =>
      obtain ⟨t, h1, h2⟩ := isi_f K (by simp) hk ht
      refine ⟨_, rfl, _, rfl, .inl ⟨ad, _, rfl, e, _, rfl, iteF ?_⟩⟩
      refine ⟨_, rfl, .inl ⟨ad, _, rfl, .inr e, rfl, _, rfl, iteN (fun z => by have := V.int.inj z; simp at this <;> omega) ?_⟩⟩
      exact ⟨_, rfl, ad, _, _, _, rfl, rfl, e, atI_nat (j := 0) rfl, _, t, _, rfl, h1, h2, _, rfl, iteT (k _ (.refl _))⟩
    | @yes ad xs e hl =>
      obtain ⟨ty2, c3, c4⟩ := str_ty (K := K) (H := H) "yes"
      refine ⟨_, rfl, _, rfl, .inl ⟨ad, _, rfl, e, _, rfl, iteF ?_⟩⟩
      refine ⟨_, rfl, .inl ⟨ad, _, rfl, .inr e, rfl, _, rfl, iteN (fun z => by have := V.int.inj z; simp at this <;> omega) ?_⟩⟩
      refine ⟨_, rfl, ad, _, _, _, rfl, rfl, e, atI_nat (j := 0) rfl, _, ty2, _, rfl, c3, c4, _, rfl, iteF ?_⟩
      refine ⟨_, rfl, ad, _, _, _, rfl, rfl, e, atI_nat (j := 0) rfl, ?_⟩
      refine ⟨_, rfl, rfl, _, rfl, iteD rfl ?_⟩
      exact ⟨_, rfl, .inl ⟨ad, _, rfl, .inr e, rfl, qN (fun z => by have := V.int.inj z; simp at this <;> omega) (k _ (.refl _))⟩⟩
    | @sgnL ad xs e hl =>
      obtain ⟨ty2, c3, c4⟩ := str_ty (K := K) (H := H) "sign"
      refine ⟨_, rfl, _, rfl, .inl ⟨ad, _, rfl, e, _, rfl, iteF ?_⟩⟩
      refine ⟨_, rfl, .inl ⟨ad, _, rfl, .inr e, rfl, _, rfl, iteN (fun z => by have := V.int.inj z; simp at this <;> omega) ?_⟩⟩
      refine ⟨_, rfl, ad, _, _, _, rfl, rfl, e, atI_nat (j := 0) rfl, _, ty2, _, rfl, c3, c4, _, rfl, iteF ?_⟩
      refine ⟨_, rfl, ad, _, _, _, rfl, rfl, e, atI_nat (j := 0) rfl, ?_⟩
      refine ⟨_, rfl, rfl, _, rfl, iteN (fun z => (by decide +kernel : ¬ (("sign" : Str) = "yes")) (V.str.inj z)) ?_⟩
      refine ⟨_, rfl, rfl, _, rfl, iteD rfl ?_⟩
      exact ⟨_, rfl, .inl ⟨ad, _, rfl, .inr e, rfl, _, rfl, iteN (fun z => by have := V.int.inj z; simp at this <;> omega) (k _ (.refl _))⟩⟩
    | @sgn ad x e hk hx =>
      obtain ⟨ty2, c3, c4⟩ := str_ty (K := K) (H := H) "sign"
      refine ⟨_, rfl, _, rfl, .inl ⟨ad, _, rfl, e, _, rfl, iteF ?_⟩⟩
      refine ⟨_, rfl, .inl ⟨ad, _, rfl, .inr e, rfl, _, rfl, iteN (fun z => by have := V.int.inj z; simp at this <;> omega) ?_⟩⟩
      refine ⟨_, rfl, ad, _, _, _, rfl, rfl, e, atI_nat (j := 0) rfl, _, ty2, _, rfl, c3, c4, _, rfl, iteF ?_⟩
      refine ⟨_, rfl, ad, _, _, _, rfl, rfl, e, atI_nat (j := 0) rfl, ?_⟩
      refine ⟨_, rfl, rfl, _, rfl, iteN (fun z => (by decide +kernel : ¬ (("sign" : Str) = "yes")) (V.str.inj z)) ?_⟩
      refine ⟨_, rfl, rfl, _, rfl, iteD rfl ?_⟩
      refine ⟨_, rfl, .inl ⟨ad, _, rfl, .inr e, rfl, _, rfl, iteD (by rfl) ?_⟩⟩
      refine ⟨_, rfl, ad, _, _, _, rfl, rfl, e, atI_nat (j := 1) rfl, x, rfl, hk, fun H' s' => ?_⟩
      rw [hx]
      exact k H' s'
    | @manyL ad w xs hw0 e hl =>
      obtain ⟨h1, h2, h3, _⟩ := many_words w hw0
      obtain ⟨ty2, c3, c4⟩ := str_ty (K := K) (H := H) w
      refine ⟨_, rfl, _, rfl, .inl ⟨ad, _, rfl, e, _, rfl, iteF ?_⟩⟩
      refine ⟨_, rfl, .inl ⟨ad, _, rfl, .inr e, rfl, _, rfl, iteN (fun z => by have := V.int.inj z; simp at this <;> omega) ?_⟩⟩
      refine ⟨_, rfl, ad, _, _, _, rfl, rfl, e, atI_nat (j := 0) rfl, _, ty2, _, rfl, c3, c4, _, rfl, iteF ?_⟩
      refine ⟨_, rfl, ad, _, _, _, rfl, rfl, e, atI_nat (j := 0) rfl, ?_⟩
      refine ⟨_, rfl, rfl, _, rfl, iteN (fun z => h1 (V.str.inj z)) ?_⟩
      refine ⟨_, rfl, rfl, _, rfl, iteN (fun z => h2 (V.str.inj z)) ?_⟩
      refine ⟨_, rfl, by rw [sizeLine_eq]; simp, fun q hq2 => ⟨q, _, rfl, .inr (SqT.of upd_same), rfl, rfl, _, rfl, iteIn (ss := ["and", "or"]) hw0 ?_⟩⟩
      have s1 := same_upd (o := .tup [.str "and", .str "or"]) hq2
      have e1 := Same.tup s1 K _ _ e
      generalize upd H q (.tup [.str "and", .str "or"]) = H1 at s1 e1 ⊢
      exact ⟨_, rfl, .inl ⟨ad, _, rfl, .inr (e1), rfl, _, rfl, iteN (fun z => by have := V.int.inj z; simp at this <;> omega) (k _ s1)⟩⟩
    | @manyN ad w x hw0 e hk ht =>
      obtain ⟨h1, h2, h3, _⟩ := many_words w hw0
      obtain ⟨ty2, c3, c4⟩ := str_ty (K := K) (H := H) w
      refine ⟨_, rfl, _, rfl, .inl ⟨ad, _, rfl, e, _, rfl, iteF ?_⟩⟩
      refine ⟨_, rfl, .inl ⟨ad, _, rfl, .inr e, rfl, _, rfl, iteN (fun z => by have := V.int.inj z; simp at this <;> omega) ?_⟩⟩
      refine ⟨_, rfl, ad, _, _, _, rfl, rfl, e, atI_nat (j := 0) rfl, _, ty2, _, rfl, c3, c4, _, rfl, iteF ?_⟩
      refine ⟨_, rfl, ad, _, _, _, rfl, rfl, e, atI_nat (j := 0) rfl, ?_⟩
      refine ⟨_, rfl, rfl, _, rfl, iteN (fun z => h1 (V.str.inj z)) ?_⟩
      refine ⟨_, rfl, rfl, _, rfl, iteN (fun z => h2 (V.str.inj z)) ?_⟩
      refine ⟨_, rfl, by rw [sizeLine_eq]; simp, fun q hq2 => ⟨q, _, rfl, .inr (SqT.of upd_same), rfl, rfl, _, rfl, iteIn (ss := ["and", "or"]) hw0 ?_⟩⟩
      have s1 := same_upd (o := .tup [.str "and", .str "or"]) hq2
      have e1 := Same.tup s1 K _ _ e
      generalize upd H q (.tup [.str "and", .str "or"]) = H1 at s1 e1 ⊢
      obtain ⟨t, h5, h6⟩ := isi_f K (by simp) (hk.mono s1) ((isTy_same s1 hk).trans ht)
      exact ⟨_, rfl, .inl ⟨ad, _, rfl, .inr (e1), rfl, _, rfl, iteD (by rfl) ⟨_, rfl, ad, _, _, _, rfl, rfl, e1, atI_nat (j := 1) rfl, _, rfl, .inr ⟨t, h5, h6, k _ s1⟩⟩⟩⟩
    | @witL ad xs e hl =>
      obtain ⟨ty2, c3, c4⟩ := str_ty (K := K) (H := H) "within"
      refine ⟨_, rfl, _, rfl, .inl ⟨ad, _, rfl, e, _, rfl, iteF ?_⟩⟩
      refine ⟨_, rfl, .inl ⟨ad, _, rfl, .inr e, rfl, _, rfl, iteN (fun z => by have := V.int.inj z; simp at this <;> omega) ?_⟩⟩
      refine ⟨_, rfl, ad, _, _, _, rfl, rfl, e, atI_nat (j := 0) rfl, _, ty2, _, rfl, c3, c4, _, rfl, iteF ?_⟩
      refine ⟨_, rfl, ad, _, _, _, rfl, rfl, e, atI_nat (j := 0) rfl, ?_⟩
      refine ⟨_, rfl, rfl, _, rfl, iteN (fun z => (by decide +kernel : ¬ (("within" : Str) = "yes")) (V.str.inj z)) ?_⟩
      refine ⟨_, rfl, rfl, _, rfl, iteN (fun z => (by decide +kernel : ¬ (("within" : Str) = "sign")) (V.str.inj z)) ?_⟩
      refine ⟨_, rfl, by rw [sizeLine_eq]; simp, fun q hq2 => ⟨q, _, rfl, .inr (SqT.of upd_same), rfl, rfl, _, rfl, iteNin (ss := ["and", "or"]) (show ("within" : Str) ∉ (["and", "or"] : List Str) by decide +kernel) ?_⟩⟩
      have s1 := same_upd (o := .tup [.str "and", .str "or"]) hq2
      have e1 := Same.tup s1 K _ _ e
      generalize upd H q (.tup [.str "and", .str "or"]) = H1 at s1 e1 ⊢
      refine ⟨_, rfl, rfl, _, rfl, iteD rfl ?_⟩
      exact ⟨_, rfl, .inl ⟨ad, _, rfl, .inr (e1), rfl, _, rfl, iteN (fun z => by have := V.int.inj z; simp at this <;> omega) (k _ s1)⟩⟩
    | @witN ad x y z e hk hx =>
      obtain ⟨ty2, c3, c4⟩ := str_ty (K := K) (H := H) "within"
      refine ⟨_, rfl, _, rfl, .inl ⟨ad, _, rfl, e, _, rfl, iteF ?_⟩⟩
      refine ⟨_, rfl, .inl ⟨ad, _, rfl, .inr e, rfl, _, rfl, iteN (fun z => by have := V.int.inj z; simp at this <;> omega) ?_⟩⟩
      refine ⟨_, rfl, ad, _, _, _, rfl, rfl, e, atI_nat (j := 0) rfl, _, ty2, _, rfl, c3, c4, _, rfl, iteF ?_⟩
      refine ⟨_, rfl, ad, _, _, _, rfl, rfl, e, atI_nat (j := 0) rfl, ?_⟩
      refine ⟨_, rfl, rfl, _, rfl, iteN (fun z => (by decide +kernel : ¬ (("within" : Str) = "yes")) (V.str.inj z)) ?_⟩
      refine ⟨_, rfl, rfl, _, rfl, iteN (fun z => (by decide +kernel : ¬ (("within" : Str) = "sign")) (V.str.inj z)) ?_⟩
      refine ⟨_, rfl, by rw [sizeLine_eq]; simp, fun q hq2 => ⟨q, _, rfl, .inr (SqT.of upd_same), rfl, rfl, _, rfl, iteNin (ss := ["and", "or"]) (show ("within" : Str) ∉ (["and", "or"] : List Str) by decide +kernel) ?_⟩⟩
      have s1 := same_upd (o := .tup [.str "and", .str "or"]) hq2
      have e1 := Same.tup s1 K _ _ e
      generalize upd H q (.tup [.str "and", .str "or"]) = H1 at s1 e1 ⊢
      refine ⟨_, rfl, rfl, _, rfl, iteD rfl ?_⟩
      refine ⟨_, rfl, .inl ⟨ad, _, rfl, .inr (e1), rfl, _, rfl, iteD (by rfl) ?_⟩⟩
      refine ⟨_, rfl, ad, _, _, _, rfl, rfl, e1, atI_nat (j := 1) rfl, x, rfl, hk.mono s1, ?_⟩
      rw [hx]
      exact ⟨_, rfl, iteF (k _ s1)⟩
    | @witM ad m y z e hm =>
      obtain ⟨ty2, c3, c4⟩ := str_ty (K := K) (H := H) "within"
      refine ⟨_, rfl, _, rfl, .inl ⟨ad, _, rfl, e, _, rfl, iteF ?_⟩⟩
      refine ⟨_, rfl, .inl ⟨ad, _, rfl, .inr e, rfl, _, rfl, iteN (fun z => by have := V.int.inj z; simp at this <;> omega) ?_⟩⟩
      refine ⟨_, rfl, ad, _, _, _, rfl, rfl, e, atI_nat (j := 0) rfl, _, ty2, _, rfl, c3, c4, _, rfl, iteF ?_⟩
      refine ⟨_, rfl, ad, _, _, _, rfl, rfl, e, atI_nat (j := 0) rfl, ?_⟩
      refine ⟨_, rfl, rfl, _, rfl, iteN (fun z => (by decide +kernel : ¬ (("within" : Str) = "yes")) (V.str.inj z)) ?_⟩
      refine ⟨_, rfl, rfl, _, rfl, iteN (fun z => (by decide +kernel : ¬ (("within" : Str) = "sign")) (V.str.inj z)) ?_⟩
      refine ⟨_, rfl, by rw [sizeLine_eq]; simp, fun q hq2 => ⟨q, _, rfl, .inr (SqT.of upd_same), rfl, rfl, _, rfl, iteNin (ss := ["and", "or"]) (show ("within" : Str) ∉ (["and", "or"] : List Str) by decide +kernel) ?_⟩⟩
      have s1 := same_upd (o := .tup [.str "and", .str "or"]) hq2
      have e1 := Same.tup s1 K _ _ e
      generalize upd H q (.tup [.str "and", .str "or"]) = H1 at s1 e1 ⊢
      refine ⟨_, rfl, rfl, _, rfl, iteD rfl ?_⟩
      refine ⟨_, rfl, .inl ⟨ad, _, rfl, .inr (e1), rfl, _, rfl, iteD (by rfl) ?_⟩⟩
      refine ⟨_, rfl, ad, _, _, _, rfl, rfl, e1, atI_nat (j := 1) rfl, .int m, rfl, .int m, _, rfl, iteT ?_⟩
      refine ⟨_, rfl, ad, _, _, _, rfl, rfl, e1, atI_nat (j := 1) rfl, _, _, rfl, rfl, _, rfl, ?_⟩
      by_cases h0 : 0 ≤ m
      · exact iteD h0 ⟨_, _, rfl, rfl, qN (fun h5 => hm ⟨h0, h5⟩) (k _ s1)⟩
      · exact iteN h0 (k _ s1)
    | @word ad w xs e hw1 =>
      obtain ⟨h1, h2, h3, h4⟩ := nw_of w hw1
      obtain ⟨ty2, c3, c4⟩ := str_ty (K := K) (H := H) w
      refine ⟨_, rfl, _, rfl, .inl ⟨ad, _, rfl, e, _, rfl, iteF ?_⟩⟩
      refine ⟨_, rfl, .inl ⟨ad, _, rfl, .inr e, rfl, _, rfl, iteN (fun z => by have := V.int.inj z; simp at this <;> omega) ?_⟩⟩
      refine ⟨_, rfl, ad, _, _, _, rfl, rfl, e, atI_nat (j := 0) rfl, _, ty2, _, rfl, c3, c4, _, rfl, iteF ?_⟩
      refine ⟨_, rfl, ad, _, _, _, rfl, rfl, e, atI_nat (j := 0) rfl, ?_⟩
      refine ⟨_, rfl, rfl, _, rfl, iteN (fun z => h1 (V.str.inj z)) ?_⟩
      refine ⟨_, rfl, rfl, _, rfl, iteN (fun z => h2 (V.str.inj z)) ?_⟩
      refine ⟨_, rfl, by rw [sizeLine_eq]; simp, fun q hq2 => ⟨q, _, rfl, .inr (SqT.of upd_same), rfl, rfl, _, rfl, iteNin (ss := ["and", "or"]) h3 ?_⟩⟩
      have s1 := same_upd (o := .tup [.str "and", .str "or"]) hq2
      have e1 := Same.tup s1 K _ _ e
      generalize upd H q (.tup [.str "and", .str "or"]) = H1 at s1 e1 ⊢
      refine ⟨_, rfl, rfl, _, rfl, iteN (fun z => h4 (V.str.inj z)) ?_⟩
      have hn : PySem.W.nsIn K a.D_LENGTHS w = some none := by
        simp at hw1
        rcases hw1 with rfl | rfl
        · exact T.nk_signs
        · exact T.nk_Next
      exact ⟨_, rfl, w, _, _, false, rfl, rfl, T.d_LENGTHS, .inr ⟨rfl, hn⟩, _, rfl, iteF (k _ s1)⟩
    | @lens ad w i xs e hw1 hm hi =>
      obtain ⟨h1, h2, h3, h4⟩ := nwx hw1
      obtain ⟨ty2, c3, c4⟩ := str_ty (K := K) (H := H) w
      refine ⟨_, rfl, _, rfl, .inl ⟨ad, _, rfl, e, _, rfl, iteF ?_⟩⟩
      refine ⟨_, rfl, .inl ⟨ad, _, rfl, .inr e, rfl, _, rfl, iteN (fun z => by have := V.int.inj z; simp at this <;> omega) ?_⟩⟩
      refine ⟨_, rfl, ad, _, _, _, rfl, rfl, e, atI_nat (j := 0) rfl, _, ty2, _, rfl, c3, c4, _, rfl, iteF ?_⟩
      refine ⟨_, rfl, ad, _, _, _, rfl, rfl, e, atI_nat (j := 0) rfl, ?_⟩
      refine ⟨_, rfl, rfl, _, rfl, iteN (fun z => h1 (V.str.inj z)) ?_⟩
      refine ⟨_, rfl, rfl, _, rfl, iteN (fun z => h2 (V.str.inj z)) ?_⟩
      refine ⟨_, rfl, by rw [sizeLine_eq]; simp, fun q hq2 => ⟨q, _, rfl, .inr (SqT.of upd_same), rfl, rfl, _, rfl, iteNin (ss := ["and", "or"]) h3 ?_⟩⟩
      have s1 := same_upd (o := .tup [.str "and", .str "or"]) hq2
      have e1 := Same.tup s1 K _ _ e
      generalize upd H q (.tup [.str "and", .str "or"]) = H1 at s1 e1 ⊢
      refine ⟨_, rfl, rfl, _, rfl, iteN (fun z => h4 (V.str.inj z)) ?_⟩
      exact ⟨_, rfl, w, _, _, true, rfl, rfl, T.d_LENGTHS, .inl ⟨rfl, i, hm⟩, _, rfl, iteT ⟨_, rfl, .inl ⟨ad, _, rfl, .inr (e1), _, rfl, _, w, _, i, rfl, rfl, T.d_LENGTHS, hm, rfl, qN (fun z => hi (V.int.inj z)) (k _ s1)⟩⟩⟩
end KK

set_option Elab.async false
set_option linter.all false
set_option maxRecDepth 100000
set_option maxHeartbeats 8000000
namespace KK
open PySem PySem.Spec L2 L3
def sp_inner_of (K : PySem.W.Frag) (a : Adr) : Sp := fun vs H Q _ => ∃ (v : V) (ad : Addr) (us : List V) (c : Lb), vs = [v] ∧ v = .ref ad ∧ Shape K H ad us c ∧ lbOkB c us.length ∧ ∀ H' b, Same H H' → SqT K H' b us → Q (.ref b) H'
theorem inner_at {K : PySem.W.Frag} {a : Adr} {n : Nat} {H : Hp} {v : V} {t : Tr} {Q : VK} {E : XK} (h : At K (n + 1) H v t) (k : ∀ H' b us, Same H H' → SqT K H' b us → AtL K n H' us t.ks → Q (.ref b) H') : sp_inner_of K a [v] H Q E := by
  obtain ⟨ad, us, rfl, sh, ok, hl, hq⟩ := h
  exact ⟨_, ad, us, t.lb, rfl, rfl, sh, by rw [hl]; exact ok.b, fun H' b s e => k H' b us s e (AtL.mono (Same.tup s) ⟨hl, hq⟩)⟩
theorem cutV_two (x y : V) (vs : List V) : cutV (x :: y :: vs) (some 2) none = vs := by
  have := cutV_from (x :: y :: vs) 2 (by simp)
  exact this
theorem cutV_one (x : V) (vs : List V) : cutV (x :: vs) (some 1) none = vs := by
  have := cutV_from (x :: vs) 1 (by simp)
  exact this
theorem cut_not {n : Nat} {k : Int} (h : 0 < k) (hn : (k : Int) ≤ n) : ¬ (HT.sIx n 0 (some k) = 0 ∧ HT.sIx n n none = n) := by
  rintro ⟨h1, _⟩
  have h2 : ¬ (k < 0) := by omega
  unfold HT.sIx at h1
  simp only [h2, if_false] at h1
  omega
theorem ok_inner_of {P : Program} {w : World} {K : PySem.W.Frag} {mg : Str → Option Value} {base : Heap} {a : Adr} (T : Txt K mg a) (hw : w.params = a.Pm) : FnOk P w K mg base CX0 1 a.inner_of a.inner_of_fd ["sentence"] (sp_inner_of K a) := by
  refine T.f_inner_of.ok sc_inner_of (fun vs H Q E h => ?_) (fun cdv A outer s H vs Q E hr h => ?_)
  · obtain ⟨v, ad, us, c, rfl, _⟩ := h
    rfl
  · obtain ⟨v, ad, us, c, rfl, rfl, sh, ok, k⟩ := h
    refine ⟨_, (@pss_cons _ _ _ _ _ (@ps_set _ _ (1) _ _ _ _ sc_inner_of.nd
      rfl
      (by first | exact Or.inl rfl | exact Or.inr rfl)
      (@pe_ix _ _ _ _ _ _ _ (ix_tupK (K := K) rfl)
      (pv 0)
      pe_int
      (fun _ _ => rfl))
      (by rfl)
      (by first | exact .inl rfl | exact .inr rfl | assumption))
      (@pss_cons _ _ _ _ _ (@ps_if _ _ _ _ _ _ _ _ (@pt_cmpR _ _ _ _ _ _ _ _ (op_inK (K := K) rfl)
      (pv 1)
      (@pe_tup _ _ _ _ _ (@pa_cons _ _ _ _ _ pe_str
      (@pa_cons _ _ _ _ _ pe_str
      pa_nil
      (by rfl))
      (by rfl)))
      (by with_unfolding_all rfl))
      (@pss_one _ _ _ (@ps_ret _ _ _ _ (@pe_tup _ _ _ _ _ pa_nil)))
      pss_nil)
      (@pss_cons _ _ _ _ _ (@ps_if _ _ _ _ _ _ _ _ (@pt_cmpR _ _ _ _ _ _ _ _ (op_inK (K := K) rfl)
      (pv 1)
      (@pe_tup _ _ _ _ _ (@pa_cons _ _ _ _ _ pe_str
      (@pa_cons _ _ _ _ _ pe_str
      pa_nil
      (by rfl))
      (by rfl)))
      (by with_unfolding_all rfl))
      (@pss_one _ _ _ (@ps_ret _ _ _ _ (@pe_ix _ _ _ _ _ _ _ (ix_tupK (K := K) rfl)
      (pv 0)
      pe_int
      (fun _ _ => rfl))))
      pss_nil)
      (@pss_cons _ _ _ _ _ (@ps_if _ _ _ _ _ _ _ _ (@pt_cmpR _ _ _ _ _ _ _ _ op_eq
      (pv 1)
      pe_str
      (nomark _))
      (@pss_one _ _ _ (@ps_ret _ _ _ _ (pe_slice (sl_tupK (K := K) rfl) (pv 0) (po_some pe_int) po_none)))
      pss_nil)
      (@pss_one _ _ _ (@ps_ret _ _ _ _ (pe_slice (sl_tupK (K := K) rfl) (pv 0) (po_some pe_int) po_none))))))), ?_⟩
    obtain ⟨xs, e⟩ := sh.tup
    refine ⟨_, rfl, ad, _, _, _, rfl, rfl, e, atI_nat (j := 0) rfl, ?_⟩
    refine ⟨_, rfl, by rw [sizeLine_eq]; simp, fun q hq2 => ⟨q, _, rfl, .inr (SqT.of upd_same), rfl, rfl, _, rfl, ?_⟩⟩
    have s1 := same_upd (o := .tup [.str "yes", .str "sign"]) hq2
    generalize upd H q (.tup [.str "yes", .str "sign"]) = H1 at s1 ⊢
    have sh1 := sh.mono (Same.tup s1)
    clear e xs sh
    revert sh1 ok
    cases c with
    | yes =>
      intro ok sh
      refine iteIn (ss := ["yes", "sign"]) (by decide +kernel) ⟨by rw [sizeLine_eq]; simp, fun r hr => ?_⟩
      have h0 := sh.1
      subst h0
      exact k _ r (s1.trans (same_upd hr)) (SqT.of upd_same)
    | sign z =>
      intro ok sh
      refine iteIn (ss := ["yes", "sign"]) (show ("sign" : Str) ∈ (["yes", "sign"] : List Str) by decide +kernel) ⟨by rw [sizeLine_eq]; simp, fun r hr => ?_⟩
      have h0 := sh.1
      subst h0
      exact k _ r (s1.trans (same_upd hr)) (SqT.of upd_same)
    | op w =>
      intro ok sh
      obtain ⟨h1, h2, h3, h4, h5⟩ := op_words w (by rcases ok with ok | ok; exact List.mem_append_left _ ok.1; exact List.mem_append_right _ ok.1)
      refine iteNin (ss := ["yes", "sign"]) h5 ?_
      refine ⟨_, rfl, by rw [sizeLine_eq]; simp, fun q3 hq3 => ⟨q3, _, rfl, .inr (SqT.of upd_same), rfl, rfl, _, rfl, iteNin (ss := ["and", "or"]) h3 ?_⟩⟩
      have s2 := same_upd (o := .tup [.str "and", .str "or"]) hq3
      generalize upd H1 q3 (.tup [.str "and", .str "or"]) = H2 at s2 ⊢
      refine ⟨_, rfl, rfl, _, rfl, iteN (fun z => h4 (V.str.inj z)) ?_⟩
      refine ⟨_, rfl, _, rfl, ad, _, rfl, (Same.tup s2 K _ _ sh), cut_not (by decide) (by simp; omega), fun r hr => ?_⟩
      rw [cutV_one]
      exact k _ r ((s1.trans s2).trans (same_upd hr)) (SqT.of upd_same)
    | wit m =>
      intro ok sh
      refine iteNin (ss := ["yes", "sign"]) (show ("within" : Str) ∉ (["yes", "sign"] : List Str) by decide +kernel) ?_
      refine ⟨_, rfl, by rw [sizeLine_eq]; simp, fun q3 hq3 => ⟨q3, _, rfl, .inr (SqT.of upd_same), rfl, rfl, _, rfl, iteNin (ss := ["and", "or"]) (show ("within" : Str) ∉ (["and", "or"] : List Str) by decide +kernel) ?_⟩⟩
      have s2 := same_upd (o := .tup [.str "and", .str "or"]) hq3
      generalize upd H1 q3 (.tup [.str "and", .str "or"]) = H2 at s2 ⊢
      refine ⟨_, rfl, rfl, _, rfl, iteD rfl ?_⟩
      refine ⟨_, rfl, _, rfl, ad, _, rfl, (Same.tup s2 K _ _ sh), cut_not (by decide) (by simp; omega), fun r hr => ?_⟩
      rw [cutV_two]
      exact k _ r ((s1.trans s2).trans (same_upd hr)) (SqT.of upd_same)
    | many w =>
      intro ok sh
      have hw0 : w ∈ (["and", "or"] : List Str) := by rcases ok.1 with rfl | rfl <;> simp
      obtain ⟨h1, h2, h3, h4, _⟩ := many_words w hw0
      obtain ⟨b, sh1, sh2⟩ := sh
      refine iteNin (ss := ["yes", "sign"]) h4 ?_
      refine ⟨_, rfl, by rw [sizeLine_eq]; simp, fun q3 hq3 => ⟨q3, _, rfl, .inr (SqT.of upd_same), rfl, rfl, _, rfl, iteIn (ss := ["and", "or"]) hw0 ?_⟩⟩
      have s2 := same_upd (o := .tup [.str "and", .str "or"]) hq3
      generalize upd H1 q3 (.tup [.str "and", .str "or"]) = H2 at s2 ⊢
      exact ⟨_, rfl, ad, _, _, _, rfl, rfl, (Same.tup s2 K _ _ sh1), atI_nat (j := 1) rfl, k _ b (s1.trans s2) (Same.tup s2 K _ _ sh2)⟩
end KK

set_option Elab.async false
set_option linter.all false
set_option maxRecDepth 100000
set_option maxHeartbeats 8000000
namespace KK
open PySem PySem.Spec L2 L3
theorem len_postL : ∀ ts : List Tr, ts.length ≤ (postL ts).length
  | [] => by simp [postL]
  | t :: r => by
    have := len_postL r
    rw [postL, List.length_append, List.length_cons, post_eq t, List.length_append]
    simp
    omega
def sp_inner_ahead (K : PySem.W.Frag) (a : Adr) : Sp := fun vs H Q _ => ∃ (v : V) (t : Tr) (n : Nat), vs = [v] ∧ At K n H v t ∧ (post t).length ≤ 2000000 ∧ ∀ H' l us, Same H H' → H l = none → H' l = some (.lst us) → AtL K n H' us (post t) → Q (.ref l) H'
theorem ok_inner_ahead {P : Program} {w : World} {K : PySem.W.Frag} {mg : Str → Option Value} {base : Heap} {a : Adr} (T : Txt K mg a) (hw : w.params = a.Pm) : FnOk P w K mg base CX0 3 a.inner_ahead a.inner_ahead_fd ["sentence"] (sp_inner_ahead K a) := by
  have G_is_formed := ok_is_formed (P := P) (w := w) (base := base) T hw
  have G_inner_of := ok_inner_of (P := P) (w := w) (base := base) T hw
  refine T.f_inner_ahead.ok sc_inner_ahead (fun vs H Q E h => ?_) (fun cdv A outer s H vs Q E hr h => ?_)
  · obtain ⟨v, t, n, rfl, _⟩ := h
    rfl
  · obtain ⟨v, t, n, rfl, hat, hz, k⟩ := h
    refine ⟨_, (@pss_cons _ _ _ _ _ (@ps_set _ _ (1) _ _ _ _ sc_inner_ahead.nd
      rfl
      (by first | exact Or.inl rfl | exact Or.inr rfl)
      (@pe_lst _ _ _ _ pa_nil)
      (by rfl)
      (by first | exact .inl rfl | exact .inr rfl | assumption))
      (@pss_cons _ _ _ _ _ (@ps_set _ _ (2) _ _ _ _ sc_inner_ahead.nd
      rfl
      (by first | exact Or.inl rfl | exact Or.inr rfl)
      (@pe_lst _ _ _ _ (@pa_cons _ _ _ _ _ (pv 0)
      pa_nil
      (by rfl)))
      (by rfl)
      (by first | exact .inl rfl | exact .inr rfl | assumption))
      (@pss_cons _ _ _ _ _ (ps_while PassesOwn.never (pt_truthK (K := K) rfl (pv 2) (fun _ => rfl)) (@pss_cons _ _ _ _ _ (@ps_set _ _ (3) _ _ _ _ sc_inner_ahead.nd
      rfl
      (by first | exact Or.inl rfl | exact Or.inr rfl)
      (pe_bm0 PySem.F.plainAttrs_list PySem.F.slot_list_pop PySem.F.type_list_pop mt_pop (pv 2))
      (by rfl)
      (by first | exact .inl rfl | exact .inr rfl | assumption))
      (@pss_cons _ _ _ _ _ (@ps_if _ _ _ _ _ _ _ _ (@pt_not _ _ _ _ (pt_val (pe_call G_is_formed (hr.mono (by decide)) rfl T.g_is_formed T.f_is_formed.kp T.n_is_formed .nil pass0 (@pa_cons _ _ _ _ _ (pv 3)
      pa_nil
      (by rfl)))))
      (@pss_one _ _ _ ps_never)
      pss_nil)
      (@pss_cons _ _ _ _ _ (@ps_expr _ _ _ _ (pe_bm PySem.F.plainAttrs_list PySem.F.slot_list_append PySem.F.type_list_append mt_append (pv 1) (@pa_cons _ _ _ _ _ (pv 3)
      pa_nil
      (by rfl)))
      (by rfl))
      (@pss_one _ _ _ (@ps_expr _ _ _ _ (pe_bm PySem.F.plainAttrs_list PySem.F.slot_list_extend PySem.F.type_list_extend (mt_extendT (K := K) rfl) (pv 2) (@pa_cons _ _ _ _ _ (pe_call G_inner_of (hr.mono (by decide)) rfl T.g_inner_of T.f_inner_of.kp T.n_inner_of .nil pass0 (@pa_cons _ _ _ _ _ (pv 3)
      pa_nil
      (by rfl)))
      pa_nil
      (by rfl)))
      (by rfl)))))))
      (@pss_one _ _ _ (@ps_ret _ _ _ _ (pe_revK (K := K) rfl (pv 1) (po_some (pe_un un_neg pe_int)))))))), ?_⟩
    cases n with
    | zero => exact hat.elim
    | succ n =>
      refine ⟨by decide, fun F hF => ?_⟩
      have s1 := same_upd (o := .lst []) hF
      have e1 : (upd H F (.lst [])) F = some (.lst []) := upd_same
      generalize upd H F (.lst []) = H1 at s1 e1 ⊢
      refine ⟨_, rfl, by rw [sizeLine_eq]; simp, fun W hW => ?_⟩
      have s2 := same_upd (o := .lst [v]) hW
      have e2 : (upd H1 W (.lst [v])) W = some (.lst [v]) := upd_same
      have nFW : F ≠ W := ne_new e1 hW
      have e1' := s2 _ _ e1
      generalize upd H1 W (.lst [v]) = H2 at s2 e2 e1' ⊢
      have hW0 : H W = none := s1.free hW
      have at2 := hat.mono (Same.tup (s1.trans s2))
      refine ⟨fun m σ H' => ∃ (z : Option V) (ws fs : List V) (tw tf : List Tr), σ = [some v, some (.ref F), some (.ref W), z] ∧ Same H H' ∧ H' F = some (.lst fs) ∧ H' W = some (.lst ws) ∧ AtL K (n + 1) H' ws tw ∧ AtL K (n + 1) H' fs tf ∧ tf ++ (postL tw).reverse = (post t).reverse ∧ m = (postL tw).length, ⟨_, _, [v], [], [t], [], rfl, s1.trans s2, e1', e2, AtL.one at2, AtL.nil, by rw [postL_one]; rfl, rfl⟩, ?_⟩
      rintro m σ H3 ⟨z, ws, fs, tw, tf, rfl, s3, hF3, hW3, aw, af, he, rfl⟩
      have hlen : tf.length + (postL tw).length = (post t).length := by have := congrArg List.length he; simpa using this
      have hwl := len_postL tw
      have hwl2 := aw.1
      have hfl2 := af.1
      refine ⟨_, rfl, !ws.isEmpty, ?tru, ?_⟩
      case tru => exact .inl ⟨_, SqL.of hW3, rfl⟩
      cases hws : ws.isEmpty with
      | true =>
        have e0 : ws = [] := List.isEmpty_iff.mp hws
        subst e0
        have et : tw = [] := List.length_eq_zero_iff.mp hwl2.symm
        subst et
        refine iteF ?_
        rw [postL, List.reverse_nil, List.append_nil] at he
        refine ⟨_, rfl, _, rfl, _, rfl, F, _, rfl, rfl, SqL.of hF3, fun p hp => ?_⟩
        have ar := af.rev
        rw [he, List.reverse_reverse] at ar
        exact k _ p _ (s3.trans (same_upd hp)) (s3.free hp) upd_same (ar.mono (Same.tup (same_upd hp)))
      | false =>
        have hne : ws ≠ [] := fun e => by rw [e] at hws; cases hws
        obtain ⟨us, u, rs, r, ew, etw, aus, au⟩ := aw.last hne
        subst ew etw
        refine iteT ?_
        refine ⟨fun σ H' => ∃ (z : Option V) (ws fs : List V) (tw tf : List Tr), σ = [some v, some (.ref F), some (.ref W), z] ∧ Same H H' ∧ H' F = some (.lst fs) ∧ H' W = some (.lst ws) ∧ AtL K (n + 1) H' ws tw ∧ AtL K (n + 1) H' fs tf ∧ tf ++ (postL tw).reverse = (post t).reverse ∧ (postL tw).length < (postL (rs ++ [r])).length, ?_, ?_⟩
        · rintro σ' H' ⟨z', ws', fs', tw', tf', rfl, a1, a2, a3, a4, a5, a6, a7⟩
          exact ⟨_, a7, z', ws', fs', tw', tf', rfl, a1, a2, a3, a4, a5, a6, rfl⟩
        refine ⟨_, rfl, .inl ⟨rfl, _, SqL.of hW3⟩, W, _, u, rfl, rfl, hW3, by simp, ?_⟩
        rw [List.dropLast_concat]
        have x4 : SameX W H3 (upd H3 W (.lst us)) := (SameX.refl H3).upd
        have t4 : SameT H3 (upd H3 W (.lst us)) := SameX.tup x4 hW3
        have hF4 : (upd H3 W (.lst us)) F = some (.lst fs) := updK hF3 nFW
        have hW4 : (upd H3 W (.lst us)) W = some (.lst us) := upd_same
        have s4 : Same H (upd H3 W (.lst us)) := ((Same.x s3).upd).same hW0
        generalize upd H3 W (.lst us) = H4 at x4 t4 hF4 hW4 s4 ⊢
        have au4 := au.mono t4
        refine ⟨_, rfl, u, true, rfl, .inl ⟨rfl, au4.fmT⟩, fun H5 s5 => ⟨_, rfl, iteF ?_⟩⟩
        have hF5 := s5 _ _ hF4
        have hW5 := s5 _ _ hW4
        have tur := post_turn rs r
        have tl := congrArg List.length tur
        simp at tl
        refine ⟨_, rfl, .inl ⟨rfl, _, SqL.of hF5⟩, _, rfl, F, _, _, rfl, rfl, hF5, by rw [sizeLine_eq]; omega, ?_⟩
        have x6 : SameX F H5 (upd H5 F (.lst (fs ++ [u]))) := (SameX.refl H5).upd
        have t6 : SameT H5 (upd H5 F (.lst (fs ++ [u]))) := SameX.tup x6 hF5
        have hF6 : (upd H5 F (.lst (fs ++ [u]))) F = some (.lst (fs ++ [u])) := upd_same
        have hW6 : (upd H5 F (.lst (fs ++ [u]))) W = some (.lst us) := updK hW5 (Ne.symm nFW)
        have s6 : Same H (upd H5 F (.lst (fs ++ [u]))) := ((Same.x (s4.trans s5)).upd).same hF
        generalize upd H5 F (.lst (fs ++ [u])) = H6 at x6 t6 hF6 hW6 s6 ⊢
        have t46 : SameT H3 H6 := t4.trans ((Same.tup s5).trans t6)
        obtain ⟨ad7, ks7, eu7, sh7, ok7, hl7, hq7⟩ := au.mono t46
        refine ⟨_, rfl, .inl ⟨rfl, _, SqL.of hW6⟩, _, rfl, u, ad7, ks7, r.lb, rfl, eu7, sh7, by rw [hl7]; exact ok7.b, fun H7 b s7 eb => ?_⟩
        have aL : AtL K n H7 ks7 r.ks := AtL.mono (Same.tup s7) ⟨hl7, hq7⟩
        have hW7 := s7 _ _ hW6
        have hkl := aL.1
        have hll := len_postL (rs ++ r.ks)
        simp at hll
        have hul := aus.1
        refine ⟨W, b, _, _, rfl, rfl, hW7, eb, by rw [sizeLine_eq]; omega, ?_⟩
        have x8 : SameX W H7 (upd H7 W (.lst (us ++ ks7))) := (SameX.refl H7).upd
        have t8 : SameT H7 (upd H7 W (.lst (us ++ ks7))) := SameX.tup x8 hW7
        have t38 : SameT H3 (upd H7 W (.lst (us ++ ks7))) := t46.trans ((Same.tup s7).trans t8)
        refine ⟨_, us ++ ks7, fs ++ [u], rs ++ r.ks, tf ++ [r], rfl, ((Same.x (s6.trans s7)).upd).same hW0, updK (s7 _ _ hF6) nFW, upd_same, (aus.mono t38).app ((aL.le (Nat.le_succ n)).mono t8), (af.mono t38).app (AtL.one (au.mono t38)), ?_, ?_⟩
        · rw [tur] at he
          rw [List.append_assoc]
          exact he
        · omega
end KK

set_option Elab.async false
set_option linter.all false
set_option maxRecDepth 100000
set_option maxHeartbeats 8000000
namespace KK
open PySem PySem.Spec L2 L3
def sp_and_of (K : PySem.W.Frag) (a : Adr) : Sp := fun vs H Q _ => ∃ (p : Addr) (us : List V) (cs : List Tr) (n : Nat), vs = [.ref p] ∧ H p = some (.lst us) ∧ AtL K n H us cs ∧ cs.length ≤ 8 ∧ 1 ≤ n ∧ ∀ H' v, Same H H' → At K (n + 8) H' v (andT cs) → Q v H'
theorem ok_and_of {P : Program} {w : World} {K : PySem.W.Frag} {mg : Str → Option Value} {base : Heap} {a : Adr} (T : Txt K mg a) (hw : w.params = a.Pm) : FnOk P w K mg base CX0 1 a.and_of a.and_of_fd ["cores"] (sp_and_of K a) := by
  refine T.f_and_of.ok sc_and_of (fun vs H Q E h => ?_) (fun cdv A outer s H vs Q E hr h => ?_)
  · obtain ⟨p, us, cs, n, rfl, _⟩ := h
    rfl
  · obtain ⟨p, us, cs, n, rfl, hp, aL, h8, hn, k⟩ := h
    refine ⟨_, (@pss_cons _ _ _ _ _ (@ps_if _ _ _ _ _ _ _ _ (@pt_not _ _ _ _ (pt_truthK (K := K) rfl (pv 0) (fun _ => rfl)))
      (@pss_one _ _ _ (@ps_ret _ _ _ _ (pe_gc (v := .ref a.Y_YES) rfl ⟨_, T.g_YES, rfl⟩)))
      pss_nil)
      (@pss_cons _ _ _ _ _ (@ps_set _ _ (1) _ _ _ _ sc_and_of.nd
      rfl
      (by first | exact Or.inl rfl | exact Or.inr rfl)
      (@pe_ix _ _ _ _ _ _ _ (ix_listK (K := K) rfl)
      (pv 0)
      (pe_un un_neg pe_int)
      (fun _ _ => rfl))
      (by rfl)
      (by first | exact .inl rfl | exact .inr rfl | assumption))
      (@pss_cons _ _ _ _ _ (ps_for PassesOwn.never rfl (pi_revK (K := K) rfl rfl T.b_reversed (@pa_cons _ _ _ _ _ (pe_slice (sl_listK (K := K) rfl) (pv 0) po_none (po_some (pe_un un_neg pe_int)))
      pa_nil
      (by rfl))) (pg_name (i := 2) sc_and_of.nd rfl (by first | exact Or.inl rfl | exact Or.inr rfl)) (@pss_one _ _ _ (@ps_set _ _ (1) _ _ _ _ sc_and_of.nd
      rfl
      (by first | exact Or.inl rfl | exact Or.inr rfl)
      (@pe_tup _ _ _ _ _ (@pa_cons _ _ _ _ _ pe_str
      (@pa_cons _ _ _ _ _ (@pe_tup _ _ _ _ _ (@pa_cons _ _ _ _ _ (pv 2)
      (@pa_cons _ _ _ _ _ (pv 1)
      pa_nil
      (by rfl))
      (by rfl)))
      pa_nil
      (by rfl))
      (by rfl)))
      (by rfl)
      (by first | exact .inl rfl | exact .inr rfl | assumption))))
      (@pss_one _ _ _ (@ps_ret _ _ _ _ (pv 1)))))), ?_⟩
    have hul := aL.1
    refine ⟨_, rfl, !us.isEmpty, .inl ⟨_, SqL.of hp, rfl⟩, ?_⟩
    cases hus : us.isEmpty with
    | true =>
      have e0 : us = [] := List.isEmpty_iff.mp hus
      subst e0
      have et : cs = [] := List.length_eq_zero_iff.mp hul.symm
      subst et
      exact iteT (k H _ (.refl _) ((at_yes (T.y_YES H) : At K (0 + 1) H _ nYes).le (by omega)))
    | false =>
      have hne : us ≠ [] := fun e => by rw [e] at hus; cases hus
      obtain ⟨ws, u, ds, d, ew, ed, aw, au⟩ := aL.last hne
      subst ew ed
      have hwl := aw.1
      refine iteF ?_
      refine ⟨_, rfl, 1, rfl, p, _, _, u, rfl, rfl, SqL.of hp, atI_last, ?_⟩
      refine ⟨_, rfl, 1, rfl, _, rfl, p, _, rfl, SqL.of hp, fun c hc => ?_⟩
      rw [cut_init _ (by simp)]
      have ec : (ws ++ [u]).take ((ws ++ [u]).length - 1) = ws := by simp
      rw [ec]
      have s1 := same_upd (o := .lst ws) hc
      have e1 : (upd H c (.lst ws)) c = some (.lst ws) := upd_same
      generalize upd H c (.lst ws) = H1 at s1 e1 ⊢
      refine ⟨c, ws, rfl, SqL.of e1, ?_⟩
      refine for_gen (J := Itv K c ws.length) (n := ws.length) (fun i σ H' => ∃ (z : Option V) (v : V), σ = [some (.ref p), some v, z] ∧ Same H1 H' ∧ At K (n + i) H' v (andT (ds.drop (ws.length - i) ++ [d]))) ?_ ?_ ?_ ?_ ?_
      · refine ⟨_, u, rfl, .refl _, ?_⟩
        rw [Nat.sub_zero, hwl, List.drop_length, List.nil_append]
        exact (au.mono (Same.tup s1)).le (by omega)
      · rintro i σ H' hi ⟨z, v, rfl, s', _⟩
        exact ⟨hi, ws, SqL.of (s' _ _ e1), rfl⟩
      · rintro σ H' _
        exact Nat.le_refl _
      · rintro i x σ H2 H2' hi ⟨z, v, rfl, s2, at2⟩ ⟨rfl, hx⟩
        have e := hx ws (SqL.of (s2 _ _ e1))
        have hj : ws.length - 1 - i < ds.length := by omega
        have atk := (aw.2 _ _ _ e (List.getElem?_eq_getElem hj)).mono (Same.tup (s1.trans s2))
        refine ⟨_, rfl, _, rfl, by rw [sizeLine_eq]; simp, fun b hb => ?_⟩
        have s3 := same_upd (o := .tup [x, v]) hb
        have e3 : (upd H2' b (.tup [x, v])) b = some (.tup [x, v]) := upd_same
        generalize upd H2' b (.tup [x, v]) = H3 at s3 e3 ⊢
        refine ⟨by rw [sizeLine_eq]; simp, fun t ht => ?_⟩
        have s4 := same_upd (o := .tup [.str "and", .ref b]) ht
        have e4 : (upd H3 t (.tup [.str "and", .ref b])) t = some (.tup [.str "and", .ref b]) := upd_same
        generalize upd H3 t (.tup [.str "and", .ref b]) = H4 at s4 e4 ⊢
        refine ⟨_, .ref t, rfl, s2.trans (s3.trans s4), ?_⟩
        have ed : ds.drop (ws.length - (i + 1)) = ds[ws.length - 1 - i] :: ds.drop (ws.length - i) := by
          have e1' : ws.length - (i + 1) = ws.length - 1 - i := by omega
          have e2' : ws.length - i = ws.length - 1 - i + 1 := by omega
          rw [e1', e2']
          exact List.drop_eq_getElem_cons hj
        rw [ed, List.cons_append, andT_cons (by simp)]
        have T4 := Same.tup (s3.trans s4)
        exact at_mny (SqT.of e4) (SqT.of (s4 _ _ e3)) (AtL.two ((atk.le (show n ≤ n + i by omega)).mono T4) (at2.mono T4)) (.inl rfl) (by simp)
      rintro σ H2 ⟨z, v, rfl, s2, at2⟩
      rw [Nat.sub_self, List.drop_zero] at at2
      simp at h8
      exact ⟨_, rfl, k _ v (s1.trans s2) (at2.le (by omega))⟩
end KK

set_option Elab.async false
set_option linter.all false
set_option maxRecDepth 100000
set_option maxHeartbeats 8000000
namespace KK
open PySem PySem.Spec L2 L3
def sp_or_of (K : PySem.W.Frag) (a : Adr) : Sp := fun vs H Q _ => ∃ (p : Addr) (us : List V) (cs : List Tr) (n : Nat), vs = [.ref p] ∧ H p = some (.lst us) ∧ AtL K n H us cs ∧ cs.length ≤ 8 ∧ 1 ≤ n ∧ ∀ H' v, Same H H' → At K (n + 24) H' v (orT cs) → Q v H'
theorem ok_or_of {P : Program} {w : World} {K : PySem.W.Frag} {mg : Str → Option Value} {base : Heap} {a : Adr} (T : Txt K mg a) (hw : w.params = a.Pm) : FnOk P w K mg base CX0 1 a.or_of a.or_of_fd ["cores"] (sp_or_of K a) := by
  refine T.f_or_of.ok sc_or_of (fun vs H Q E h => ?_) (fun cdv A outer s H vs Q E hr h => ?_)
  · obtain ⟨p, us, cs, n, rfl, _⟩ := h
    rfl
  · obtain ⟨p, us, cs, n, rfl, hp, aL, h8, hn, k⟩ := h
    refine ⟨_, (@pss_cons _ _ _ _ _ (@ps_if _ _ _ _ _ _ _ _ (@pt_not _ _ _ _ (pt_truthK (K := K) rfl (pv 0) (fun _ => rfl)))
      (@pss_one _ _ _ (@ps_ret _ _ _ _ (@pe_tup _ _ _ _ _ (@pa_cons _ _ _ _ _ pe_str
      (@pa_cons _ _ _ _ _ (pe_gc (v := .ref a.Y_YES) rfl ⟨_, T.g_YES, rfl⟩)
      pa_nil
      (by rfl))
      (by rfl)))))
      pss_nil)
      (@pss_cons _ _ _ _ _ (@ps_set _ _ (1) _ _ _ _ sc_or_of.nd
      rfl
      (by first | exact Or.inl rfl | exact Or.inr rfl)
      (@pe_ix _ _ _ _ _ _ _ (ix_listK (K := K) rfl)
      (pv 0)
      (pe_un un_neg pe_int)
      (fun _ _ => rfl))
      (by rfl)
      (by first | exact .inl rfl | exact .inr rfl | assumption))
      (@pss_cons _ _ _ _ _ (ps_for PassesOwn.never rfl (pi_revK (K := K) rfl rfl T.b_reversed (@pa_cons _ _ _ _ _ (pe_slice (sl_listK (K := K) rfl) (pv 0) po_none (po_some (pe_un un_neg pe_int)))
      pa_nil
      (by rfl))) (pg_name (i := 2) sc_or_of.nd rfl (by first | exact Or.inl rfl | exact Or.inr rfl)) (@pss_one _ _ _ (@ps_set _ _ (1) _ _ _ _ sc_or_of.nd
      rfl
      (by first | exact Or.inl rfl | exact Or.inr rfl)
      (@pe_tup _ _ _ _ _ (@pa_cons _ _ _ _ _ pe_str
      (@pa_cons _ _ _ _ _ (@pe_tup _ _ _ _ _ (@pa_cons _ _ _ _ _ pe_str
      (@pa_cons _ _ _ _ _ (@pe_tup _ _ _ _ _ (@pa_cons _ _ _ _ _ (@pe_tup _ _ _ _ _ (@pa_cons _ _ _ _ _ pe_str
      (@pa_cons _ _ _ _ _ (pv 2)
      pa_nil
      (by rfl))
      (by rfl)))
      (@pa_cons _ _ _ _ _ (@pe_tup _ _ _ _ _ (@pa_cons _ _ _ _ _ pe_str
      (@pa_cons _ _ _ _ _ (pv 1)
      pa_nil
      (by rfl))
      (by rfl)))
      pa_nil
      (by rfl))
      (by rfl)))
      pa_nil
      (by rfl))
      (by rfl)))
      pa_nil
      (by rfl))
      (by rfl)))
      (by rfl)
      (by first | exact .inl rfl | exact .inr rfl | assumption))))
      (@pss_one _ _ _ (@ps_ret _ _ _ _ (pv 1)))))), ?_⟩
    have hul := aL.1
    refine ⟨_, rfl, !us.isEmpty, .inl ⟨_, SqL.of hp, rfl⟩, ?_⟩
    cases hus : us.isEmpty with
    | true =>
      have e0 : us = [] := List.isEmpty_iff.mp hus
      subst e0
      have et : cs = [] := List.length_eq_zero_iff.mp hul.symm
      subst et
      refine iteT ⟨by rw [sizeLine_eq]; simp, fun t ht => ?_⟩
      have s4 := same_upd (o := .tup [.str "not", .ref a.Y_YES]) ht
      exact k _ _ s4 ((at_op1 (SqT.of upd_same) (by decide +kernel) (at_yes (T.y_YES _) : At K (0 + 1) _ _ nYes)).le (by omega))
    | false =>
      have hne : us ≠ [] := fun e => by rw [e] at hus; cases hus
      obtain ⟨ws, u, ds, d, ew, ed, aw, au⟩ := aL.last hne
      subst ew ed
      have hwl := aw.1
      refine iteF ?_
      refine ⟨_, rfl, 1, rfl, p, _, _, u, rfl, rfl, SqL.of hp, atI_last, ?_⟩
      refine ⟨_, rfl, 1, rfl, _, rfl, p, _, rfl, SqL.of hp, fun c hc => ?_⟩
      rw [cut_init _ (by simp)]
      have ec : (ws ++ [u]).take ((ws ++ [u]).length - 1) = ws := by simp
      rw [ec]
      have s1 := same_upd (o := .lst ws) hc
      have e1 : (upd H c (.lst ws)) c = some (.lst ws) := upd_same
      generalize upd H c (.lst ws) = H1 at s1 e1 ⊢
      refine ⟨c, ws, rfl, SqL.of e1, ?_⟩
      refine for_gen (J := Itv K c ws.length) (n := ws.length) (fun i σ H' => ∃ (z : Option V) (v : V), σ = [some (.ref p), some v, z] ∧ Same H1 H' ∧ At K (n + 3 * i) H' v (orT (ds.drop (ws.length - i) ++ [d]))) ?_ ?_ ?_ ?_ ?_
      · refine ⟨_, u, rfl, .refl _, ?_⟩
        rw [Nat.sub_zero, hwl, List.drop_length, List.nil_append]
        exact (au.mono (Same.tup s1)).le (by omega)
      · rintro i σ H' hi ⟨z, v, rfl, s', _⟩
        exact ⟨hi, ws, SqL.of (s' _ _ e1), rfl⟩
      · rintro σ H' _
        exact Nat.le_refl _
      · rintro i x σ H2 H2' hi ⟨z, v, rfl, s2, at2⟩ ⟨rfl, hx⟩
        have e := hx ws (SqL.of (s2 _ _ e1))
        have hj : ws.length - 1 - i < ds.length := by omega
        have atk := (aw.2 _ _ _ e (List.getElem?_eq_getElem hj)).mono (Same.tup (s1.trans s2))
        refine ⟨_, rfl, by rw [sizeLine_eq]; simp, fun t1 ht1 => ?_⟩
        have s3 := same_upd (o := .tup [.str "not", x]) ht1
        have e3 : (upd H2' t1 (.tup [.str "not", x])) t1 = some (.tup [.str "not", x]) := upd_same
        generalize upd H2' t1 (.tup [.str "not", x]) = H3 at s3 e3 ⊢
        refine ⟨_, rfl, by rw [sizeLine_eq]; simp, fun t2 ht2 => ?_⟩
        have s4 := same_upd (o := .tup [.str "not", v]) ht2
        have e4 : (upd H3 t2 (.tup [.str "not", v])) t2 = some (.tup [.str "not", v]) := upd_same
        generalize upd H3 t2 (.tup [.str "not", v]) = H4 at s4 e4 ⊢
        refine ⟨by rw [sizeLine_eq]; simp, fun b hb => ?_⟩
        have s5 := same_upd (o := .tup [.ref t1, .ref t2]) hb
        have e5 : (upd H4 b (.tup [.ref t1, .ref t2])) b = some (.tup [.ref t1, .ref t2]) := upd_same
        generalize upd H4 b (.tup [.ref t1, .ref t2]) = H5 at s5 e5 ⊢
        refine ⟨by rw [sizeLine_eq]; simp, fun t3 ht3 => ?_⟩
        have s6 := same_upd (o := .tup [.str "and", .ref b]) ht3
        have e6 : (upd H5 t3 (.tup [.str "and", .ref b])) t3 = some (.tup [.str "and", .ref b]) := upd_same
        generalize upd H5 t3 (.tup [.str "and", .ref b]) = H6 at s6 e6 ⊢
        refine ⟨by rw [sizeLine_eq]; simp, fun t4 ht4 => ?_⟩
        have s7 := same_upd (o := .tup [.str "not", .ref t3]) ht4
        have e7 : (upd H6 t4 (.tup [.str "not", .ref t3])) t4 = some (.tup [.str "not", .ref t3]) := upd_same
        generalize upd H6 t4 (.tup [.str "not", .ref t3]) = H7 at s7 e7 ⊢
        have s47 := s5.trans (s6.trans s7)
        refine ⟨_, .ref t4, rfl, s2.trans (s3.trans (s4.trans s47)), ?_⟩
        have ed : ds.drop (ws.length - (i + 1)) = ds[ws.length - 1 - i] :: ds.drop (ws.length - i) := by
          have e1' : ws.length - (i + 1) = ws.length - 1 - i := by omega
          have e2' : ws.length - i = ws.length - 1 - i + 1 := by omega
          rw [e1', e2']
          exact List.drop_eq_getElem_cons hj
        rw [ed, List.cons_append, orT_cons (by simp)]
        have T7 := Same.tup (s3.trans (s4.trans s47))
        have wn : ("not" : Str) ∈ W1 := by decide +kernel
        have q1 : At K (n + 3 * i + 1) H7 (.ref t1) (nNot ds[ws.length - 1 - i]) := at_op1 (SqT.of ((s4.trans s47) _ _ e3)) wn ((atk.le (by omega)).mono T7)
        have q2 : At K (n + 3 * i + 1) H7 (.ref t2) (nNot _) := at_op1 (SqT.of (s47 _ _ e4)) wn (at2.mono T7)
        exact at_op1 (SqT.of e7) wn (at_mny (SqT.of (s7 _ _ e6)) (SqT.of ((s6.trans s7) _ _ e5)) (AtL.two q1 q2) (.inl rfl) (by simp))
      rintro σ H2 ⟨z, v, rfl, s2, at2⟩
      rw [Nat.sub_self, List.drop_zero] at at2
      simp at h8
      exact ⟨_, rfl, k _ v (s1.trans s2) (at2.le (by omega))⟩
end KK

set_option Elab.async false
set_option linter.all false
set_option maxRecDepth 100000
set_option maxHeartbeats 8000000
namespace KK
open PySem PySem.Spec L2 L3
def sp_within_of (K : PySem.W.Frag) (a : Adr) : Sp := fun vs H Q _ => ∃ (m : Int) (f s : V) (tf ts : Tr) (n : Nat), vs = [.int m, f, s] ∧ (0 ≤ m ∧ m ≤ 5) ∧ At K n H f tf ∧ At K n H s ts ∧ ∀ H' v, Same H H' → At K (n + 25) H' v (withinT m.toNat tf ts) → Q v H'
theorem ok_within_of {P : Program} {w : World} {K : PySem.W.Frag} {mg : Str → Option Value} {base : Heap} {a : Adr} (T : Txt K mg a) (hw : w.params = a.Pm) : FnOk P w K mg base CX0 2 a.within_of a.within_of_fd ["turns", "first", "second"] (sp_within_of K a) := by
  have G_and_of := ok_and_of (P := P) (w := w) (base := base) T hw
  have G_or_of := ok_or_of (P := P) (w := w) (base := base) T hw
  refine T.f_within_of.ok sc_within_of (fun vs H Q E h => ?_) (fun cdv A outer s H vs Q E hr h => ?_)
  · obtain ⟨m, f, s, tf, ts, n, rfl, _⟩ := h
    rfl
  · obtain ⟨m, f, s, tf, ts, n, rfl, hm, af, as, k⟩ := h
    refine ⟨_, (@pss_cons _ _ _ _ _ (@ps_set _ _ (3) _ _ _ _ sc_within_of.nd
      rfl
      (by first | exact Or.inl rfl | exact Or.inr rfl)
      (pv 2)
      (by rfl)
      (by first | exact .inl rfl | exact .inr rfl | assumption))
      (@pss_cons _ _ _ _ _ (ps_for PassesOwn.never rfl (pi_range1 rfl T.b_range (@pa_cons _ _ _ _ _ (pv 0)
      pa_nil
      (by rfl))) (pg_name (i := 4) sc_within_of.nd rfl (by first | exact Or.inl rfl | exact Or.inr rfl)) (@pss_one _ _ _ (@ps_set _ _ (3) _ _ _ _ sc_within_of.nd
      rfl
      (by first | exact Or.inl rfl | exact Or.inr rfl)
      (pe_call G_or_of (hr.mono (by decide)) rfl T.g_or_of T.f_or_of.kp T.n_or_of .nil pass0 (@pa_cons _ _ _ _ _ (@pe_lst _ _ _ _ (@pa_cons _ _ _ _ _ (pv 2)
      (@pa_cons _ _ _ _ _ (pe_call G_and_of (hr.mono (by decide)) rfl T.g_and_of T.f_and_of.kp T.n_and_of .nil pass0 (@pa_cons _ _ _ _ _ (@pe_lst _ _ _ _ (@pa_cons _ _ _ _ _ (pv 1)
      (@pa_cons _ _ _ _ _ (@pe_tup _ _ _ _ _ (@pa_cons _ _ _ _ _ pe_str
      (@pa_cons _ _ _ _ _ (pv 3)
      pa_nil
      (by rfl))
      (by rfl)))
      pa_nil
      (by rfl))
      (by rfl)))
      pa_nil
      (by rfl)))
      pa_nil
      (by rfl))
      (by rfl)))
      pa_nil
      (by rfl)))
      (by rfl)
      (by first | exact .inl rfl | exact .inr rfl | assumption))))
      (@pss_one _ _ _ (@ps_ret _ _ _ _ (pv 3))))), ?_⟩
    have hf := af.hgt_le
    have hs := as.hgt_le
    have hn : 1 ≤ n := Nat.le_trans (hgt_pos ts) hs
    refine ⟨_, rfl, _, rfl, _, rfl, by omega, by omega, ?_⟩
    refine for_range (fun i σ H' => ∃ (z : Option V) (v : V), σ = [some (.int m), some f, some s, some v, z] ∧ Same H H' ∧ At K (n + 25) H' v (withinT i tf ts)) ?_ ?_ ?_
    · exact ⟨_, s, rfl, .refl _, as.le (by omega)⟩
    · rintro i σ H1 hi ⟨z, v, rfl, s1, at1⟩
      have hi' : i < m.toNat := hi
      have T1 := Same.tup s1
      refine ⟨_, rfl, _, rfl, _, rfl, by rw [sizeLine_eq]; simp, fun t ht => ?_⟩
      have s2 := same_upd (o := .tup [.str "next", v]) ht
      have e2 : (upd H1 t (.tup [.str "next", v])) t = some (.tup [.str "next", v]) := upd_same
      generalize upd H1 t (.tup [.str "next", v]) = H2 at s2 e2 ⊢
      refine ⟨by rw [sizeLine_eq]; simp, fun L hL => ?_⟩
      have s3 := same_upd (o := .lst [f, .ref t]) hL
      have e3 : (upd H2 L (.lst [f, .ref t])) L = some (.lst [f, .ref t]) := upd_same
      generalize upd H2 L (.lst [f, .ref t]) = H3 at s3 e3 ⊢
      have s13 := s1.trans (s2.trans s3)
      have q1 : At K (n + 26) H3 (.ref t) (nNext (withinT i tf ts)) := at_op1 (SqT.of (s3 _ _ e2)) (by decide +kernel) (at1.mono (Same.tup (s2.trans s3)))
      refine ⟨L, _, [tf, nNext (withinT i tf ts)], n + 26, rfl, e3, AtL.two ((af.le (by omega)).mono (Same.tup s13)) q1, by simp, by omega, fun H4 v4 s4 at4 => ?_⟩
      refine ⟨by rw [sizeLine_eq]; simp, fun L2' hL2 => ?_⟩
      have s5 := same_upd (o := .lst [s, v4]) hL2
      have e5 : (upd H4 L2' (.lst [s, v4])) L2' = some (.lst [s, v4]) := upd_same
      generalize upd H4 L2' (.lst [s, v4]) = H5 at s5 e5 ⊢
      have s15 := s13.trans (s4.trans s5)
      refine ⟨L2', _, [ts, andT [tf, nNext (withinT i tf ts)]], n + 34, rfl, e5, AtL.two ((as.le (by omega)).mono (Same.tup s15)) (at4.mono (Same.tup s5)), by simp, by omega, fun H6 v6 s6 at6 => ?_⟩
      refine ⟨_, v6, rfl, s15.trans s6, ?_⟩
      have e6 : orT [ts, andT [tf, nNext (withinT i tf ts)]] = withinT (i + 1) tf ts := rfl
      rw [e6] at at6
      refine at6.fit ?_
      have := hgt_within hf hs (i + 1)
      omega
    rintro σ H1 ⟨z, v, rfl, s1, at1⟩
    exact ⟨_, rfl, k _ v s1 at1⟩
end KK

set_option Elab.async false
set_option linter.all false
set_option maxRecDepth 100000
set_option maxHeartbeats 8000000
namespace KK
open PySem PySem.Spec L2 L3
def sp_core_with (K : PySem.W.Frag) (a : Adr) : Sp := fun vs H Q _ => ∃ (v : V) (c : Lb) (ks : List Tr) (n : Nat) (p : Addr) (us : List V) (cs : List Tr) (m : Nat), vs = [v, .ref p] ∧ At K n H v (.node c ks) ∧ H p = some (.lst us) ∧ AtL K m H us cs ∧ cs.length = ks.length ∧ 1 ≤ m ∧ ∀ H' v', Same H H' → At K (m + 27) H' v' (coreF c cs) → Q v' H'
theorem AtL.first {K : PySem.W.Frag} {n : Nat} {H : Hp} {us : List V} {cs : List Tr} (h : AtL K n H us cs) (hl : 1 ≤ cs.length) : ∃ u ur c cr, us = u :: ur ∧ cs = c :: cr ∧ At K n H u c := by
  have hu := h.1
  match us, cs, h, hl, hu with
  | u :: ur, c :: cr, h, _, _ => exact ⟨u, ur, c, cr, rfl, rfl, h.2 0 u c rfl rfl⟩
  | [], c :: cr, h, _, hu => simp at hu
theorem AtL.pair {K : PySem.W.Frag} {n : Nat} {H : Hp} {us : List V} {cs : List Tr} (h : AtL K n H us cs) (hl : cs.length = 2) : ∃ u v c d, us = [u, v] ∧ cs = [c, d] ∧ At K n H u c ∧ At K n H v d := by
  have hu := h.1
  match us, cs, h, hl, hu with
  | [u, v], [c, d], h, _, _ => exact ⟨u, v, c, d, rfl, rfl, h.2 0 u c rfl rfl, h.2 1 v d rfl rfl⟩
  | [], [c, d], h, _, hu => simp at hu
  | [u], [c, d], h, _, hu => simp at hu
  | u :: v :: w :: r, [c, d], h, _, hu => simp at hu
theorem ok_core_with {P : Program} {w : World} {K : PySem.W.Frag} {mg : Str → Option Value} {base : Heap} {a : Adr} (T : Txt K mg a) (hw : w.params = a.Pm) : FnOk P w K mg base CX0 3 a.core_with a.core_with_fd ["sentence", "inner"] (sp_core_with K a) := by
  have G_and_of := ok_and_of (P := P) (w := w) (base := base) T hw
  have G_or_of := ok_or_of (P := P) (w := w) (base := base) T hw
  have G_within_of := ok_within_of (P := P) (w := w) (base := base) T hw
  refine T.f_core_with.ok sc_core_with (fun vs H Q E h => ?_) (fun cdv A outer s H vs Q E hr h => ?_)
  · obtain ⟨v, c, ks, n, p, us, cs, m, rfl, _⟩ := h
    rfl
  · obtain ⟨v, c, ks, n, p, us, cs, m, rfl, hat, hp, aL, hcl, hm, k⟩ := h
    refine ⟨_, (@pss_cons _ _ _ _ _ (@ps_set _ _ (2) _ _ _ _ sc_core_with.nd
      rfl
      (by first | exact Or.inl rfl | exact Or.inr rfl)
      (@pe_ix _ _ _ _ _ _ _ (ix_tupK (K := K) rfl)
      (pv 0)
      pe_int
      (fun _ _ => rfl))
      (by rfl)
      (by first | exact .inl rfl | exact .inr rfl | assumption))
      (@pss_cons _ _ _ _ _ (@ps_if _ _ _ _ _ _ _ _ (@pt_cmpR _ _ _ _ _ _ _ _ (op_inK (K := K) rfl)
      (pv 2)
      (@pe_tup _ _ _ _ _ (@pa_cons _ _ _ _ _ pe_str
      (@pa_cons _ _ _ _ _ pe_str
      pa_nil
      (by rfl))
      (by rfl)))
      (by with_unfolding_all rfl))
      (@pss_one _ _ _ (@ps_ret _ _ _ _ (pv 0)))
      pss_nil)
      (@pss_cons _ _ _ _ _ (@ps_if _ _ _ _ _ _ _ _ (@pt_cmpR _ _ _ _ _ _ _ _ op_eq
      (pv 2)
      pe_str
      (nomark _))
      (@pss_one _ _ _ (@ps_ret _ _ _ _ (pe_call G_and_of (hr.mono (by decide)) rfl T.g_and_of T.f_and_of.kp T.n_and_of .nil pass0 (@pa_cons _ _ _ _ _ (pv 1)
      pa_nil
      (by rfl)))))
      pss_nil)
      (@pss_cons _ _ _ _ _ (@ps_if _ _ _ _ _ _ _ _ (@pt_cmpR _ _ _ _ _ _ _ _ op_eq
      (pv 2)
      pe_str
      (nomark _))
      (@pss_one _ _ _ (@ps_ret _ _ _ _ (pe_call G_or_of (hr.mono (by decide)) rfl T.g_or_of T.f_or_of.kp T.n_or_of .nil pass0 (@pa_cons _ _ _ _ _ (pv 1)
      pa_nil
      (by rfl)))))
      pss_nil)
      (@pss_cons _ _ _ _ _ (@ps_if _ _ _ _ _ _ _ _ (@pt_cmpR _ _ _ _ _ _ _ _ op_eq
      (pv 2)
      pe_str
      (nomark _))
      (@pss_one _ _ _ (@ps_ret _ _ _ _ (@pe_tup _ _ _ _ _ (@pa_cons _ _ _ _ _ pe_str
      (@pa_cons _ _ _ _ _ (@pe_tup _ _ _ _ _ (@pa_cons _ _ _ _ _ pe_str
      (@pa_cons _ _ _ _ _ (@pe_tup _ _ _ _ _ (@pa_cons _ _ _ _ _ pe_str
      (@pa_cons _ _ _ _ _ (@pe_ix _ _ _ _ _ _ _ (ix_listK (K := K) rfl)
      (pv 1)
      pe_int
      (fun _ _ => rfl))
      pa_nil
      (by rfl))
      (by rfl)))
      pa_nil
      (by rfl))
      (by rfl)))
      pa_nil
      (by rfl))
      (by rfl)))))
      pss_nil)
      (@pss_cons _ _ _ _ _ (@ps_if _ _ _ _ _ _ _ _ (@pt_cmpR _ _ _ _ _ _ _ _ op_eq
      (pv 2)
      pe_str
      (nomark _))
      (@pss_one _ _ _ (@ps_ret _ _ _ _ (@pe_tup _ _ _ _ _ (@pa_c _ _ _ _ _ pe_str
      (@pa_c _ _ _ _ _ (pe_gc (v := .ref a.Y_YES) rfl ⟨_, T.g_YES, rfl⟩)
      (@pa_c _ _ _ _ _ (@pe_ix _ _ _ _ _ _ _ (ix_listK (K := K) rfl)
      (pv 1)
      pe_int
      (fun _ _ => rfl))
      pa_nil
      (by rfl))
      (by rfl))
      (by rfl)))))
      pss_nil)
      (@pss_cons _ _ _ _ _ (@ps_if _ _ _ _ _ _ _ _ (@pt_cmpR _ _ _ _ _ _ _ _ op_eq
      (pv 2)
      pe_str
      (nomark _))
      (@pss_one _ _ _ (@ps_ret _ _ _ _ (@pe_tup _ _ _ _ _ (@pa_cons _ _ _ _ _ pe_str
      (@pa_cons _ _ _ _ _ (@pe_tup _ _ _ _ _ (@pa_c _ _ _ _ _ pe_str
      (@pa_c _ _ _ _ _ (pe_gc (v := .ref a.Y_YES) rfl ⟨_, T.g_YES, rfl⟩)
      (@pa_c _ _ _ _ _ (@pe_tup _ _ _ _ _ (@pa_cons _ _ _ _ _ pe_str
      (@pa_cons _ _ _ _ _ (@pe_ix _ _ _ _ _ _ _ (ix_listK (K := K) rfl)
      (pv 1)
      pe_int
      (fun _ _ => rfl))
      pa_nil
      (by rfl))
      (by rfl)))
      pa_nil
      (by rfl))
      (by rfl))
      (by rfl)))
      pa_nil
      (by rfl))
      (by rfl)))))
      pss_nil)
      (@pss_cons _ _ _ _ _ (@ps_if _ _ _ _ _ _ _ _ (@pt_cmpR _ _ _ _ _ _ _ _ op_eq
      (pv 2)
      pe_str
      (nomark _))
      (@pss_one _ _ _ (@ps_ret _ _ _ _ (@pe_tup _ _ _ _ _ (@pa_c _ _ _ _ _ pe_str
      (@pa_c _ _ _ _ _ (pe_gc (v := .ref a.Y_YES) rfl ⟨_, T.g_YES, rfl⟩)
      (@pa_c _ _ _ _ _ (@pe_ix _ _ _ _ _ _ _ (ix_listK (K := K) rfl)
      (pv 1)
      pe_int
      (fun _ _ => rfl))
      pa_nil
      (by rfl))
      (by rfl))
      (by rfl)))))
      pss_nil)
      (@pss_cons _ _ _ _ _ (@ps_if _ _ _ _ _ _ _ _ (@pt_cmpR _ _ _ _ _ _ _ _ op_eq
      (pv 2)
      pe_str
      (nomark _))
      (@pss_one _ _ _ (@ps_ret _ _ _ _ (@pe_tup _ _ _ _ _ (@pa_cons _ _ _ _ _ pe_str
      (@pa_cons _ _ _ _ _ (@pe_tup _ _ _ _ _ (@pa_c _ _ _ _ _ pe_str
      (@pa_c _ _ _ _ _ (pe_gc (v := .ref a.Y_YES) rfl ⟨_, T.g_YES, rfl⟩)
      (@pa_c _ _ _ _ _ (@pe_tup _ _ _ _ _ (@pa_cons _ _ _ _ _ pe_str
      (@pa_cons _ _ _ _ _ (@pe_ix _ _ _ _ _ _ _ (ix_listK (K := K) rfl)
      (pv 1)
      pe_int
      (fun _ _ => rfl))
      pa_nil
      (by rfl))
      (by rfl)))
      pa_nil
      (by rfl))
      (by rfl))
      (by rfl)))
      pa_nil
      (by rfl))
      (by rfl)))))
      pss_nil)
      (@pss_cons _ _ _ _ _ (@ps_if _ _ _ _ _ _ _ _ (@pt_cmpR _ _ _ _ _ _ _ _ op_eq
      (pv 2)
      pe_str
      (nomark _))
      (@pss_one _ _ _ (@ps_ret _ _ _ _ (pe_call G_within_of (hr.mono (by decide)) rfl T.g_within_of T.f_within_of.kp T.n_within_of .nil pass0 (@pa_c _ _ _ _ _ (@pe_ix _ _ _ _ _ _ _ (ix_tupK (K := K) rfl)
      (pv 0)
      pe_int
      (fun _ _ => rfl))
      (@pa_c _ _ _ _ _ (@pe_ix _ _ _ _ _ _ _ (ix_listK (K := K) rfl)
      (pv 1)
      pe_int
      (fun _ _ => rfl))
      (@pa_c _ _ _ _ _ (@pe_ix _ _ _ _ _ _ _ (ix_listK (K := K) rfl)
      (pv 1)
      pe_int
      (fun _ _ => rfl))
      pa_nil
      (by rfl))
      (by rfl))
      (by rfl)))))
      pss_nil)
      (@pss_one _ _ _ (@ps_ret _ _ _ _ (@pe_op _ _ _ _ _ _ _ _ (op_catTK (K := K) rfl)
      (@pe_tup _ _ _ _ _ (@pa_cons _ _ _ _ _ (pv 2)
      pa_nil
      (by rfl)))
      (pe_callTy (call_tupleK (K := K) rfl) rfl T.b_tuple PyProof.Rows.Boot.«tuple» (@pa_cons _ _ _ _ _ (pv 1)
      pa_nil
      (by rfl)))))))))))))))), ?_⟩
    cases n with
    | zero => exact hat.elim
    | succ n =>
      obtain ⟨ad, us0, rfl, sh, ok, hl0, hq0⟩ := hat
      have hul := aL.1
      obtain ⟨xs, e⟩ := sh.tup
      refine ⟨_, rfl, ad, _, _, _, rfl, rfl, e, atI_nat (j := 0) rfl, ?_⟩
      refine ⟨_, rfl, by rw [sizeLine_eq]; simp, fun q hq => ⟨q, _, rfl, .inr (SqT.of upd_same), rfl, rfl, _, rfl, ?_⟩⟩
      have s1 := same_upd (o := .tup [.str "yes", .str "sign"]) hq
      generalize upd H q (.tup [.str "yes", .str "sign"]) = H1 at s1 ⊢
      have sh1 := sh.mono (Same.tup s1)
      have aL1 := aL.mono (Same.tup s1)
      have hp1 := s1 _ _ hp
      have wn : ("not" : Str) ∈ W1 := by decide +kernel
      clear e xs sh hq0
      revert sh1 ok
      cases c with
      | yes =>
        intro ok sh
        exact iteIn (ss := ["yes", "sign"]) (show ("yes" : Str) ∈ (["yes", "sign"] : List Str) by decide +kernel) ⟨_, rfl, k _ _ s1 ((at_yes sh.2 : At K (0 + 1) H1 _ nYes).le (by omega))⟩
      | sign z =>
        intro ok sh
        exact iteIn (ss := ["yes", "sign"]) (show ("sign" : Str) ∈ (["yes", "sign"] : List Str) by decide +kernel) ⟨_, rfl, k _ _ s1 ((at_sign sh.2 ok.2 : At K (0 + 1) H1 _ (.node (.sign z) [])).le (by omega))⟩
      | many w =>
        intro ok sh
        have hw0 : w ∈ (["and", "or"] : List Str) := by rcases ok.1 with rfl | rfl <;> simp
        have hk8 : cs.length ≤ 8 := by rw [hcl]; exact ok.2
        refine iteNin (ss := ["yes", "sign"]) (many_words w hw0).2.2.2.1 ?_
        rcases ok.1 with rfl | rfl
        · refine ⟨_, rfl, rfl, _, rfl, iteD rfl ?_⟩
          exact ⟨_, rfl, p, us, cs, m, rfl, hp1, aL1, hk8, hm, fun H2 v2 s2 at2 => k _ _ (s1.trans s2) (at2.le (by omega))⟩
        · refine ⟨_, rfl, rfl, _, rfl, iteN (fun z => (by decide +kernel : ¬ (("or" : Str) = "and")) (V.str.inj z)) ?_⟩
          refine ⟨_, rfl, rfl, _, rfl, iteD rfl ?_⟩
          exact ⟨_, rfl, p, us, cs, m, rfl, hp1, aL1, hk8, hm, fun H2 v2 s2 at2 => k _ _ (s1.trans s2) (at2.le (by omega))⟩
      | wit j =>
        intro ok sh
        refine iteNin (ss := ["yes", "sign"]) (show ("within" : Str) ∉ (["yes", "sign"] : List Str) by decide +kernel) ?_
        refine ⟨_, rfl, rfl, _, rfl, iteN (fun z => (by decide +kernel : ¬ (("within" : Str) = "and")) (V.str.inj z)) ?_⟩
        refine ⟨_, rfl, rfl, _, rfl, iteN (fun z => (by decide +kernel : ¬ (("within" : Str) = "or")) (V.str.inj z)) ?_⟩
        refine ⟨_, rfl, rfl, _, rfl, iteN (fun z => (by decide +kernel : ¬ (("within" : Str) = "all")) (V.str.inj z)) ?_⟩
        refine ⟨_, rfl, rfl, _, rfl, iteN (fun z => (by decide +kernel : ¬ (("within" : Str) = "ever")) (V.str.inj z)) ?_⟩
        refine ⟨_, rfl, rfl, _, rfl, iteN (fun z => (by decide +kernel : ¬ (("within" : Str) = "always")) (V.str.inj z)) ?_⟩
        refine ⟨_, rfl, rfl, _, rfl, iteN (fun z => (by decide +kernel : ¬ (("within" : Str) = "once")) (V.str.inj z)) ?_⟩
        refine ⟨_, rfl, rfl, _, rfl, iteN (fun z => (by decide +kernel : ¬ (("within" : Str) = "sofar")) (V.str.inj z)) ?_⟩
        refine ⟨_, rfl, rfl, _, rfl, iteD rfl ?_⟩
        obtain ⟨u0, u1, c0, c1, rfl, rfl, a0, a1⟩ := AtL.pair aL1 (by rw [hcl]; exact ok.2)
        exact ⟨_, rfl, ad, _, _, _, rfl, rfl, sh, atI_nat (j := 1) rfl, _, rfl, p, _, _, u0, rfl, rfl, SqL.of hp1, atI_nat (j := 0) rfl, _, rfl, p, _, _, u1, rfl, rfl, SqL.of hp1, atI_nat (j := 1) rfl, j, u0, u1, c0, c1, m, rfl, ok.1, a0, a1, fun H2 v2 s2 at2 => k _ _ (s1.trans s2) (at2.le (by omega))⟩
      | op w =>
        intro ok sh
        obtain ⟨h1, h2, h3, h4, h5⟩ := op_words w (by rcases ok with ok | ok; exact List.mem_append_left _ ok.1; exact List.mem_append_right _ ok.1)
        have hlen : 1 ≤ cs.length := by
          rw [hcl]
          rcases ok with o | o
          · have h0 : ks.length = 1 := o.2
            omega
          · have h0 : ks.length = 2 := o.2
            omega
        have hlen2 : cs.length ≤ 2 := by
          rw [hcl]
          rcases ok with o | o
          · have h0 : ks.length = 1 := o.2
            omega
          · have h0 : ks.length = 2 := o.2
            omega
        obtain ⟨u0, ur, c0, cr, rfl, rfl, a0⟩ := AtL.first aL1 hlen
        refine iteNin (ss := ["yes", "sign"]) h5 ?_
        refine ⟨_, rfl, rfl, _, rfl, iteN (fun z => h3 (by have ez : w = "and" := V.str.inj z; rw [ez]; simp)) ?_⟩
        refine ⟨_, rfl, rfl, _, rfl, iteN (fun z => h3 (by have ez : w = "or" := V.str.inj z; rw [ez]; simp)) ?_⟩
        by_cases n1 : w = "all"
        · subst n1
          refine ⟨_, rfl, rfl, _, rfl, iteD rfl ?_⟩
          refine ⟨_, rfl, p, _, _, u0, rfl, rfl, SqL.of hp1, atI_nat (j := 0) rfl, by rw [sizeLine_eq]; simp, fun t1 ht1 => ?_⟩
          have s2 := same_upd (o := .tup [.str "not", u0]) ht1
          have e2 : (upd H1 t1 (.tup [.str "not", u0])) t1 = some (.tup [.str "not", u0]) := upd_same
          generalize upd H1 t1 (.tup [.str "not", u0]) = H2 at s2 e2 ⊢
          refine ⟨by rw [sizeLine_eq]; simp, fun t2 ht2 => ?_⟩
          have s3 := same_upd (o := .tup [.str "some", .ref t1]) ht2
          have e3 : (upd H2 t2 (.tup [.str "some", .ref t1])) t2 = some (.tup [.str "some", .ref t1]) := upd_same
          generalize upd H2 t2 (.tup [.str "some", .ref t1]) = H3 at s3 e3 ⊢
          refine ⟨by rw [sizeLine_eq]; simp, fun t3 ht3 => ?_⟩
          have s4 := same_upd (o := .tup [.str "not", .ref t2]) ht3
          have e4 : (upd H3 t3 (.tup [.str "not", .ref t2])) t3 = some (.tup [.str "not", .ref t2]) := upd_same
          generalize upd H3 t3 (.tup [.str "not", .ref t2]) = H4 at s4 e4 ⊢
          have q1 : At K (m + 1) H4 (.ref t1) (nNot c0) := at_op1 (SqT.of ((s3.trans s4) _ _ e2)) wn (a0.mono (Same.tup (s2.trans (s3.trans s4))))
          have q2 : At K (m + 2) H4 (.ref t2) (nSome (nNot c0)) := at_op1 (SqT.of (s4 _ _ e3)) (by decide +kernel) q1
          exact k _ _ (s1.trans (s2.trans (s3.trans s4))) ((at_op1 (SqT.of e4) wn q2 : At K (m + 3) H4 _ (nNot (nSome (nNot c0)))).le (by omega))
        refine ⟨_, rfl, rfl, _, rfl, iteN (fun z => n1 (V.str.inj z)) ?_⟩
        by_cases n2 : w = "ever"
        · subst n2
          refine ⟨_, rfl, rfl, _, rfl, iteD rfl ?_⟩
          refine ⟨_, rfl, p, _, _, u0, rfl, rfl, SqL.of hp1, atI_nat (j := 0) rfl, by rw [sizeLine_eq]; simp, fun t1 ht1 => ?_⟩
          have s2 := same_upd (o := .tup [.str "until", .ref a.Y_YES, u0]) ht1
          have e2 : (upd H1 t1 (.tup [.str "until", .ref a.Y_YES, u0])) t1 = some (.tup [.str "until", .ref a.Y_YES, u0]) := upd_same
          generalize upd H1 t1 (.tup [.str "until", .ref a.Y_YES, u0]) = H2 at s2 e2 ⊢
          exact k _ _ (s1.trans s2) ((at_op2 (SqT.of e2) (by decide +kernel) ((at_yes (T.y_YES _) : At K (0 + 1) H2 _ nYes).le (show 1 ≤ m from hm)) (a0.mono (Same.tup s2)) : At K (m + 1) H2 _ (.node (.op "until") [nYes, c0])).le (by omega))
        refine ⟨_, rfl, rfl, _, rfl, iteN (fun z => n2 (V.str.inj z)) ?_⟩
        by_cases n3 : w = "always"
        · subst n3
          refine ⟨_, rfl, rfl, _, rfl, iteD rfl ?_⟩
          refine ⟨_, rfl, p, _, _, u0, rfl, rfl, SqL.of hp1, atI_nat (j := 0) rfl, by rw [sizeLine_eq]; simp, fun t1 ht1 => ?_⟩
          have s2 := same_upd (o := .tup [.str "not", u0]) ht1
          have e2 : (upd H1 t1 (.tup [.str "not", u0])) t1 = some (.tup [.str "not", u0]) := upd_same
          generalize upd H1 t1 (.tup [.str "not", u0]) = H2 at s2 e2 ⊢
          refine ⟨by rw [sizeLine_eq]; simp, fun t2 ht2 => ?_⟩
          have s3 := same_upd (o := .tup [.str "until", .ref a.Y_YES, .ref t1]) ht2
          have e3 : (upd H2 t2 (.tup [.str "until", .ref a.Y_YES, .ref t1])) t2 = some (.tup [.str "until", .ref a.Y_YES, .ref t1]) := upd_same
          generalize upd H2 t2 (.tup [.str "until", .ref a.Y_YES, .ref t1]) = H3 at s3 e3 ⊢
          refine ⟨by rw [sizeLine_eq]; simp, fun t3 ht3 => ?_⟩
          have s4 := same_upd (o := .tup [.str "not", .ref t2]) ht3
          have e4 : (upd H3 t3 (.tup [.str "not", .ref t2])) t3 = some (.tup [.str "not", .ref t2]) := upd_same
          generalize upd H3 t3 (.tup [.str "not", .ref t2]) = H4 at s4 e4 ⊢
          have q1 : At K (m + 1) H4 (.ref t1) (nNot c0) := at_op1 (SqT.of ((s3.trans s4) _ _ e2)) wn (a0.mono (Same.tup (s2.trans (s3.trans s4))))
          have q2 : At K (m + 2) H4 (.ref t2) (.node (.op "until") [nYes, nNot c0]) := at_op2 (SqT.of (s4 _ _ e3)) (by decide +kernel) ((at_yes (T.y_YES _) : At K (0 + 1) H4 _ nYes).le (by omega)) q1
          exact k _ _ (s1.trans (s2.trans (s3.trans s4))) ((at_op1 (SqT.of e4) wn q2 : At K (m + 3) H4 _ (nNot (.node (.op "until") [nYes, nNot c0]))).le (by omega))
        refine ⟨_, rfl, rfl, _, rfl, iteN (fun z => n3 (V.str.inj z)) ?_⟩
        by_cases n4 : w = "once"
        · subst n4
          refine ⟨_, rfl, rfl, _, rfl, iteD rfl ?_⟩
          refine ⟨_, rfl, p, _, _, u0, rfl, rfl, SqL.of hp1, atI_nat (j := 0) rfl, by rw [sizeLine_eq]; simp, fun t1 ht1 => ?_⟩
          have s2 := same_upd (o := .tup [.str "since", .ref a.Y_YES, u0]) ht1
          have e2 : (upd H1 t1 (.tup [.str "since", .ref a.Y_YES, u0])) t1 = some (.tup [.str "since", .ref a.Y_YES, u0]) := upd_same
          generalize upd H1 t1 (.tup [.str "since", .ref a.Y_YES, u0]) = H2 at s2 e2 ⊢
          exact k _ _ (s1.trans s2) ((at_op2 (SqT.of e2) (by decide +kernel) ((at_yes (T.y_YES _) : At K (0 + 1) H2 _ nYes).le (show 1 ≤ m from hm)) (a0.mono (Same.tup s2)) : At K (m + 1) H2 _ (.node (.op "since") [nYes, c0])).le (by omega))
        refine ⟨_, rfl, rfl, _, rfl, iteN (fun z => n4 (V.str.inj z)) ?_⟩
        by_cases n5 : w = "sofar"
        · subst n5
          refine ⟨_, rfl, rfl, _, rfl, iteD rfl ?_⟩
          refine ⟨_, rfl, p, _, _, u0, rfl, rfl, SqL.of hp1, atI_nat (j := 0) rfl, by rw [sizeLine_eq]; simp, fun t1 ht1 => ?_⟩
          have s2 := same_upd (o := .tup [.str "not", u0]) ht1
          have e2 : (upd H1 t1 (.tup [.str "not", u0])) t1 = some (.tup [.str "not", u0]) := upd_same
          generalize upd H1 t1 (.tup [.str "not", u0]) = H2 at s2 e2 ⊢
          refine ⟨by rw [sizeLine_eq]; simp, fun t2 ht2 => ?_⟩
          have s3 := same_upd (o := .tup [.str "since", .ref a.Y_YES, .ref t1]) ht2
          have e3 : (upd H2 t2 (.tup [.str "since", .ref a.Y_YES, .ref t1])) t2 = some (.tup [.str "since", .ref a.Y_YES, .ref t1]) := upd_same
          generalize upd H2 t2 (.tup [.str "since", .ref a.Y_YES, .ref t1]) = H3 at s3 e3 ⊢
          refine ⟨by rw [sizeLine_eq]; simp, fun t3 ht3 => ?_⟩
          have s4 := same_upd (o := .tup [.str "not", .ref t2]) ht3
          have e4 : (upd H3 t3 (.tup [.str "not", .ref t2])) t3 = some (.tup [.str "not", .ref t2]) := upd_same
          generalize upd H3 t3 (.tup [.str "not", .ref t2]) = H4 at s4 e4 ⊢
          have q1 : At K (m + 1) H4 (.ref t1) (nNot c0) := at_op1 (SqT.of ((s3.trans s4) _ _ e2)) wn (a0.mono (Same.tup (s2.trans (s3.trans s4))))
          have q2 : At K (m + 2) H4 (.ref t2) (.node (.op "since") [nYes, nNot c0]) := at_op2 (SqT.of (s4 _ _ e3)) (by decide +kernel) ((at_yes (T.y_YES _) : At K (0 + 1) H4 _ nYes).le (by omega)) q1
          exact k _ _ (s1.trans (s2.trans (s3.trans s4))) ((at_op1 (SqT.of e4) wn q2 : At K (m + 3) H4 _ (nNot (.node (.op "since") [nYes, nNot c0]))).le (by omega))
        refine ⟨_, rfl, rfl, _, rfl, iteN (fun z => n5 (V.str.inj z)) ?_⟩
        refine ⟨_, rfl, rfl, _, rfl, iteN (fun z => h4 (V.str.inj z)) ?_⟩
        -- the word stays
        have hW : wordL (Tr.node (.op w) ks).lb = w := rfl
        rw [hW]
        refine ⟨_, rfl, by rw [sizeLine_eq]; simp, fun t1 ht1 => ?_⟩
        have s2 := same_upd (o := .tup [.str w]) ht1
        have e2 : (upd H1 t1 (.tup [.str w])) t1 = some (.tup [.str w]) := upd_same
        generalize upd H1 t1 (.tup [.str w]) = H2 at s2 e2 ⊢
        refine ⟨_, rfl, p, _, rfl, .inl ⟨SqL.of (s2 _ _ hp1), fun b hb => ?_⟩⟩
        have s3 := same_upd (o := .tup (u0 :: ur)) hb
        have e3 : (upd H2 b (.tup (u0 :: ur))) b = some (.tup (u0 :: ur)) := upd_same
        generalize upd H2 b (.tup (u0 :: ur)) = H3 at s3 e3 ⊢
        refine ⟨t1, b, _, _, rfl, rfl, SqT.of (s3 _ _ e2), SqT.of e3, by simp, by rw [sizeLine_eq]; simp at hul hlen2 ⊢; omega, (fun z => by cases z), fun _ r hr => ?_⟩
        have s4 := same_upd (o := .tup ([.str w] ++ (u0 :: ur))) hr
        have aL4 := aL1.mono (Same.tup (s2.trans (s3.trans s4)))
        have ef : coreF (.op w) (c0 :: cr) = .node (.op w) (c0 :: cr) := by
          unfold coreF
          dsimp only
          rw [if_neg n1, if_neg n2, if_neg n3, if_neg n4, if_neg n5]
        refine k _ _ (s1.trans (s2.trans (s3.trans s4))) ?_
        rw [ef]
        refine At.le (n := m + 1) ⟨r, u0 :: ur, rfl, SqT.of upd_same, ?_, hul, aL4.2⟩ (by omega)
        show lbOk (.op w) (c0 :: cr).length
        rw [hcl]
        exact ok
end KK

set_option Elab.async false
set_option linter.all false
set_option maxRecDepth 100000
set_option maxHeartbeats 8000000
namespace KK
open PySem PySem.Spec L2 L3
theorem AtL.take {K : PySem.W.Frag} {n : Nat} {H : Hp} {us : List V} {cs : List Tr} (h : AtL K n H us cs) (m : Nat) : AtL K n H (us.take m) (cs.take m) := by
  refine ⟨by rw [List.length_take, List.length_take, h.1], fun i u k h1 h2 => ?_⟩
  rw [List.getElem?_take] at h1 h2
  split at h1
  · rename_i hi
    rw [if_pos hi] at h2
    exact h.2 i u k h1 h2
  · cases h1
theorem AtL.drop {K : PySem.W.Frag} {n : Nat} {H : Hp} {us : List V} {cs : List Tr} (h : AtL K n H us cs) (m : Nat) : AtL K n H (us.drop m) (cs.drop m) := by
  refine ⟨by rw [List.length_drop, List.length_drop, h.1], fun i u k h1 h2 => ?_⟩
  rw [List.getElem?_drop] at h1 h2
  exact h.2 _ u k h1 h2
def sp_core_of (K : PySem.W.Frag) (a : Adr) : Sp := fun vs H Q _ => ∃ (v : V) (t : Tr) (n : Nat), vs = [v] ∧ At K n H v t ∧ (post t).length ≤ 2000000 ∧ ∀ H' v', Same H H' → At K (28 * n) H' v' (coreT t) → Q v' H'
theorem ok_core_of {P : Program} {w : World} {K : PySem.W.Frag} {mg : Str → Option Value} {base : Heap} {a : Adr} (T : Txt K mg a) (hw : w.params = a.Pm) : FnOk P w K mg base CX0 4 a.core_of a.core_of_fd ["sentence"] (sp_core_of K a) := by
  have G_last_ones := ok_last_ones (P := P) (w := w) (base := base) T hw
  have G_inner_of := ok_inner_of (P := P) (w := w) (base := base) T hw
  have G_inner_ahead := ok_inner_ahead (P := P) (w := w) (base := base) T hw
  have G_core_with := ok_core_with (P := P) (w := w) (base := base) T hw
  refine T.f_core_of.ok sc_core_of (fun vs H Q E h => ?_) (fun cdv A outer s H vs Q E hr h => ?_)
  · obtain ⟨v, t, n, rfl, _⟩ := h
    rfl
  · obtain ⟨v, t, n, rfl, hat, hz, k⟩ := h
    refine ⟨_, (@pss_cons _ _ _ _ _ (@ps_set _ _ (1) _ _ _ _ sc_core_of.nd
      rfl
      (by first | exact Or.inl rfl | exact Or.inr rfl)
      (@pe_lst _ _ _ _ pa_nil)
      (by rfl)
      (by first | exact .inl rfl | exact .inr rfl | assumption))
      (@pss_cons _ _ _ _ _ (ps_for PassesOwn.never rfl (pi_listK (K := K) rfl (pe_call G_inner_ahead (hr.mono (by decide)) rfl T.g_inner_ahead T.f_inner_ahead.kp T.n_inner_ahead .nil pass0 (@pa_cons _ _ _ _ _ (pv 0)
      pa_nil
      (by rfl)))) (pg_name (i := 2) sc_core_of.nd rfl (by first | exact Or.inl rfl | exact Or.inr rfl)) (@pss_cons _ _ _ _ _ (@ps_set _ _ (3) _ _ _ _ sc_core_of.nd
      rfl
      (by first | exact Or.inl rfl | exact Or.inr rfl)
      (pe_call G_last_ones (hr.mono (by decide)) rfl T.g_last_ones T.f_last_ones.kp T.n_last_ones .nil pass0 (@pa_cons _ _ _ _ _ (pv 1)
      (@pa_cons _ _ _ _ _ (pe_callB (call_lenK (K := K) rfl) rfl T.b_len PyProof.Rows.Boot.«len» (@pa_cons _ _ _ _ _ (pe_call G_inner_of (hr.mono (by decide)) rfl T.g_inner_of T.f_inner_of.kp T.n_inner_of .nil pass0 (@pa_cons _ _ _ _ _ (pv 2)
      pa_nil
      (by rfl)))
      pa_nil
      (by rfl)))
      pa_nil
      (by rfl))
      (by rfl)))
      (by rfl)
      (by first | exact .inl rfl | exact .inr rfl | assumption))
      (@pss_one _ _ _ (@ps_expr _ _ _ _ (pe_bm PySem.F.plainAttrs_list PySem.F.slot_list_append PySem.F.type_list_append mt_append (pv 1) (@pa_cons _ _ _ _ _ (pe_call G_core_with (hr.mono (by decide)) rfl T.g_core_with T.f_core_with.kp T.n_core_with .nil pass0 (@pa_cons _ _ _ _ _ (pv 2)
      (@pa_cons _ _ _ _ _ (pv 3)
      pa_nil
      (by rfl))
      (by rfl)))
      pa_nil
      (by rfl)))
      (by rfl)))))
      (@pss_one _ _ _ (@ps_ret _ _ _ _ (@pe_ix _ _ _ _ _ _ _ (ix_listK (K := K) rfl)
      (pv 1)
      pe_int
      (fun _ _ => rfl)))))), ?_⟩
    cases n with
    | zero => exact hat.elim
    | succ n =>
      refine ⟨by decide, fun F hF => ?_⟩
      have s1 := same_upd (o := .lst []) hF
      have e1 : (upd H F (.lst [])) F = some (.lst []) := upd_same
      generalize upd H F (.lst []) = H1 at s1 e1 ⊢
      refine ⟨_, rfl, v, t, n + 1, rfl, hat.mono (Same.tup s1), hz, fun H2 L us s2 L0 eL aL => ⟨L, rfl, ⟨_, SqL.of eL⟩, ?_⟩⟩
      have nLF : L ≠ F := fun e => by rw [e, e1] at L0; cases L0
      have hF2 := s2 _ _ e1
      obtain ⟨ok0, run0⟩ := run_all (F := coreF) t
      have hul := aL.1
      refine for_list (K := K) (xs := us) (fun i σ H' => ∃ (z1 z2 : Option V) (uv : List V) (st : List Tr), σ = [some v, some (.ref F), z1, z2] ∧ SameX F H2 H' ∧ H' F = some (.lst uv) ∧ AtL K (28 * (n + 1)) H' uv st ∧ okRun coreF st ((post t).drop i) ∧ runF coreF st ((post t).drop i) = [coreT t] ∧ st.length ≤ i) ?_ ?_ ?_ ?_
      · exact ⟨_, _, [], [], rfl, .refl _, hF2, AtL.nil, ok0, run0, Nat.le_refl _⟩
      · rintro i σ H' hi ⟨z1, z2, uv, st, rfl, x', _⟩
        exact SqL.of (x' _ _ nLF eL)
      · rintro i x σ H3 hx ⟨z1, z2, uv, st, rfl, x3, hF3, aS, ok3, run3, hst⟩
        have hi : i < us.length := (List.getElem?_eq_some_iff.mp hx).1
        have hi2 : i < (post t).length := by omega
        have t23 : SameT H2 H3 := SameX.tup x3 hF2
        have at3 := (aL.2 i x _ hx (List.getElem?_eq_getElem hi2)).mono t23
        rw [List.drop_eq_getElem_cons hi2] at ok3 run3
        obtain ⟨⟨okl, okd⟩, okr⟩ := ok3
        have runr : runF coreF (stepF coreF st (post t)[i]) ((post t).drop (i + 1)) = [coreT t] := run3
        generalize (post t)[i] = r at at3 okl okd okr runr
        have hsl := aS.1
        obtain ⟨ad7, ks, eu7, sh7, ok7, hl7, hq7⟩ := id at3
        refine ⟨_, rfl, _, rfl, x, ad7, ks, r.lb, rfl, eu7, sh7, by rw [hl7]; exact ok7.b, fun H4 b s4 eb => .inl ⟨b, _, rfl, .inr (eb), ?_⟩⟩
        have aK : AtL K n H4 ks r.ks := AtL.mono (Same.tup s4) ⟨hl7, hq7⟩
        have hkl := aK.1
        have hF4 := s4 _ _ hF3
        refine ⟨F, uv, ks.length, rfl, hF4, by rw [hsl, hkl]; exact okl, fun H5 l x5 hF5 l0 hl5 => ?_⟩
        have nlF : l ≠ F := fun e => by rw [e, hF4] at l0; cases l0
        have t45 : SameT H4 H5 := SameX.tup x5 hF4
        have t35 : SameT H3 H5 := (Same.tup s4).trans t45
        rw [hsl, hkl] at hF5 hl5
        have at5 := at3.mono t35
        have aS5 := aS.mono t35
        have aI := AtL.drop aS5 (st.length - r.ks.length)
        rw [okd] at aI
        have ca := core_all _ r at5.ok
        have ecr : coreF r.lb (r.ks.map coreT) = coreT r := (coreT_eq r).symm
        have at5' : At K (n + 1) H5 x (.node r.lb r.ks) := by rw [← Tr.eta]; exact at5
        refine ⟨_, rfl, .inl ⟨rfl, _, SqL.of hF5⟩, _, rfl, _, rfl, x, r.lb, r.ks, n + 1, l, _, _, 28 * (n + 1), rfl, at5', hl5, aI, List.length_map _, by omega, fun H6 v6 s6 at6 => ?_⟩
        rw [show valT coreF = coreT from rfl, ecr] at at6
        have at6 := at6.fit ca.1
        have hF6 := s6 _ _ hF5
        refine ⟨F, _, _, rfl, rfl, hF6, by rw [List.length_take, sizeLine_eq]; omega, ?_⟩
        have x36 : SameX F H3 H6 := (Same.x s4).trans (x5.trans (Same.x s6))
        have t6 : SameT H6 (upd H6 F (.lst (uv.take (st.length - r.ks.length) ++ [v6]))) := SameX.tup ((SameX.refl H6).upd) hF6
        refine ⟨_, _, uv.take (st.length - r.ks.length) ++ [v6], stepF coreF st r, rfl, (x3.trans x36).upd, upd_same, ?_, okr, runr, ?_⟩
        · unfold stepF
          rw [okd, show valT coreF = coreT from rfl, ecr]
          exact AtL.app (((AtL.take aS5 _).mono (Same.tup s6)).mono t6) (AtL.one (at6.mono t6))
        · unfold stepF
          rw [List.length_append, List.length_take]
          simp
          omega
      rintro σ H3 ⟨z1, z2, uv, st, rfl, x3, hF3, aS, ok3, run3, hst⟩
      rw [List.drop_eq_nil_of_le (by omega)] at run3
      have est : st = [coreT t] := run3
      subst est
      obtain ⟨u0, ur, c0, cr, rfl, ec, a0⟩ := AtL.first aS (by simp)
      cases ec
      exact ⟨_, rfl, F, _, _, _, rfl, rfl, SqL.of hF3, atI_nat (j := 0) rfl, k H3 _ (((Same.x (s1.trans s2)).trans x3).same hF) a0⟩
end KK

set_option Elab.async false
set_option linter.all false
set_option maxRecDepth 100000
set_option maxHeartbeats 8000000
namespace KK
open PySem PySem.Spec L2 L3
def iV (is : List Nat) : List V := is.map fun (i : Nat) => V.int ((i : Nat) : Int)
theorem iV_len (is : List Nat) : (iV is).length = is.length := List.length_map _
theorem nK_kV (is : List Nat) : (nK is).map kV = iV is := by unfold nK iV; rw [List.map_map]; rfl
/-- a core with something in it: its word, then something -/
theorem core_inn {K : PySem.W.Frag} {n : Nat} {H : Hp} {a : Addr} {vs : List V} {c : Lb} {ks : List Tr} {is : List Nat} (sh : Shape K H a vs c) (hl : vs.length = ks.length) (ok : lbOk c ks.length) (hc : isC (.node c ks) = true) (hne : ks ≠ []) : wordL c ≠ "within" ∧ (∃ x xs, SqT K H a (.str (wordL c) :: x :: xs)) ∧ keyOf c is = .inr (wordL c) :: nK is := by
  have hk : 0 < ks.length := List.length_pos_iff.mpr hne
  cases c with
  | yes => exact absurd (List.length_eq_zero_iff.mp ok) hne
  | sign z => exact absurd (List.length_eq_zero_iff.mp ok.1) hne
  | wit m => rw [isC_node] at hc; unfold isCF at hc; simp at hc
  | op w =>
    cases vs with
    | nil => simp at hl; omega
    | cons x xs => exact ⟨(w_apart w (lb_op ok)).2.2.1, ⟨x, xs, sh⟩, rfl⟩
  | many w =>
    obtain ⟨b, h1, h2⟩ := sh
    exact ⟨by rcases ok.1 with rfl | rfl <;> decide +kernel, ⟨.ref b, [], h1⟩, rfl⟩
theorem core_leaf {K : PySem.W.Frag} {H : Hp} {a : Addr} {vs : List V} {c : Lb} {ks : List Tr} (sh : Shape K H a vs c) (ok : lbOk c ks.length) (hc : isC (.node c ks) = true) (hne : ks = []) : SqT K H a ((keyOf c []).map kV) := by
  subst hne
  cases c with
  | yes => exact sh.2
  | sign z => exact sh.2
  | wit m => rw [isC_node] at hc; unfold isCF at hc; simp at hc
  | op w => rcases ok with ⟨_, h⟩ | ⟨_, h⟩ <;> cases h
  | many w => rw [isC_node] at hc; unfold isCF at hc; simp at hc
theorem lb8 {c : Lb} {n : Nat} (ok : lbOk c n) : n ≤ 8 := by
  cases c with
  | yes => have h : n = 0 := ok; omega
  | sign s => have h : n = 0 := ok.1; omega
  | op w => rcases ok with o | o; have h : n = 1 := o.2; omega; have h : n = 2 := o.2; omega
  | wit m => have h : n = 2 := ok.2; omega
  | many w => exact ok.2
theorem cut_to1 {n : Nat} {k : Nat} (h : k < n) : ¬ (HT.sIx n 0 none = 0 ∧ HT.sIx n n (some (k : Int)) = n) := by
  rintro ⟨_, h1⟩
  have h2 : ¬ ((k : Int) < 0) := by omega
  unfold HT.sIx at h1
  simp only [h2, if_false] at h1
  omega
def sp_row_with (K : PySem.W.Frag) (a : Adr) : Sp := fun vs H Q _ => ∃ (v : V) (t : Tr) (n : Nat) (l : Addr) (is : List Nat), vs = [v, .ref l] ∧ At K n H v t ∧ isC t = true ∧ H l = some (.lst (iV is)) ∧ is.length = t.ks.length ∧ ∀ H' b, Same H H' → SqT K H' b ((keyOf t.lb is).map kV) → Q (.ref b) H'
theorem ok_row_with {P : Program} {w : World} {K : PySem.W.Frag} {mg : Str → Option Value} {base : Heap} {a : Adr} (T : Txt K mg a) (hw : w.params = a.Pm) : FnOk P w K mg base CX0 1 a.row_with a.row_with_fd ["sentence", "inner"] (sp_row_with K a) := by
  refine T.f_row_with.ok sc_row_with (fun vs H Q E h => ?_) (fun cdv A outer s H vs Q E hr h => ?_)
  · obtain ⟨v, t, n, l, is, rfl, _⟩ := h
    rfl
  · obtain ⟨v, t, n, l, is, rfl, hat, hc, hl, hil, k⟩ := h
    refine ⟨_, (@pss_cons _ _ _ _ _ (@ps_if _ _ _ _ _ _ _ _ (@pt_not _ _ _ _ (pt_truthK (K := K) rfl (pv 1) (fun _ => rfl)))
      (@pss_one _ _ _ (@ps_ret _ _ _ _ (pv 0)))
      pss_nil)
      (@pss_cons _ _ _ _ _ (@ps_set _ _ (2) _ _ _ _ sc_row_with.nd
      rfl
      (by first | exact Or.inl rfl | exact Or.inr rfl)
      (pe_ifExp (@pt_cmpR _ _ _ _ _ _ _ _ op_eq
      (@pe_ix _ _ _ _ _ _ _ (ix_tupK (K := K) rfl)
      (pv 0)
      pe_int
      (fun _ _ => rfl))
      pe_str
      (nomark _)) (pe_slice (sl_tupK (K := K) rfl) (pv 0) po_none (po_some pe_int)) (pe_slice (sl_tupK (K := K) rfl) (pv 0) po_none (po_some pe_int)))
      (by rfl)
      (by first | exact .inl rfl | exact .inr rfl | assumption))
      (@pss_one _ _ _ (@ps_ret _ _ _ _ (@pe_op _ _ _ _ _ _ _ _ (op_catTK (K := K) rfl)
      (pv 2)
      (pe_callTy (call_tupleK (K := K) rfl) rfl T.b_tuple PyProof.Rows.Boot.«tuple» (@pa_cons _ _ _ _ _ (pv 1)
      pa_nil
      (by rfl)))))))), ?_⟩
    cases n with
    | zero => exact hat.elim
    | succ n =>
      obtain ⟨ad, us, rfl, sh, ok, hul, hq⟩ := hat
      have hc' : isC (.node t.lb t.ks) = true := by rw [← Tr.eta]; exact hc
      refine ⟨_, rfl, !(iV is).isEmpty, .inl ⟨_, SqL.of hl, rfl⟩, ?_⟩
      cases his : (iV is).isEmpty with
      | true =>
        have e0 : iV is = [] := List.isEmpty_iff.mp his
        have e1 : is = [] := List.length_eq_zero_iff.mp (by rw [← iV_len, e0]; rfl)
        subst e1
        refine iteT ⟨_, rfl, k H ad (fun _ _ e => e) (core_leaf sh ok hc' (List.length_eq_zero_iff.mp hil.symm))⟩
      | false =>
        have hne : t.ks ≠ [] := fun e => by
          have : is = [] := List.length_eq_zero_iff.mp (by rw [hil, e]; rfl)
          rw [this] at his
          cases his
        obtain ⟨hw, ⟨x, xs, ea⟩, hk⟩ := core_inn (n := n) (is := is) sh hul ok hc' hne
        refine iteF ?_
        refine ⟨_, rfl, ad, _, _, _, rfl, rfl, ea, atI_nat (j := 0) rfl, rfl, _, rfl, iteN (fun z => hw (V.str.inj z)) ?_⟩
        have h8 := lb8 ok
        refine ⟨_, rfl, _, rfl, ad, _, rfl, ea, cut_to1 (k := 1) (by simp), fun q hq => ?_⟩
        have ec : cutV (V.str (wordL t.lb) :: x :: xs) none (some 1) = [V.str (wordL t.lb)] := cutV_to (V.str (wordL t.lb) :: x :: xs) 1 (by simp)
        rw [ec]
        have s1 := same_upd (o := .tup [V.str (wordL t.lb)]) hq
        have e1 : (upd H q (.tup [V.str (wordL t.lb)])) q = some (.tup [V.str (wordL t.lb)]) := upd_same
        generalize upd H q (.tup [V.str (wordL t.lb)]) = H1 at s1 e1 ⊢
        refine ⟨_, rfl, _, rfl, l, _, rfl, .inl ⟨SqL.of (s1 _ _ hl), fun b hb => ?_⟩⟩
        have s2 := same_upd (o := .tup (iV is)) hb
        have e2 : (upd H1 b (.tup (iV is))) b = some (.tup (iV is)) := upd_same
        generalize upd H1 b (.tup (iV is)) = H2 at s2 e2 ⊢
        refine ⟨q, b, _, _, rfl, rfl, SqT.of (s2 _ _ e1), SqT.of e2, by simp, by rw [iV_len, sizeLine_eq]; simp; omega, fun z => ?_, fun _ c hc2 => ?_⟩
        · rw [z] at his; cases his
        · refine k _ c ((s1.trans s2).trans (same_upd hc2)) ?_
          rw [hk, List.map_cons, nK_kV]
          exact SqT.of upd_same
end KK

set_option Elab.async false
set_option linter.all false
set_option maxRecDepth 100000
set_option maxHeartbeats 8000000
namespace KK
open PySem PySem.Spec L2 L3
theorem tput2 (v1 v2 : V) : putF "rows" v2 ([("parts", v1)] : List (Str × V)) = ([("parts", v1), ("rows", v2)] : List (Str × V)) := by simp only [putF, if_neg (by decide +kernel : ¬ (("parts" : Str) = "rows"))]
theorem tput3 (v1 v2 v3 : V) : putF "numbers" v3 ([("parts", v1), ("rows", v2)] : List (Str × V)) = ([("parts", v1), ("rows", v2), ("numbers", v3)] : List (Str × V)) := by simp only [putF, if_neg (by decide +kernel : ¬ (("parts" : Str) = "numbers")), if_neg (by decide +kernel : ¬ (("rows" : Str) = "numbers"))]
def sp_Table_init (K : PySem.W.Frag) (a : Adr) : Sp := fun vs H Q _ => ∃ r dx, vs = [.ref r] ∧ H r = some (.ins a.C_Table dx []) ∧ ∀ H' P R D, SameX r H H' → H P = none → H R = none → H D = none → r ≠ P → r ≠ R → r ≠ D → TbK K a.Pm a.C_Table H' r P R D [] → Q .non H'
theorem ok_Table_init {P : Program} {w : World} {K : PySem.W.Frag} {mg : Str → Option Value} {base : Heap} {a : Adr} (T : Txt K mg a) (hw : w.params = a.Pm) : FnOk P w K mg base CX0 1 a.Table_init a.Table_init_fd ["self"] (sp_Table_init K a) := by
  refine T.f_Table_init.ok sc_Table_init (fun vs H Q E h => ?_) (fun cdv A outer s H vs Q E hr h => ?_)
  · obtain ⟨r, dx, rfl, _⟩ := h
    rfl
  · obtain ⟨r, dx, rfl, hr0, k⟩ := h
    refine ⟨_, (@pss_cons _ _ _ _ _ (ps_fld (pv 0) (@pe_lst _ _ _ _ pa_nil) rfl)
      (@pss_cons _ _ _ _ _ (ps_fld (pv 0) (@pe_lst _ _ _ _ pa_nil) rfl)
      (@pss_one _ _ _ (ps_fld (pv 0) (pe_xnew (Pm := a.Pm) hw) rfl)))), ?_⟩
    refine ⟨by decide, fun P hP => ⟨_, rfl, r, _, dx, [], rfl, same_upd hP _ _ hr0, T.cl_Table, T.na_Table_parts, by decide, ?_⟩⟩
    have nP : P ≠ r := fun z => by rw [z, hr0] at hP; cases hP
    have s1 := same_upd (o := .lst []) hP
    have e1 : (upd H P (.lst [])) P = some (.lst []) := upd_same
    generalize upd H P (.lst []) = H1 at s1 e1 ⊢
    have x2 : SameX r H (upd H1 r (.ins a.C_Table dx (putF "parts" (.ref P) []))) := (Same.x s1).upd
    have hr2 : (upd H1 r (.ins a.C_Table dx (putF "parts" (.ref P) []))) r = some (.ins a.C_Table dx [("parts", .ref P)]) := by rw [upd_same, tput1]
    have e2 : (upd H1 r (.ins a.C_Table dx (putF "parts" (.ref P) []))) P = some (.lst []) := updK e1 nP
    generalize upd H1 r (.ins a.C_Table dx (putF "parts" (.ref P) [])) = H2 at x2 hr2 e2 ⊢
    refine ⟨by decide, fun R hR => ⟨_, rfl, r, _, dx, _, rfl, same_upd hR _ _ hr2, T.cl_Table, T.na_Table_rows, by simp, ?_⟩⟩
    have nR : R ≠ r := fun z => by rw [z, hr2] at hR; cases hR
    have nRP : R ≠ P := fun z => by rw [z, e2] at hR; cases hR
    have s3 := same_upd (o := .lst []) hR
    have e3 : (upd H2 R (.lst [])) R = some (.lst []) := upd_same
    have e3P := s3 _ _ e2
    generalize upd H2 R (.lst []) = H3 at s3 e3 e3P ⊢
    have x4 : SameX r H (upd H3 r (.ins a.C_Table dx (putF "rows" (.ref R) [("parts", .ref P)]))) := (x2.trans (Same.x s3)).upd
    have hr4 : (upd H3 r (.ins a.C_Table dx (putF "rows" (.ref R) [("parts", .ref P)]))) r = some (.ins a.C_Table dx [("parts", .ref P), ("rows", .ref R)]) := by rw [upd_same, tput2]
    have e4P : (upd H3 r (.ins a.C_Table dx (putF "rows" (.ref R) [("parts", .ref P)]))) P = some (.lst []) := updK e3P nP
    have e4R : (upd H3 r (.ins a.C_Table dx (putF "rows" (.ref R) [("parts", .ref P)]))) R = some (.lst []) := updK e3 nR
    generalize upd H3 r (.ins a.C_Table dx (putF "rows" (.ref R) [("parts", .ref P)])) = H4 at x4 hr4 e4P e4R ⊢
    refine fun D hD => ⟨_, rfl, r, _, dx, _, rfl, same_upd hD _ _ hr4, T.cl_Table, T.na_Table_numbers, by simp, ?_⟩
    have nD : D ≠ r := fun z => by rw [z, hr4] at hD; cases hD
    have s5 := same_upd (o := DxO a.Pm D []) hD
    have e5 : (upd H4 D (DxO a.Pm D [])) D = some (DxO a.Pm D []) := upd_same
    have e5P := s5 _ _ e4P
    have e5R := s5 _ _ e4R
    generalize upd H4 D (DxO a.Pm D []) = H5 at s5 e5 e5P e5R ⊢
    refine k _ P R D ((x4.trans (Same.x s5)).upd) hP (x2.free nR hR) (x4.free nD hD) (Ne.symm nP) (Ne.symm nR) (Ne.symm nD) ⟨⟨dx, by rw [upd_same, tput3]⟩, ⟨1, [], updK e5P nP, AtL.nil⟩, ⟨[], updK e5R nR, rfl, fun e h => (by cases h), fun i t e h => (by simp at h), updK e5 nD⟩, by simp, Ne.symm nRP⟩
end KK

set_option Elab.async false
set_option linter.all false
set_option maxRecDepth 100000
set_option maxHeartbeats 8000000
namespace KK
open PySem PySem.Spec L2 L3
def sp_Table_taken_in (K : PySem.W.Frag) (a : Adr) : Sp := fun vs H Q _ => ∃ r P R D ps v t n b ks, vs = [.ref r, v, .ref b] ∧ TbK K a.Pm a.C_Table H r P R D ps ∧ At K n H v t ∧ SqT K H b (ks.map kV) ∧ IsRow ps t ks ∧ ps.length < 4000 ∧ ∀ H' (i : Nat), SameB P R D H H' → TbK K a.Pm a.C_Table H' r P R D (addT ps t) → (addT ps t)[i]? = some t → Q (.int (i : Int)) H'
theorem tat_ok {K : PySem.W.Frag} {n : Nat} {H : Hp} {v : V} {t : Tr} (h : At K n H v t) : lbOk t.lb t.ks.length := by
  cases n with
  | zero => exact h.elim
  | succ n => obtain ⟨_, _, _, _, ok, _⟩ := h; exact ok
theorem lkP {v1 v2 v3 : V} : ([("parts", v1), ("rows", v2), ("numbers", v3)] : List (Str × V)).lookup ("parts" : Str) = some v1 := rfl
theorem lkR {v1 v2 v3 : V} : ([("parts", v1), ("rows", v2), ("numbers", v3)] : List (Str × V)).lookup ("rows" : Str) = some v2 := by
  have e : (("rows" : Str) == "parts") = false := by decide +kernel
  rw [List.lookup_cons, e]
  rfl
theorem lkD {v1 v2 v3 : V} : ([("parts", v1), ("rows", v2), ("numbers", v3)] : List (Str × V)).lookup ("numbers" : Str) = some v3 := by
  have e : (("numbers" : Str) == "parts") = false := by decide +kernel
  have e2 : (("numbers" : Str) == "rows") = false := by decide +kernel
  rw [List.lookup_cons, e]
  show List.lookup _ _ = _
  rw [List.lookup_cons, e2]
  rfl
theorem ok_Table_taken_in {P : Program} {w : World} {K : PySem.W.Frag} {mg : Str → Option Value} {base : Heap} {a : Adr} (T : Txt K mg a) (hw : w.params = a.Pm) : FnOk P w K mg base CX0 1 a.Table_taken_in a.Table_taken_in_fd ["self", "part", "row"] (sp_Table_taken_in K a) := by
  refine T.f_Table_taken_in.ok sc_Table_taken_in (fun vs H Q E h => ?_) (fun cdv A outer s H vs Q E hr h => ?_)
  · obtain ⟨r, P, R, D, ps, v, t, n, b, ks, rfl, _⟩ := h
    rfl
  · obtain ⟨r, P, R, D, ps, v, t, n, b, ks, rfl, tb, hat, hb, hrow, hsz, k⟩ := h
    refine ⟨_, (@pss_cons _ _ _ _ _ (@ps_if _ _ _ _ _ _ _ _ (pt_cmp (pc_xnotin (K := K) (Pm := a.Pm) rfl hw (Room.units1 hr) (pv 2) (pe_fldK (K := K) rfl (pv 0) rfl)))
      (@pss_cons _ _ _ _ _ (ps_xput (K := K) (Pm := a.Pm) rfl hw (Room.units1 hr) (pe_fldK (K := K) rfl (pv 0) rfl) (pv 2) (pe_callB (call_lenK (K := K) rfl) rfl T.b_len PyProof.Rows.Boot.«len» (@pa_cons _ _ _ _ _ (pe_fldK (K := K) rfl (pv 0) rfl)
      pa_nil
      (by rfl))) rfl)
      (@pss_cons _ _ _ _ _ (@ps_expr _ _ _ _ (pe_bm PySem.F.plainAttrs_list PySem.F.slot_list_append PySem.F.type_list_append mt_append (pe_fldK (K := K) rfl (pv 0) rfl) (@pa_cons _ _ _ _ _ (pv 1)
      pa_nil
      (by rfl)))
      (by rfl))
      (@pss_one _ _ _ (@ps_expr _ _ _ _ (pe_bm PySem.F.plainAttrs_list PySem.F.slot_list_append PySem.F.type_list_append mt_append (pe_fldK (K := K) rfl (pv 0) rfl) (@pa_cons _ _ _ _ _ (pv 2)
      pa_nil
      (by rfl)))
      (by rfl)))))
      pss_nil)
      (@pss_one _ _ _ (@ps_ret _ _ _ _ (pe_xget (K := K) (Pm := a.Pm) rfl hw (Room.units1 hr) (pe_fldK (K := K) rfl (pv 0) rfl) (pv 2) (fun _ _ => rfl))))), ?_⟩
    obtain ⟨⟨dx, ho⟩, ⟨np, pv, hP, aP⟩, ⟨rows, hR, rl, hrt, hrr, hD⟩, nd, pr⟩ := id tb
    have rkl : (rows.map (·.1)).length = ps.length := by rw [List.length_map]; exact rl
    obtain ⟨knd, known⟩ := row_known (rks := rows.map (·.1)) nd rkl aP.oks fun i t ks h1 h2 => by
      rw [List.getElem?_map] at h2
      obtain ⟨e, he, rfl⟩ := Option.map_eq_some_iff.mp h2
      exact hrr i t e h1 he
    obtain ⟨kin, kout⟩ := known (tat_ok hat) hrow
    have hkeys : ∀ e ∈ numX 0 rows, SqT K H e.2.1 (e.1.map kV) := fun e he => hrt _ (numX_mem he)
    refine ⟨_, rfl, _, rfl, r, _, dx, _, _, rfl, ho, T.cl_Table, T.na_Table_numbers, lkD, D, _, rfl, ⟨_, ks, b, hD, rfl, hb, hkeys, rfl⟩, ?_⟩
    rw [valX_R]
    by_cases ht : t ∈ ps
    · obtain ⟨i, hi, e⟩ := List.getElem_of_mem ht
      have hi' : ps[i]? = some t := by rw [← e]; exact List.getElem?_eq_getElem hi
      have hv := val_at (n := 0) knd (kin i hi')
      rw [Nat.zero_add] at hv
      rw [hv]
      refine ⟨_, rfl, iteF ?_⟩
      exact ⟨_, rfl, r, _, dx, _, _, rfl, ho, T.cl_Table, T.na_Table_numbers, lkD, _, rfl, D, _, rfl, ⟨_, ks, b, hD, rfl, hb, hkeys, by rw [valX_R, hv]⟩, k H i .refl (by rw [addT_in ht]; exact tb) (by rw [addT_in ht]; exact hi')⟩
    · have hv := val_no (n := 0) (kout ht)
      rw [hv]
      refine ⟨_, rfl, iteT ?_⟩
      have aR := aP.1
      refine ⟨_, rfl, r, _, dx, _, _, rfl, ho, T.cl_Table, T.na_Table_rows, lkR, .inl ⟨R, _, rfl, .inl (SqL.of hR), _, rfl, r, _, dx, _, _, rfl, ho, T.cl_Table, T.na_Table_numbers, lkD, _, rfl, D, _, rfl, ⟨_, ks, b, hD, rfl, hb, hkeys, by rw [valX_R]; exact hv, by rw [numX_len, sizeLine_eq]; omega, rfl⟩, ?_⟩⟩
      have ep : numX 0 rows ++ [(ks, b, V.int (((rows.map fun e => V.ref e.2).length : Nat) : Int))] = numX 0 (rows ++ [(ks, b)]) := by
        rw [numX_snoc, List.length_map, Nat.zero_add]
      rw [ep]
      have nPD : P ≠ D := ne_of hP hD (by intro z; cases z)
      have nRD : R ≠ D := ne_of hR hD (by intro z; cases z)
      have nrD : r ≠ D := ne_of ho hD (by intro z; cases z)
      have ho1 : (upd H D (DxO a.Pm D (numX 0 (rows ++ [(ks, b)])))) r = _ := updK ho nrD
      have hP1 : (upd H D (DxO a.Pm D (numX 0 (rows ++ [(ks, b)])))) P = _ := updK hP nPD
      have hR1 : (upd H D (DxO a.Pm D (numX 0 (rows ++ [(ks, b)])))) R = _ := updK hR nRD
      have hD1 : (upd H D (DxO a.Pm D (numX 0 (rows ++ [(ks, b)])))) D = _ := upd_same
      have s1 : SameB P R D H (upd H D (DxO a.Pm D (numX 0 (rows ++ [(ks, b)])))) := fun c o _ _ n3 e => by rw [upd_ne n3]; exact e
      generalize upd H D (DxO a.Pm D (numX 0 (rows ++ [(ks, b)]))) = H1 at ho1 hP1 hR1 hD1 s1 ⊢
      refine ⟨_, rfl, r, _, dx, _, _, rfl, ho1, T.cl_Table, T.na_Table_parts, lkP, .inl ⟨rfl, _, SqL.of hP1⟩, _, rfl, P, _, _, rfl, rfl, hP1, by rw [sizeLine_eq]; omega, ?_⟩
      have nrP : r ≠ P := ne_of ho hP (by intro z; cases z)
      have ho2 : (upd H1 P (.lst (pv ++ [v]))) r = _ := updK ho1 nrP
      have hP2 : (upd H1 P (.lst (pv ++ [v]))) P = _ := upd_same
      have hR2 : (upd H1 P (.lst (pv ++ [v]))) R = _ := updK hR1 (Ne.symm pr)
      have hD2 : (upd H1 P (.lst (pv ++ [v]))) D = _ := updK hD1 (Ne.symm nPD)
      have s2 : SameB P R D H (upd H1 P (.lst (pv ++ [v]))) := fun c o n1 n2 n3 e => by rw [upd_ne n1]; exact s1 _ _ n1 n2 n3 e
      generalize upd H1 P (.lst (pv ++ [v])) = H2 at ho2 hP2 hR2 hD2 s2 ⊢
      refine ⟨_, rfl, r, _, dx, _, _, rfl, ho2, T.cl_Table, T.na_Table_rows, lkR, .inl ⟨rfl, _, SqL.of hR2⟩, _, rfl, R, _, _, rfl, rfl, hR2, by rw [List.length_map, sizeLine_eq]; omega, ?_⟩
      have nrR : r ≠ R := ne_of ho hR (by intro z; cases z)
      have er : (rows.map fun e => V.ref e.2) ++ [V.ref b] = (rows ++ [(ks, b)]).map fun e => V.ref e.2 := by rw [List.map_append]; rfl
      rw [er]
      have ho3 : (upd H2 R (.lst ((rows ++ [(ks, b)]).map fun e => V.ref e.2))) r = _ := updK ho2 nrR
      have hP3 : (upd H2 R (.lst ((rows ++ [(ks, b)]).map fun e => V.ref e.2))) P = _ := updK hP2 pr
      have hR3 : (upd H2 R (.lst ((rows ++ [(ks, b)]).map fun e => V.ref e.2))) R = _ := upd_same
      have hD3 : (upd H2 R (.lst ((rows ++ [(ks, b)]).map fun e => V.ref e.2))) D = _ := updK hD2 (Ne.symm nRD)
      have s3 : SameB P R D H (upd H2 R (.lst ((rows ++ [(ks, b)]).map fun e => V.ref e.2))) := fun c o n1 n2 n3 e => by rw [upd_ne n2]; exact s2 _ _ n1 n2 n3 e
      generalize upd H2 R (.lst ((rows ++ [(ks, b)]).map fun e => V.ref e.2)) = H3 at ho3 hP3 hR3 hD3 s3 ⊢
      have u3 : SameT H H3 := tb.t s3
      have eA : addT ps t = ps ++ [t] := addT_new ht
      have kn2 : ((rows ++ [(ks, b)]).map (·.1)).Nodup := by
        rw [List.map_append, List.nodup_append]
        exact ⟨knd, by simp, fun x hx y hy e => kout ht (by
          have : y = ks := by simpa using hy
          rw [this] at e; rw [← e]; exact hx)⟩
      have rat : ((rows ++ [(ks, b)]).map (·.1))[ps.length]? = some ks := by rw [List.map_append, ← rkl, List.getElem?_append_right (Nat.le_refl _), Nat.sub_self]; rfl
      have hv2 := val_at (n := 0) kn2 rat
      rw [Nat.zero_add] at hv2
      have hpt : (ps ++ [t])[ps.length]? = some t := by rw [List.getElem?_append_right (Nat.le_refl _), Nat.sub_self]; rfl
      have hrt3 : ∀ e ∈ rows ++ [(ks, b)], SqT K H3 e.2 (e.1.map kV) := fun e he => by
        rcases List.mem_append.mp he with he | he
        · exact u3 _ _ _ (hrt e he)
        · rw [List.mem_singleton.mp he]; exact u3 _ _ _ hb
      refine ⟨_, rfl, r, _, dx, _, _, rfl, ho3, T.cl_Table, T.na_Table_numbers, lkD, _, rfl, D, V.int ((ps.length : Nat) : Int), rfl, ⟨_, ks, b, hD3, rfl, u3 _ _ _ hb, fun e he => hrt3 _ (numX_mem he), by rw [valX_R]; exact hv2.symm⟩, k H3 ps.length s3 ?_ (by rw [eA]; exact hpt)⟩
      rw [eA]
      have old : ∀ {α : Type} {xs : List α} {y x : α} {i : Nat}, (xs ++ [y])[i]? = some x → (i < xs.length ∧ xs[i]? = some x) ∨ (i = xs.length ∧ x = y) := fun {α xs y x i} h => by
        by_cases hi : i < xs.length
        · rw [List.getElem?_append_left hi] at h; exact .inl ⟨hi, h⟩
        · have hj := (List.getElem?_eq_some_iff.mp h).1
          rw [List.length_append, List.length_singleton] at hj
          have hij : i = xs.length := by omega
          subst hij
          rw [List.getElem?_append_right (Nat.le_refl _), Nat.sub_self] at h
          exact .inr ⟨rfl, by simpa using h.symm⟩
      refine ⟨⟨dx, ho3⟩, ⟨max np n, pv ++ [v], hP3, ((aP.le (Nat.le_max_left _ _)).mono u3).app (AtL.one ((hat.le (Nat.le_max_right _ _)).mono u3))⟩, ⟨rows ++ [(ks, b)], hR3, by simp [rl], hrt3, fun i x e h1 h2 => ?_, hD3⟩, ?_, pr⟩
      · rcases old h1 with ⟨l1, h1⟩ | ⟨l1, h1⟩
        · rcases old h2 with ⟨l2, h2⟩ | ⟨l2, h2⟩
          · exact (hrr i x e h1 h2).more
          · omega
        · rcases old h2 with ⟨l2, h2⟩ | ⟨l2, h2⟩
          · omega
          · subst h1 h2
            exact hrow.more
      · rw [← eA]
        exact nodup_addT nd
end KK

set_option Elab.async false
set_option linter.all false
set_option maxRecDepth 100000
set_option maxHeartbeats 8000000
namespace KK
open PySem PySem.Spec L2 L3
theorem valT_node : ∀ (n : Nat) (t : Tr), psz t ≤ n → valT Tr.node t = t
  | 0, t, h => by have := psz_pos t; omega
  | n + 1, t, h => by
    rw [valT_eq]
    have e : t.ks.map (valT Tr.node) = t.ks := by
      have : t.ks.map (valT Tr.node) = t.ks.map id := List.map_congr_left fun k hk => valT_node n k (by have := psz_kid hk; omega)
      rw [this, List.map_id]
    rw [e]
    exact (Tr.eta t).symm
theorem mem_postL : ∀ {ks : List Tr} {s : Tr}, s ∈ postL ks → ∃ k ∈ ks, s ∈ post k
  | [], s, h => by rw [postL] at h; cases h
  | t :: r, s, h => by
    rw [postL, List.mem_append] at h
    rcases h with h | h
    · exact ⟨t, by simp, h⟩
    · obtain ⟨k, hk, hs⟩ := mem_postL h
      exact ⟨k, List.mem_cons_of_mem _ hk, hs⟩
theorem isC_post : ∀ (n : Nat) {t s : Tr}, psz t ≤ n → isC t = true → s ∈ post t → isC s = true
  | 0, t, s, h, _, _ => by have := psz_pos t; omega
  | n + 1, t, s, h, hc, hs => by
    rw [post_eq, List.mem_append] at hs
    rcases hs with hs | hs
    · obtain ⟨k, hk, hs⟩ := mem_postL hs
      exact isC_post n (by have := psz_kid hk; omega) (isC_kids hc k hk) hs
    · rw [List.mem_singleton.mp hs]; exact hc
theorem lkN {v1 v2 v3 : V} {m : Str} (h1 : (m == ("parts" : Str)) = false) (h2 : (m == ("rows" : Str)) = false) (h3 : (m == ("numbers" : Str)) = false) : ([("parts", v1), ("rows", v2), ("numbers", v3)] : List (Str × V)).lookup m = none := by
  rw [List.lookup_cons, h1]
  show List.lookup _ _ = _
  rw [List.lookup_cons, h2]
  show List.lookup _ _ = _
  rw [List.lookup_cons, h3]
  rfl
theorem addAll_take {L : List Tr} {i : Nat} {x : Tr} (h : L[i]? = some x) : addAll [] (L.take (i + 1)) = addT (addAll [] (L.take i)) x := by
  rw [List.take_succ, h, addAll_app]
  rfl
theorem get_addT {ps : List Tr} {x s : Tr} {m : Nat} (h : ps[m]? = some s) : (addT ps x)[m]? = some s := by
  obtain ⟨B, e⟩ := addT_pre ps x
  rw [e, List.getElem?_append_left (List.getElem?_eq_some_iff.mp h).1]
  exact h
def sp_Table_number_of (K : PySem.W.Frag) (a : Adr) : Sp := fun vs H Q _ => ∃ r P R D v t n, vs = [.ref r, v] ∧ TbK K a.Pm a.C_Table H r P R D [] ∧ At K n H v t ∧ isC t = true ∧ psz t ≤ 2000000 ∧ (addAll [] (post t)).length < 4000 ∧ ∀ H' (i : Nat), SameB P R D H H' → TbK K a.Pm a.C_Table H' r P R D (addAll [] (post t)) → (addAll [] (post t))[i]? = some t → Q (.int (i : Int)) H'
theorem ok_Table_number_of {P : Program} {w : World} {K : PySem.W.Frag} {mg : Str → Option Value} {base : Heap} {a : Adr} (T : Txt K mg a) (hw : w.params = a.Pm) : FnOk P w K mg base CX0 4 a.Table_number_of a.Table_number_of_fd ["self", "core"] (sp_Table_number_of K a) := by
  have G_last_ones := ok_last_ones (P := P) (w := w) (base := base) T hw
  have G_inner_of := ok_inner_of (P := P) (w := w) (base := base) T hw
  have G_inner_ahead := ok_inner_ahead (P := P) (w := w) (base := base) T hw
  have G_row_with := ok_row_with (P := P) (w := w) (base := base) T hw
  have G_Table_taken_in := ok_Table_taken_in (P := P) (w := w) (base := base) T hw
  refine T.f_Table_number_of.ok sc_Table_number_of (fun vs H Q E h => ?_) (fun cdv A outer s H vs Q E hr h => ?_)
  · obtain ⟨r, P, R, D, v, t, n, rfl, _⟩ := h
    rfl
  · obtain ⟨r, P, R, D, v, t, n, rfl, tb, hat, hc, hz, hfew, k⟩ := h
    refine ⟨_, (@pss_cons _ _ _ _ _ (@ps_set _ _ (2) _ _ _ _ sc_Table_number_of.nd
      rfl
      (by first | exact Or.inl rfl | exact Or.inr rfl)
      (@pe_lst _ _ _ _ pa_nil)
      (by rfl)
      (by first | exact .inl rfl | exact .inr rfl | assumption))
      (@pss_cons _ _ _ _ _ (ps_for PassesOwn.never rfl (pi_listK (K := K) rfl (pe_call G_inner_ahead (hr.mono (by decide)) rfl T.g_inner_ahead T.f_inner_ahead.kp T.n_inner_ahead .nil pass0 (@pa_cons _ _ _ _ _ (pv 1)
      pa_nil
      (by rfl)))) (pg_name (i := 3) sc_Table_number_of.nd rfl (by first | exact Or.inl rfl | exact Or.inr rfl)) (@pss_cons _ _ _ _ _ (@ps_set _ _ (4) _ _ _ _ sc_Table_number_of.nd
      rfl
      (by first | exact Or.inl rfl | exact Or.inr rfl)
      (pe_call G_last_ones (hr.mono (by decide)) rfl T.g_last_ones T.f_last_ones.kp T.n_last_ones .nil pass0 (@pa_cons _ _ _ _ _ (pv 2)
      (@pa_cons _ _ _ _ _ (pe_callB (call_lenK (K := K) rfl) rfl T.b_len PyProof.Rows.Boot.«len» (@pa_cons _ _ _ _ _ (pe_call G_inner_of (hr.mono (by decide)) rfl T.g_inner_of T.f_inner_of.kp T.n_inner_of .nil pass0 (@pa_cons _ _ _ _ _ (pv 3)
      pa_nil
      (by rfl)))
      pa_nil
      (by rfl)))
      pa_nil
      (by rfl))
      (by rfl)))
      (by rfl)
      (by first | exact .inl rfl | exact .inr rfl | assumption))
      (@pss_one _ _ _ (@ps_expr _ _ _ _ (pe_bm PySem.F.plainAttrs_list PySem.F.slot_list_append PySem.F.type_list_append mt_append (pv 2) (@pa_cons _ _ _ _ _ (pe_meth (pv 0) T.cl_Table T.m_Table_taken_in G_Table_taken_in (hr.mono (by decide)) T.n_Table_taken_in .nil pass0 (@pa_cons _ _ _ _ _ (pv 3)
      (@pa_cons _ _ _ _ _ (pe_call G_row_with (hr.mono (by decide)) rfl T.g_row_with T.f_row_with.kp T.n_row_with .nil pass0 (@pa_cons _ _ _ _ _ (pv 3)
      (@pa_cons _ _ _ _ _ (pv 4)
      pa_nil
      (by rfl))
      (by rfl)))
      pa_nil
      (by rfl))
      (by rfl)))
      pa_nil
      (by rfl)))
      (by rfl)))))
      (@pss_one _ _ _ (@ps_ret _ _ _ _ (@pe_ix _ _ _ _ _ _ _ (ix_listK (K := K) rfl)
      (pv 2)
      pe_int
      (fun _ _ => rfl)))))), ?_⟩
    cases n with
    | zero => exact hat.elim
    | succ n =>
      refine ⟨by decide, fun F hF => ?_⟩
      have s1 := same_upd (o := .lst []) hF
      have e1 : (upd H F (.lst [])) F = some (.lst []) := upd_same
      generalize upd H F (.lst []) = H1 at s1 e1 ⊢
      have hz' : (post t).length ≤ 2000000 := hz
      refine ⟨_, rfl, v, t, n + 1, rfl, hat.mono (Same.tup s1), by omega, fun H2 L us s2 L0 eL aL => ⟨L, rfl, ⟨_, SqL.of eL⟩, ?_⟩⟩
      have nLF : L ≠ F := fun e => by rw [e, e1] at L0; cases L0
      have hF2 := s2 _ _ e1
      obtain ⟨ok0, run0⟩ := run_all (F := Tr.node) t
      rw [valT_node _ t (Nat.le_refl _)] at run0
      have hul := aL.1
      obtain ⟨n0, pv0, hP0, _⟩ := tb.pl
      obtain ⟨rows0, hR0, _, _, _, hD0⟩ := tb.rl
      have nPF : P ≠ F := ne_of_none hP0 hF
      have nRF : R ≠ F := ne_of_none hR0 hF
      have nDF : D ≠ F := ne_of_none hD0 hF
      have hL1 : ∀ c o, H c = some o → c ≠ L := fun c o e z => by rw [z] at e; rw [s1 _ _ e] at L0; cases L0
      have nPL := hL1 _ _ hP0
      have nRL := hL1 _ _ hR0
      have nDL := hL1 _ _ hD0
      have tb2 := (tb.mono s1).mono s2
      refine for_list (K := K) (xs := us) (fun i σ H' => ∃ (z1 z2 : Option V) (is : List Nat) (st : List Tr), σ = [some (.ref r), some v, some (.ref F), z1, z2] ∧ SameB P R D H H' ∧ H' L = some (.lst us) ∧ AtL K (n + 1) H' us (post t) ∧ TbK K a.Pm a.C_Table H' r P R D (addAll [] ((post t).take i)) ∧ H' F = some (.lst (iV is)) ∧ is.length = st.length ∧ (∀ (j : Nat) s m, st[j]? = some s → is[j]? = some m → (addAll [] ((post t).take i))[m]? = some s) ∧ okRun Tr.node st ((post t).drop i) ∧ runF Tr.node st ((post t).drop i) = [t] ∧ st.length ≤ i) ?_ ?_ ?_ ?_
      · exact ⟨_, _, [], [], rfl, Same.b (s1.trans s2), eL, aL, tb2, hF2, rfl, fun j s m h => by simp at h, ok0, run0, Nat.le_refl _⟩
      · rintro i σ H' hi ⟨z1, z2, is, st, rfl, _, hL', _⟩
        exact SqL.of hL'
      · rintro i x σ H3 hx ⟨z1, z2, is, st, rfl, b3, hL3, aL3, tb3, hF3, hil, hnum, ok3, run3, hst⟩
        have hi : i < us.length := (List.getElem?_eq_some_iff.mp hx).1
        have hi2 : i < (post t).length := by omega
        have hxi : (post t)[i]? = some (post t)[i] := List.getElem?_eq_getElem hi2
        have at3 := aL3.2 i x _ hx hxi
        have hcq : isC (post t)[i] = true := isC_post _ (Nat.le_refl _) hc (List.getElem_mem hi2)
        have etk := addAll_take hxi
        have hpl : (addAll [] ((post t).take i)).length < 4000 := by
          have e1 : addAll [] (post t) = addAll (addAll [] ((post t).take i)) ((post t).drop i) := by rw [← addAll_app, List.take_append_drop]
          obtain ⟨B, e2⟩ := addAll_pre ((post t).drop i) (addAll [] ((post t).take i))
          rw [e1, e2, List.length_append] at hfew
          omega
        rw [List.drop_eq_getElem_cons hi2] at ok3 run3
        obtain ⟨⟨okl, okd⟩, okr⟩ := ok3
        have runr : runF Tr.node (stepF Tr.node st (post t)[i]) ((post t).drop (i + 1)) = [t] := run3
        have kidE : (post t)[i].ks.map (valT Tr.node) = (post t)[i].ks := by
          have : (post t)[i].ks.map (valT Tr.node) = (post t)[i].ks.map id := List.map_congr_left fun k hk => valT_node _ k (Nat.le_refl _)
          rw [this, List.map_id]
        rw [kidE] at okd
        generalize (post t)[i] = q at at3 okl okd okr runr hcq etk hxi kidE
        generalize hps : addAll [] ((post t).take i) = ps at tb3 hnum etk hpl
        obtain ⟨ad7, ks7, eu7, sh7, ok7, hl7, hq7⟩ := id at3
        refine ⟨_, rfl, _, rfl, x, ad7, ks7, q.lb, rfl, eu7, sh7, by rw [hl7]; exact ok7.b, fun H4 b s4 eb => .inl ⟨b, _, rfl, .inr eb, ?_⟩⟩
        have hF4 := s4 _ _ hF3
        have ivl := iV_len is
        refine ⟨F, iV is, ks7.length, rfl, hF4, by rw [ivl]; omega, fun H5 l x5 hF5 l0 hl5 => ?_⟩
        have nlF : l ≠ F := fun e => by rw [e, hF4] at l0; cases l0
        have u45 : SameT H4 H5 := SameX.tup x5 hF4
        have u35 : SameT H3 H5 := (Same.tup s4).trans u45
        have tb5 : TbK K a.Pm a.C_Table H5 r P R D ps := (tb3.mono s4).monoX x5 hF4 nPF nRF
        rw [show (iV is).length - ks7.length = st.length - q.ks.length by omega] at hF5 hl5
        have ed : (iV is).drop (st.length - q.ks.length) = iV (is.drop (st.length - q.ks.length)) := by unfold iV; rw [List.map_drop]
        have ek : (iV is).take (st.length - q.ks.length) = iV (is.take (st.length - q.ks.length)) := by unfold iV; rw [List.map_take]
        rw [ed] at hl5
        rw [ek] at hF5
        have at5 := at3.mono u35
        obtain ⟨dx5, ho5⟩ := tb5.obj
        have hisl : (is.drop (st.length - q.ks.length)).length = q.ks.length := by rw [List.length_drop]; omega
        have hrow : IsRow ps q (keyOf q.lb (is.drop (st.length - q.ks.length))) := by
          refine ⟨_, hisl, fun j kk m h1 h2 => ?_, rfl⟩
          rw [← okd, List.getElem?_drop] at h1
          rw [List.getElem?_drop] at h2
          exact hnum _ _ _ h1 h2
        refine ⟨_, rfl, .inl ⟨rfl, _, SqL.of hF5⟩, _, rfl, r, dx5, _, rfl, ho5, lkN (by decide +kernel) (by decide +kernel) (by decide +kernel), _, rfl, _, rfl, _, rfl, x, q, n + 1, l, _, rfl, at5, hcq, hl5, hisl, fun H6 b6 s6 e6 => ⟨r, P, R, D, ps, x, q, n + 1, b6, _, rfl, tb5.mono s6, at5.mono (Same.tup s6), e6, hrow, by omega, fun H7 m b7 tb7 hm => ?_⟩⟩
        have hF7 := b7 _ _ (Ne.symm nPF) (Ne.symm nRF) (Ne.symm nDF) (s6 _ _ hF5)
        refine ⟨F, _, _, rfl, rfl, hF7, by rw [iV_len, List.length_take, sizeLine_eq]; omega, ?_⟩
        have x8 : SameX F H7 (upd H7 F (.lst (iV (is.take (st.length - q.ks.length)) ++ [.int (m : Int)]))) := (SameX.refl H7).upd
        have u8 : SameT H7 (upd H7 F (.lst (iV (is.take (st.length - q.ks.length)) ++ [.int (m : Int)]))) := SameX.tup x8 hF7
        have tb8 := tb7.monoX x8 hF7 nPF nRF
        have e8 : (upd H7 F (.lst (iV (is.take (st.length - q.ks.length)) ++ [.int (m : Int)]))) F = some (.lst (iV (is.take (st.length - q.ks.length) ++ [m]))) := by
          rw [upd_same]
          unfold iV
          rw [List.map_append]
          rfl
        have b8 : SameB P R D H (upd H7 F (.lst (iV (is.take (st.length - q.ks.length)) ++ [.int (m : Int)]))) := fun c o n1 n2 n3 e => by
          have nc : c ≠ F := ne_of_none e hF
          rw [upd_ne nc]
          exact b7 _ _ n1 n2 n3 (s6 _ _ (x5 _ _ nc (s4 _ _ (b3 _ _ n1 n2 n3 e))))
        have hL8 : (upd H7 F (.lst (iV (is.take (st.length - q.ks.length)) ++ [.int (m : Int)]))) L = some (.lst us) := updK (b7 _ _ (Ne.symm nPL) (Ne.symm nRL) (Ne.symm nDL) (s6 _ _ (x5 _ _ nLF (s4 _ _ hL3)))) nLF
        have u38 : SameT H3 (upd H7 F (.lst (iV (is.take (st.length - q.ks.length)) ++ [.int (m : Int)]))) := (u35.trans (Same.tup s6)).trans (((tb5.mono s6).t b7).trans u8)
        generalize upd H7 F (.lst (iV (is.take (st.length - q.ks.length)) ++ [.int (m : Int)])) = H8 at x8 u8 tb8 e8 b8 hL8 u38 ⊢
        rw [← etk] at tb8 hm
        refine ⟨_, _, is.take (st.length - q.ks.length) ++ [m], stepF Tr.node st q, rfl, b8, hL8, aL3.mono u38, tb8, e8, ?_, ?_, okr, runr, ?_⟩
        · unfold stepF
          rw [List.length_append, List.length_append, List.length_take, List.length_take, hil]
          rfl
        · intro j s m' h1 h2
          unfold stepF at h1
          have hll : (st.take (st.length - q.ks.length)).length = (is.take (st.length - q.ks.length)).length := by rw [List.length_take, List.length_take, hil]
          by_cases hj : j < (is.take (st.length - q.ks.length)).length
          · rw [List.getElem?_append_left (by rw [hll]; exact hj)] at h1
            rw [List.getElem?_append_left hj] at h2
            have hj2 : j < st.length - q.ks.length := by rw [List.length_take] at hj; omega
            rw [List.getElem?_take_of_lt hj2] at h1 h2
            rw [etk]
            exact get_addT (hnum j s m' h1 h2)
          · rw [List.getElem?_append_right (by rw [hll]; omega), hll] at h1
            rw [List.getElem?_append_right (by omega)] at h2
            have hj0 : j - (is.take (st.length - q.ks.length)).length = 0 := by
              have := (List.getElem?_eq_some_iff.mp h2).1
              rw [List.length_singleton] at this
              omega
            rw [hj0] at h1 h2
            have e1 : m = m' := by simpa using h2
            have e2 : Tr.node q.lb (st.drop (st.length - q.ks.length)) = s := by simpa using h1
            rw [okd, ← Tr.eta] at e2
            rw [← e1, ← e2]
            exact hm
        · unfold stepF
          rw [List.length_append, List.length_take]
          simp
          omega
      rintro σ H3 ⟨z1, z2, is, st, rfl, b3, hL3, aL3, tb3, hF3, hil, hnum, ok3, run3, hst⟩
      rw [hul, List.drop_eq_nil_of_le (Nat.le_refl _)] at run3
      rw [hul, List.take_of_length_le (Nat.le_refl _)] at tb3 hnum
      have est : st = [t] := run3
      subst est
      obtain ⟨m, rfl⟩ : ∃ m, is = [m] := by
        match is, hil with
        | [m], _ => exact ⟨m, rfl⟩
      exact ⟨_, rfl, F, _, _, _, rfl, rfl, SqL.of hF3, atI_nat (j := 0) rfl, k H3 m b3 tb3 (hnum 0 t m rfl rfl)⟩
end KK

set_option Elab.async false
set_option linter.all false
set_option maxRecDepth 100000
set_option maxHeartbeats 8000000
namespace KK
open PySem PySem.Spec L2 L3
def belowI (c : Lb) (is : List Nat) : List Nat := match c with
  | .op w => if w = "some" then [] else is
  | _ => is
theorem key_tail {c : Lb} {is : List Nat} (ok : lbOk c is.length) (nw : ∀ m, c ≠ .wit m) : (wordL c ∈ (["yes", "sign", "some"] : List Str) ∧ belowI c is = []) ∨ (wordL c ∉ (["yes", "sign", "some"] : List Str) ∧ (keyOf c is).map kV = .str (wordL c) :: iV is ∧ belowI c is = is) := by
  cases c with
  | yes => exact .inl ⟨by simp [wordL], List.length_eq_zero_iff.mp ok⟩
  | sign z => exact .inl ⟨by simp [wordL], List.length_eq_zero_iff.mp ok.1⟩
  | wit m => exact absurd rfl (nw m)
  | op w =>
    by_cases h : w = "some"
    · subst h
      exact .inl ⟨by simp [wordL], by show (if ("some" : Str) = "some" then [] else is) = []; rw [if_pos rfl]⟩
    · have wa := w_apart w (lb_op ok)
      refine .inr ⟨?_, by rw [← nK_kV]; rfl, if_neg h⟩
      simp only [wordL, List.mem_cons, List.not_mem_nil, or_false]
      exact fun z => z.elim wa.1 fun z => z.elim wa.2.1 h
  | many w =>
    refine .inr ⟨?_, by rw [← nK_kV]; rfl, rfl⟩
    rcases ok.1 with rfl | rfl <;> decide +kernel
def sp_below (K : PySem.W.Frag) (a : Adr) : Sp := fun vs H Q _ => ∃ (b : Addr) (c : Lb) (is : List Nat), vs = [.ref b] ∧ SqT K H b ((keyOf c is).map kV) ∧ lbOk c is.length ∧ (∀ m, c ≠ .wit m) ∧ ∀ H' b', Same H H' → SqT K H' b' (iV (belowI c is)) → Q (.ref b') H'
theorem ok_below {P : Program} {w : World} {K : PySem.W.Frag} {mg : Str → Option Value} {base : Heap} {a : Adr} (T : Txt K mg a) (hw : w.params = a.Pm) : FnOk P w K mg base CX0 1 a.below a.below_fd ["row"] (sp_below K a) := by
  refine T.f_below.ok sc_below (fun vs H Q E h => ?_) (fun cdv A outer s H vs Q E hr h => ?_)
  · obtain ⟨b, c, is, rfl, _⟩ := h
    rfl
  · obtain ⟨b, c, is, rfl, hb, ok, nw, k⟩ := h
    refine ⟨_, (@pss_one _ _ _ (@ps_ret _ _ _ _ (pe_ifExp (@pt_cmpR _ _ _ _ _ _ _ _ (op_inK (K := K) rfl)
      (@pe_ix _ _ _ _ _ _ _ (ix_tupK (K := K) rfl)
      (pv 0)
      pe_int
      (fun _ _ => rfl))
      (@pe_tup _ _ _ _ _ (@pa_c _ _ _ _ _ pe_str
      (@pa_c _ _ _ _ _ pe_str
      (@pa_c _ _ _ _ _ pe_str
      pa_nil
      (by rfl))
      (by rfl))
      (by rfl)))
      (by with_unfolding_all rfl)) (@pe_tup _ _ _ _ _ pa_nil) (pe_slice (sl_tupK (K := K) rfl) (pv 0) (po_some pe_int) po_none)))), ?_⟩
    obtain ⟨r0, ekr⟩ := key_head (c := c) (is := is)
    have hb0 : SqT K H b (.str (wordL c) :: r0.map kV) := by rw [ekr] at hb; exact hb
    refine ⟨_, rfl, b, _, _, _, rfl, rfl, hb0, atI_nat (j := 0) rfl, by rw [sizeLine_eq]; simp, fun q hq => ⟨q, _, rfl, .inr (SqT.of upd_same), rfl, rfl, _, rfl, ?_⟩⟩
    have s1 := same_upd (o := .tup [.str "yes", .str "sign", .str "some"]) hq
    generalize upd H q (.tup [.str "yes", .str "sign", .str "some"]) = H1 at s1 ⊢
    rcases key_tail ok nw with ⟨h1, h2⟩ | ⟨h1, h2, h3⟩
    · refine iteIn (ss := ["yes", "sign", "some"]) h1 ⟨by rw [sizeLine_eq]; simp, fun e he => ?_⟩
      rw [h2] at k
      exact k _ e (s1.trans (same_upd he)) (SqT.of upd_same)
    · refine iteNin (ss := ["yes", "sign", "some"]) h1 ?_
      rw [h2] at hb
      refine ⟨_, rfl, _, rfl, b, _, rfl, (Same.tup s1 _ _ _ hb), cut_not (by decide) (by simp; omega), fun e he => ?_⟩
      rw [cutV_one]
      rw [h3] at k
      exact k _ e (s1.trans (same_upd he)) (SqT.of upd_same)
end KK

set_option Elab.async false
set_option linter.all false
set_option maxRecDepth 100000
set_option maxHeartbeats 8000000
namespace KK
open PySem PySem.Spec L2 L3
theorem pi_tupK {X : Cx} {K : PySem.W.Frag} {tg l : Expr} {tl : TE} (hK : X.K = K) (hl : PE X l tl) : PI X tg l (iTup K tl) := by subst hK; exact pi_tup hl
def Nums (ps : List Tr) (is : List Nat) (ts : List Tr) : Prop := is.length = ts.length ∧ ∀ (j : Nat) m s, is[j]? = some m → ts[j]? = some s → ps[m]? = some s
theorem nums_cons {ps : List Tr} {m : Nat} {is : List Nat} {s : Tr} {ts : List Tr} : Nums ps (m :: is) (s :: ts) ↔ ps[m]? = some s ∧ Nums ps is ts := by
  constructor
  · rintro ⟨h1, h2⟩
    exact ⟨h2 0 m s rfl rfl, by simpa using h1, fun j m' s' e1 e2 => h2 (j + 1) m' s' (by simpa using e1) (by simpa using e2)⟩
  · rintro ⟨h0, h1, h2⟩
    refine ⟨by simp [h1], fun j m' s' e1 e2 => ?_⟩
    cases j with
    | zero =>
      have a : m = m' := by simpa using e1
      have b : s = s' := by simpa using e2
      rw [← a, ← b]; exact h0
    | succ j => exact h2 j m' s' (by simpa using e1) (by simpa using e2)
theorem nums_app {ps : List Tr} {is js : List Nat} {ts rs : List Tr} (h : Nums ps is ts) (g : Nums ps js rs) : Nums ps (is ++ js) (ts ++ rs) := by
  refine ⟨by rw [List.length_append, List.length_append, h.1, g.1], fun i u k h1 h2 => ?_⟩
  by_cases hi : i < is.length
  · rw [List.getElem?_append_left hi] at h1
    rw [List.getElem?_append_left (by rw [← h.1]; exact hi)] at h2
    exact h.2 i u k h1 h2
  · rw [List.getElem?_append_right (by omega)] at h1
    rw [List.getElem?_append_right (by rw [← h.1]; omega), ← h.1] at h2
    exact g.2 _ u k h1 h2
theorem nums_one {ps : List Tr} {m : Nat} {s : Tr} (h : ps[m]? = some s) : Nums ps [m] [s] := nums_cons.mpr ⟨h, rfl, fun j a b e => by simp at e⟩
theorem nums_mem {ps : List Tr} (nd : ps.Nodup) : ∀ {fs : List Nat} {F : List Tr}, Nums ps fs F → ∀ {m : Nat} {s : Tr}, ps[m]? = some s → (m ∈ fs ↔ s ∈ F)
  | [], [], _, m, s, _ => by simp
  | [], _ :: _, h, _, _, _ => by have := h.1; simp at this
  | _ :: _, [], h, _, _, _ => by have := h.1; simp at this
  | a :: fs, t :: F, h, m, s, hm => by
    obtain ⟨h1, h2⟩ := nums_cons.mp h
    rw [List.mem_cons, List.mem_cons, nums_mem nd h2 hm]
    constructor
    · rintro (e | e)
      · left; rw [e, h1] at hm; exact (Option.some.inj hm).symm
      · exact .inr e
    · rintro (e | e)
      · left; rw [e] at hm; exact nd_ix nd hm h1
      · exact .inr e
theorem nums_below {ps : List Tr} {t : Tr} {is : List Nat} (h : Nums ps is t.ks) : Nums ps (belowI t.lb is) (belowT t) := by
  unfold belowI belowT
  cases t.lb with
  | op w =>
    show Nums ps (if w = "some" then [] else is) (if w = "some" then [] else t.ks)
    split
    · exact ⟨rfl, fun j m s e => by simp at e⟩
    · exact h
  | yes => exact h
  | sign z => exact h
  | wit m => exact h
  | many w => exact h
/-- the first that is not yet there -/
theorem nums_first {ps : List Tr} (nd : ps.Nodup) {fs : List Nat} {F : List Tr} (hF : Nums ps fs F) : ∀ {bi : List Nat} {ks : List Tr}, Nums ps bi ks →
    (bi.filter (fun m => !decide (m ∈ fs)) = [] ∧ ∀ k ∈ ks, k ∈ F) ∨ ∃ a1 rest A k B, bi.filter (fun m => !decide (m ∈ fs)) = a1 :: rest ∧ ks = A ++ k :: B ∧ (∀ x ∈ A, x ∈ F) ∧ ps[a1]? = some k ∧ k ∉ F
  | [], [], _ => .inl ⟨rfl, fun k h => by cases h⟩
  | [], _ :: _, h => by have := h.1; simp at this
  | _ :: _, [], h => by have := h.1; simp at this
  | m :: bi, k :: ks, h => by
    obtain ⟨h1, h2⟩ := nums_cons.mp h
    have hm := nums_mem nd hF h1
    by_cases hk : m ∈ fs
    · have e : (m :: bi).filter (fun m => !decide (m ∈ fs)) = bi.filter (fun m => !decide (m ∈ fs)) := List.filter_cons_of_neg (by simp [hk])
      rw [e]
      rcases nums_first nd hF h2 with ⟨g1, g2⟩ | ⟨a1, rest, A, k', B, g1, g2, g3, g4, g5⟩
      · exact .inl ⟨g1, fun x hx => by rcases List.mem_cons.mp hx with rfl | hx; exact hm.mp hk; exact g2 x hx⟩
      · exact .inr ⟨a1, rest, k :: A, k', B, g1, by rw [g2]; rfl, fun x hx => by rcases List.mem_cons.mp hx with rfl | hx; exact hm.mp hk; exact g3 x hx, g4, g5⟩
    · have e : (m :: bi).filter (fun m => !decide (m ∈ fs)) = m :: bi.filter (fun m => !decide (m ∈ fs)) := List.filter_cons_of_pos (by simp [hk])
      exact .inr ⟨m, _, [], k, ks, e, rfl, fun x hx => (by cases hx), h1, fun z => hk (hm.mpr z)⟩
theorem iV_app (a b : List Nat) : iV (a ++ b) = iV a ++ iV b := by unfold iV; rw [List.map_append]
def INv (H : Hp) (r Fd Sn W : Addr) (i : Nat) (ps tgt : List Tr) (m : Nat) (σ : L3.St) (H' : Hp) : Prop := ∃ (z1 z2 : Option V) (ws fs : List Nat) (w F : List Tr) (S : Int → Bool), σ = [some (.ref r), some (.int (i : Int)), some (.ref Fd), some (.ref Sn), some (.ref W), z1, z2] ∧ Same H H' ∧ H' Fd = some (.lst (iV fs)) ∧ H' Sn = some (.set S fs.length) ∧ H' W = some (.lst (iV ws.reverse)) ∧ Nums ps ws w ∧ Nums ps fs F ∧ (∀ q : Nat, S (q : Int) = true ↔ q ∈ fs) ∧ closedB F ∧ contD w F = tgt ∧ chainD w ∧ (∀ s ∈ w, s ∉ F) ∧ (∀ s ∈ w, psz s ≤ 2000000) ∧ m = (tgt.length - F.length) * 2000001 + (2000000 - w.length)
def sp_Table_inner_numbers (K : PySem.W.Frag) (a : Adr) : Sp := fun vs H Q _ => ∃ r P R D ps t, ∃ i : Nat, vs = [.ref r, .int (i : Int)] ∧ TbK K a.Pm a.C_Table H r P R D ps ∧ ps[i]? = some t ∧ (∀ s ∈ ps, isC s = true) ∧ psz t ≤ 2000000 ∧ (addAll [] (postB t)).length < 4000 ∧ ∀ H' L is, Same H H' → H L = none → H' L = some (.lst (iV is)) → Nums ps is (addAll [] (postB t)) → Q (.ref L) H'
theorem ok_Table_inner_numbers {P : Program} {w : World} {K : PySem.W.Frag} {mg : Str → Option Value} {base : Heap} {a : Adr} (T : Txt K mg a) (hw : w.params = a.Pm) : FnOk P w K mg base CX0 2 a.Table_inner_numbers a.Table_inner_numbers_fd ["self", "number"] (sp_Table_inner_numbers K a) := by
  have G_below := ok_below (P := P) (w := w) (base := base) T hw
  refine T.f_Table_inner_numbers.ok sc_Table_inner_numbers (fun vs H Q E h => ?_) (fun cdv A outer s H vs Q E hr h => ?_)
  · obtain ⟨r, P, R, D, ps, t, i, rfl, _⟩ := h
    rfl
  · obtain ⟨r, P, R, D, ps, t, i, rfl, tb, hi, hc, hz, hfew, k⟩ := h
    refine ⟨_, (@pss_cons _ _ _ _ _ (@ps_set _ _ (2) _ _ _ _ sc_Table_inner_numbers.nd
      rfl
      (by first | exact Or.inl rfl | exact Or.inr rfl)
      (@pe_lst _ _ _ _ pa_nil)
      (by rfl)
      (by first | exact .inl rfl | exact .inr rfl | assumption))
      (@pss_cons _ _ _ _ _ (@ps_set _ _ (3) _ _ _ _ sc_Table_inner_numbers.nd
      rfl
      (by first | exact Or.inl rfl | exact Or.inr rfl)
      (pe_callTy0 call_set0 rfl T.b_set PyProof.Rows.Boot.«set»)
      (by rfl)
      (by first | exact .inl rfl | exact .inr rfl | assumption))
      (@pss_cons _ _ _ _ _ (@ps_set _ _ (4) _ _ _ _ sc_Table_inner_numbers.nd
      rfl
      (by first | exact Or.inl rfl | exact Or.inr rfl)
      (@pe_lst _ _ _ _ (@pa_cons _ _ _ _ _ (pv 1)
      pa_nil
      (by rfl)))
      (by rfl)
      (by first | exact .inl rfl | exact .inr rfl | assumption))
      (@pss_cons _ _ _ _ _ (ps_while PassesOwn.never (pt_truthK (K := K) rfl (pv 4) (fun _ => rfl)) (@pss_cons _ _ _ _ _ (@ps_set _ _ (5) _ _ _ _ sc_Table_inner_numbers.nd
      rfl
      (by first | exact Or.inl rfl | exact Or.inr rfl)
      (@pe_ix _ _ _ _ _ _ _ (ix_listK (K := K) rfl)
      (pv 4)
      (pe_un un_neg pe_int)
      (fun _ _ => rfl))
      (by rfl)
      (by first | exact .inl rfl | exact .inr rfl | assumption))
      (@pss_cons _ _ _ _ _ (ps_setComp (i := 6) sc_Table_inner_numbers.nd rfl rfl (Nc := ["inner", "seen"]) (ix := [none, some 3]) (CompOk.of (by decide +kernel : compChk (defScope s_Table_inner_numbers) ["self", "number", "found", "seen", "waiting", "at", "ahead"] ["inner", "seen"] [none, some 3] _ = true)) rfl (pi_tupK (K := K) rfl (pe_call G_below (hr.mono (by decide)) rfl T.g_below T.f_below.kp T.n_below .nil pass0 (@pa_cons _ _ _ _ _ (@pe_ix _ _ _ _ _ _ _ (ix_listK (K := K) rfl)
      (pe_fldK (K := K) rfl (pv 0) rfl)
      (pv 5)
      (fun _ _ => rfl))
      pa_nil
      (by rfl)))) (fun _ _ _ _ _ => (pg_name (i := 0) (show List.Nodup (["inner", "seen"] : List Str) by decide +kernel) rfl (by first | exact Or.inl rfl | exact Or.inr rfl))) (fun _ _ _ _ _ => (pts_one (@pt_cmpR _ _ _ _ _ _ _ _ op_notInS
      (pv 0)
      (pv 1)
      (by with_unfolding_all rfl)))) (fun _ _ _ _ _ => (pv 0)))
      (@pss_one _ _ _ (@ps_if _ _ _ _ _ _ _ _ (pt_truthK (K := K) rfl (pv 6) (fun _ => rfl))
      (@pss_one _ _ _ (@ps_expr _ _ _ _ (pe_bm PySem.F.plainAttrs_list PySem.F.slot_list_append PySem.F.type_list_append mt_append (pv 4) (@pa_cons _ _ _ _ _ (@pe_ix _ _ _ _ _ _ _ (ix_listK (K := K) rfl)
      (pv 6)
      pe_int
      (fun _ _ => rfl))
      pa_nil
      (by rfl)))
      (by rfl)))
      (@pss_cons _ _ _ _ _ (@ps_expr _ _ _ _ (pe_bm PySem.F.plainAttrs_list PySem.F.slot_list_append PySem.F.type_list_append mt_append (pv 2) (@pa_cons _ _ _ _ _ (pe_bm0 PySem.F.plainAttrs_list PySem.F.slot_list_pop PySem.F.type_list_pop mt_pop (pv 4))
      pa_nil
      (by rfl)))
      (by rfl))
      (@pss_one _ _ _ (@ps_expr _ _ _ _ (pe_bm PySem.F.plainAttrs_set PySem.F.slot_set_add PySem.F.type_set_add mt_setAdd (pv 3) (@pa_cons _ _ _ _ _ (pv 5)
      pa_nil
      (by rfl)))
      (by rfl)))))))))
      (@pss_one _ _ _ (@ps_ret _ _ _ _ (pv 2))))))), ?_⟩
    refine ⟨by decide, fun Fd hFd => ?_⟩
    have s1 := same_upd (o := .lst []) hFd
    have e1 : (upd H Fd (.lst [])) Fd = some (.lst (iV [])) := upd_same
    generalize upd H Fd (.lst []) = H1 at s1 e1 ⊢
    refine ⟨rfl, fun Sn hSn => ?_⟩
    have s2 := same_upd (o := .set (fun _ => false) 0) hSn
    have e2 : (upd H1 Sn (.set (fun _ => false) 0)) Sn = some (.set (fun _ => false) 0) := upd_same
    have e12 := s2 _ _ e1
    have hSn0 := s1.free hSn
    generalize upd H1 Sn (.set (fun _ => false) 0) = H2 at s2 e2 e12 ⊢
    refine ⟨_, rfl, by rw [sizeLine_eq]; simp, fun W hW => ?_⟩
    have s3 := same_upd (o := .lst [.int (i : Int)]) hW
    have e3 : (upd H2 W (.lst [.int (i : Int)])) W = some (.lst (iV [i].reverse)) := upd_same
    have e13 := s3 _ _ e12
    have e23 := s3 _ _ e2
    have hW0 := (s1.trans s2).free hW
    have nFW : Fd ≠ W := fun e => by rw [e] at e12; rw [e12] at hW; cases hW
    have nSW : Sn ≠ W := fun e => by rw [e] at e2; rw [e2] at hW; cases hW
    have nFS : Fd ≠ Sn := fun e => by rw [e] at e1; rw [e1] at hSn; cases hSn
    generalize upd H2 W (.lst [.int (i : Int)]) = H3 at s3 e3 e13 e23 ⊢
    have s03 := s1.trans (s2.trans s3)
    clear s1 e1 s2 e2 e12 s3 hSn hW
    have nd := tb.nd
    generalize htgt : addAll [] (postB t) = tgt at k hfew
    refine ⟨INv H r Fd Sn W i ps tgt, ⟨_, none, none, [i], [], [t], [], fun _ => false, rfl, s03, e13, e23, e3, nums_one hi, ⟨rfl, fun j m s e => by simp at e⟩, fun q => by simp, closed_nil, htgt, trivial, fun s _ z => (by cases z), fun s hs => by rw [List.mem_singleton.mp hs]; exact hz, rfl⟩, ?_⟩
    clear e13 e23 e3 s03 H3
    rintro m σ H3 ⟨z1, z2, ws, fs, w, F, S, rfl, s3, hFd3, hSn3, hW3, nw, nf, hS, cl, hcont, hch, hout, hps, rfl⟩
    refine ⟨_, rfl, !(iV ws.reverse).isEmpty, .inl ⟨_, SqL.of hW3, rfl⟩, ?_⟩
    cases ws with
    | nil =>
      have ew : w = [] := List.length_eq_zero_iff.mp nw.1.symm
      subst ew
      refine iteF ?_
      have eF : F = tgt := hcont
      rw [eF] at nf
      exact ⟨_, rfl, k H3 Fd fs s3 hFd hFd3 nf⟩
    | cons a0 ws =>
      cases w with
      | nil => have := nw.1; simp at this
      | cons t0 w =>
        obtain ⟨hp0, nw'⟩ := nums_cons.mp nw
        have erev : iV (a0 :: ws).reverse = iV ws.reverse ++ [.int (a0 : Int)] := by rw [List.reverse_cons, iV_app]; rfl
        rw [erev] at hW3 ⊢
        have ene : (iV ws.reverse ++ [V.int (a0 : Int)]).isEmpty = false := by simp
        rw [ene]
        refine iteT ⟨fun σ' H' => ∃ m', m' < (tgt.length - F.length) * 2000001 + (2000000 - (t0 :: w).length) ∧ INv H r Fd Sn W i ps tgt m' σ' H', fun _ _ z => z, ?_⟩
        refine ⟨_, rfl, _, rfl, W, _, _, .int (a0 : Int), rfl, rfl, SqL.of hW3, atI_last, ?_⟩
        have tb3 := tb.mono s3
        obtain ⟨dx, ho⟩ := tb3.obj
        obtain ⟨np, pv, hP, aP⟩ := tb3.pl
        obtain ⟨rows, hR, rl, hrt, hrr, hD⟩ := tb3.rl
        have ha0 : a0 < ps.length := (List.getElem?_eq_some_iff.mp hp0).1
        have hrk : rows[a0]? = some rows[a0] := List.getElem?_eq_getElem (by omega)
        have hb := hrt _ (List.getElem_mem (show a0 < rows.length by omega))
        obtain ⟨is0, il0, in0, ik0⟩ := hrr a0 t0 _ hp0 hrk
        have hrv : (rows.map fun e => V.ref e.2)[a0]? = some (V.ref rows[a0].2) := by rw [List.getElem?_map, hrk]; rfl
        generalize rows[a0].2 = b at hb hrv
        have t0m : t0 ∈ ps := List.mem_of_getElem? hp0
        have ok0 := aP.oks t0 t0m
        have nwit : ∀ m, t0.lb ≠ .wit m := fun m e => by
          have h1 := hc t0 t0m
          rw [Tr.eta t0, isC_node, e] at h1
          unfold isCF at h1
          simp at h1
        rw [ik0] at hb
        have n0 : Nums ps is0 t0.ks := ⟨il0, fun j m s e1 e2 => in0 j s m e2 e1⟩
        have nb := nums_below n0
        refine ⟨_, rfl, r, _, dx, _, _, rfl, ho, T.cl_Table, T.na_Table_rows, lkR, _, rfl, R, _, _, _, rfl, rfl, SqL.of hR, atI_nat hrv, b, t0.lb, is0, rfl, hb, by rw [il0]; exact ok0, nwit, fun H4 b' s4 sq4 => ⟨b', rfl, ⟨_, sq4⟩, fun Dc hDc => ?_⟩⟩
        generalize belowI t0.lb is0 = bi at nb sq4
        have hbl : bi.length ≤ 8 := by
          have h1 := nb.1
          have h2 : (belowT t0).length ≤ t0.ks.length := by
            unfold belowT
            split
            · split
              · simp
              · exact Nat.le_refl _
            · exact Nat.le_refl _
          have := lb8 ok0
          omega
        have s04 := s3.trans s4
        have hSn4 := s4 _ _ hSn3
        refine comp_gen (n := bi.length) (fun j σ' H' => ∃ z, σ' = [z, some (.ref Sn)] ∧ H' Dc = some (.lst (iV ((bi.take j).filter (fun m => !decide (m ∈ fs))))) ∧ Same H4 H') ?_ ?_ ?_ ?_ ?_
        · exact ⟨none, rfl, upd_same, same_upd hDc⟩
        · rintro j σ' H' hj ⟨z, rfl, _, sj⟩
          exact ⟨iV bi, (iV bi)[j]'(by rw [iV_len]; exact hj), Same.seqT sj sq4, List.getElem?_eq_getElem (by rw [iV_len]; exact hj)⟩
        · rintro σ' H' ⟨z, rfl, _, sj⟩
          exact ⟨_, Same.seqT sj sq4, by rw [iV_len]; exact Nat.le_refl _⟩
        · rintro j x σ' H' H5 hj ⟨z, rfl, hDj, sj⟩ ⟨rfl, hx⟩ N N0 hN hN0
          have hxj := hx _ (Same.seqT sj sq4)
          have hbj : bi[j]? = some bi[j] := List.getElem?_eq_getElem hj
          have ex : x = V.int ((bi[j] : Nat) : Int) := by
            unfold iV at hxj
            rw [List.getElem?_map, hbj] at hxj
            exact (Option.some.inj hxj).symm
          subst ex
          have etk : (bi.take (j + 1)) = bi.take j ++ [bi[j]] := by rw [List.take_succ, hbj]; rfl
          refine ⟨_, rfl, _, rfl, _, Sn, S, _, rfl, rfl, sj _ _ hSn4, _, rfl, ?_⟩
          by_cases hm : bi[j] ∈ fs
          · have hSm : S ((bi[j] : Nat) : Int) = true := (hS _).mpr hm
            rw [hSm]
            refine iteF (hN0 _ _ ⟨_, rfl, ?_, sj⟩)
            rw [etk, List.filter_append, List.filter_cons_of_neg (by simp [hm]), List.filter_nil, List.append_nil]
            exact hDj
          · have hSm : S ((bi[j] : Nat) : Int) = false := by
              cases h : S ((bi[j] : Nat) : Int) with
              | false => rfl
              | true => exact absurd ((hS _).mp h) hm
            rw [hSm]
            refine iteT ⟨_, rfl, hN _ _ _ _ hDj ?_ ⟨_, rfl, ?_, ?_⟩⟩
            · rw [iV_len, sizeLine_eq]
              have := List.length_filter_le (fun m => !decide (m ∈ fs)) (bi.take j)
              rw [List.length_take] at this
              omega
            · rw [upd_same, etk, List.filter_append, List.filter_cons_of_pos (by simp [hm]), List.filter_nil, iV_app]
              rfl
            · exact ((Same.x sj).upd).same hDc
        rintro σ' H5 ⟨z, rfl, hA5, s5⟩
        rw [List.take_of_length_le (Nat.le_refl _)] at hA5
        have s05 := s04.trans s5
        have hW5 := s5 _ _ (s4 _ _ hW3)
        have hFd5 := s5 _ _ (s4 _ _ hFd3)
        have hSn5 := s5 _ _ hSn4
        have lch := chain_len hch hps
        have hFt := cont_pre (t0 :: w) F
        rw [hcont] at hFt
        obtain ⟨Bt, eBt⟩ := hFt
        have hFl : F.length ≤ tgt.length := by rw [eBt, List.length_append]; omega
        have hfl := nf.1
        refine ⟨_, rfl, !(iV (bi.filter fun m => !decide (m ∈ fs))).isEmpty, .inl ⟨_, SqL.of hA5, rfl⟩, ?_⟩
        rcases nums_first nd nf nb with ⟨g1, g2⟩ | ⟨a1, rest, A, kk, B, g1, g2, g3, g4, g5⟩
        · rw [g1]
          refine iteF ?_
          obtain ⟨p1, p2⟩ := fin_pop cl g2 (hout t0 (by simp))
          refine ⟨_, rfl, .inl ⟨rfl, _, SqL.of hFd5⟩, _, rfl, .inl ⟨rfl, _, SqL.of hW5⟩, W, _, .int (a0 : Int), rfl, rfl, hW5, by rw [List.length_append, List.length_singleton, Nat.add_sub_cancel, List.getElem?_append_right (Nat.le_refl _), Nat.sub_self]; rfl, ?_⟩
          rw [List.dropLast_concat]
          have hFd6 : (upd H5 W (.lst (iV ws.reverse))) Fd = some (.lst (iV fs)) := updK hFd5 nFW
          have hSn6 : (upd H5 W (.lst (iV ws.reverse))) Sn = some (.set S fs.length) := updK hSn5 nSW
          have hW6 : (upd H5 W (.lst (iV ws.reverse))) W = some (.lst (iV ws.reverse)) := upd_same
          have s06 : Same H (upd H5 W (.lst (iV ws.reverse))) := ((Same.x s05).upd).same hW0
          generalize upd H5 W (.lst (iV ws.reverse)) = H6 at hFd6 hSn6 hW6 s06 ⊢
          refine ⟨Fd, _, _, rfl, rfl, hFd6, by rw [iV_len, sizeLine_eq]; omega, ?_⟩
          have hFd7 : (upd H6 Fd (.lst (iV fs ++ [.int (a0 : Int)]))) Fd = some (.lst (iV (fs ++ [a0]))) := by rw [upd_same, iV_app]; rfl
          have hSn7 : (upd H6 Fd (.lst (iV fs ++ [.int (a0 : Int)]))) Sn = some (.set S fs.length) := updK hSn6 (Ne.symm nFS)
          have hW7 : (upd H6 Fd (.lst (iV fs ++ [.int (a0 : Int)]))) W = some (.lst (iV ws.reverse)) := updK hW6 (Ne.symm nFW)
          have s07 : Same H (upd H6 Fd (.lst (iV fs ++ [.int (a0 : Int)]))) := ((Same.x s06).upd).same hFd
          generalize upd H6 Fd (.lst (iV fs ++ [.int (a0 : Int)])) = H7 at hFd7 hSn7 hW7 s07 ⊢
          refine ⟨_, rfl, .inr (.inr (.inr ⟨rfl, _, _, hSn7⟩)), _, rfl, Sn, S, fs.length, (a0 : Int), rfl, rfl, hSn7, by omega, ?_⟩
          have hSa : S (a0 : Int) = false := by
            cases h : S (a0 : Int) with
            | false => rfl
            | true => exact absurd ((nums_mem nd nf hp0).mp ((hS a0).mp h)) (hout t0 (by simp))
          rw [hSa]
          have hFl2 : (F ++ [t0]).length ≤ tgt.length := by
            have hc2 : contD w (F ++ [t0]) = tgt := by rw [← p1]; exact hcont
            obtain ⟨B2, e2⟩ := cont_pre w (F ++ [t0])
            rw [hc2] at e2
            rw [e2]
            simp
          have lF2 : (F ++ [t0]).length = F.length + 1 := by rw [List.length_append, List.length_singleton]
          refine ⟨_, ?_, _, _, ws, fs ++ [a0], w, F ++ [t0], fun j => S j || decide (j = (a0 : Int)), rfl, ((Same.x s07).upd).same hSn0, updK hFd7 nFS, ?_, updK hW7 (Ne.symm nSW), nw', nums_app nf (nums_one hp0), ?_, p2, by rw [← p1]; exact hcont, ?_, ?_, fun s hs => hps s (List.mem_cons_of_mem _ hs), rfl⟩
          · rw [List.length_cons] at lch ⊢
            omega
          · rw [upd_same, List.length_append, List.length_singleton]
            rfl
          · intro q
            rw [List.mem_append, List.mem_singleton, Bool.or_eq_true, hS, decide_eq_true_iff]
            constructor
            · rintro (h | h)
              · exact .inl h
              · exact .inr (by omega)
            · rintro (h | h)
              · exact .inl h
              · exact .inr (by omega)
          · cases w with
            | nil => trivial
            | cons s r => exact hch.2
          · intro s hs z
            rcases List.mem_append.mp z with z | z
            · exact hout s (List.mem_cons_of_mem _ hs) z
            · have := chain_psz hch s hs
              rw [List.mem_singleton.mp z] at this
              omega
        · rw [g1]
          refine iteT ?_
          rw [g1] at hA5
          obtain ⟨p1, p2⟩ := fin_push cl g2 g3
          have kb : kk ∈ belowT t0 := by rw [g2]; simp
          have hch2 : chainD (kk :: t0 :: w) := ⟨kb, hch⟩
          have hps2 : ∀ s ∈ kk :: t0 :: w, psz s ≤ 2000000 := fun s hs => by
            rcases List.mem_cons.mp hs with rfl | hs
            · have := psz_kid (below_sub kb); have := hps t0 (by simp); omega
            · exact hps s hs
          have lch2 := chain_len hch2 hps2
          refine ⟨_, rfl, .inl ⟨rfl, _, SqL.of hW5⟩, _, rfl, Dc, _, _, .int (a1 : Int), rfl, rfl, SqL.of hA5, atI_nat (j := 0) rfl, W, _, _, rfl, rfl, hW5, by rw [List.length_append, iV_len, List.length_reverse, List.length_singleton, sizeLine_eq]; have := nw'.1; simp at lch2; omega, ?_⟩
          refine ⟨_, ?_, _, _, a1 :: a0 :: ws, fs, kk :: t0 :: w, F, S, rfl, ((Same.x s05).upd).same hW0, updK hFd5 nFW, updK hSn5 nSW, ?_, nums_cons.mpr ⟨g4, nw⟩, nf, hS, cl, ?_, hch2, ?_, hps2, rfl⟩
          · simp only [List.length_cons] at lch2 ⊢
            omega
          · rw [upd_same, List.reverse_cons, iV_app, List.reverse_cons, iV_app]
            rfl
          · show contD w (addAll (addAll F (postB kk)) (postB t0)) = tgt
            rw [p1]
            exact hcont
          · intro s hs
            rcases List.mem_cons.mp hs with rfl | hs
            · exact g5
            · exact hout s hs
end KK

set_option Elab.async false
set_option linter.all false
set_option maxRecDepth 100000
set_option maxHeartbeats 8000000
namespace KK
open PySem PySem.Spec L2 L3
theorem isC_addAll {t : Tr} (hc : isC t = true) : ∀ s ∈ addAll [] (post t), isC s = true := fun s hs => by
  rcases mem_addAll.mp hs with h | h
  · cases h
  · exact isC_post _ (Nat.le_refl _) hc h
theorem own_same {H : Hp} {x dx : Addr} {o o' : HO} (h1 : H x = none) (h2 : H dx = none) : Same H (upd (upd H dx o) x o') := fun b u e => by
  rw [upd_ne (ne_of_none e h1), upd_ne (ne_of_none e h2)]; exact e
def sp_inner_parts (K : PySem.W.Frag) (a : Adr) : Sp := fun vs H Q _ => ∃ v t n, vs = [v] ∧ At K n H v t ∧ isC t = true ∧ psz t ≤ 2000000 ∧ (addAll [] (post t)).length < 4000 ∧ ∀ H' L us m, Same H H' → H L = none → H' L = some (.lst us) → AtL K m H' us (addAll [] (postB t)) → Q (.ref L) H'
theorem ok_inner_parts {P : Program} {w : World} {K : PySem.W.Frag} {mg : Str → Option Value} {base : Heap} {a : Adr} (T : Txt K mg a) (hw : w.params = a.Pm) : FnOk P w K mg base CX0 5 a.inner_parts a.inner_parts_fd ["core"] (sp_inner_parts K a) := by
  have G_Table_init := ok_Table_init (P := P) (w := w) (base := base) T hw
  have G_Table_number_of := ok_Table_number_of (P := P) (w := w) (base := base) T hw
  have G_Table_inner_numbers := ok_Table_inner_numbers (P := P) (w := w) (base := base) T hw
  refine T.f_inner_parts.ok sc_inner_parts (fun vs H Q E h => ?_) (fun cdv A outer s H vs Q E hr h => ?_)
  · obtain ⟨v, t, n, rfl, _⟩ := h
    rfl
  · obtain ⟨v, t, n, rfl, hat, hc, hz, hfew, k⟩ := h
    refine ⟨_, (@pss_cons _ _ _ _ _ (@ps_set _ _ (1) _ _ _ _ sc_inner_parts.nd
      rfl
      (by first | exact Or.inl rfl | exact Or.inr rfl)
      (pe_make0 T.mk_Table G_Table_init (hr.mono (by decide)) rfl T.g_Table T.n_Table_init .nil pass0)
      (by rfl)
      (by first | exact .inl rfl | exact .inr rfl | assumption))
      (@pss_cons _ _ _ _ _ (@ps_set _ _ (2) _ _ _ _ sc_inner_parts.nd
      rfl
      (by first | exact Or.inl rfl | exact Or.inr rfl)
      (pe_meth (pv 1) T.cl_Table T.m_Table_number_of G_Table_number_of (hr.mono (by decide)) T.n_Table_number_of .nil pass0 (@pa_cons _ _ _ _ _ (pv 0)
      pa_nil
      (by rfl)))
      (by rfl)
      (by first | exact .inl rfl | exact .inr rfl | assumption))
      (@pss_one _ _ _ (@ps_ret _ _ _ _ (pe_comp (Nc := ["inner", "table"]) (ix := [none, some 1]) (CompOk.of (by decide +kernel : compChk (defScope s_inner_parts) ["core", "table", "number"] ["inner", "table"] [none, some 1] _ = true)) rfl (pi_listK (K := K) rfl (pe_meth (pv 1) T.cl_Table T.m_Table_inner_numbers G_Table_inner_numbers (hr.mono (by decide)) T.n_Table_inner_numbers .nil pass0 (@pa_cons _ _ _ _ _ (pv 2)
      pa_nil
      (by rfl)))) (fun _ _ _ _ _ => (pg_name (i := 0) (show List.Nodup (["inner", "table"] : List Str) by decide +kernel) rfl (by first | exact Or.inl rfl | exact Or.inr rfl))) (fun _ _ _ _ _ => pts_nil) (fun _ _ _ _ _ => (@pe_ix _ _ _ _ _ _ _ (ix_listK (K := K) rfl)
      (pe_fldK (K := K) rfl (pv 1) rfl)
      (pv 0)
      (fun _ _ => rfl)))))))), ?_⟩
    have hfewB : (addAll [] (postB t)).length < 4000 := Nat.lt_of_le_of_lt (partsB_few t) hfew
    refine fun x dx nx ndx nex => ⟨x, dx, rfl, upd_same, fun H1 P R D x1 hP hR hD nP nR nD tb1 => ⟨rfl, ?_⟩⟩
    have s0 := own_same (o := .own x) (o' := .ins a.C_Table dx []) nx ndx
    have s1 : Same H H1 := fun b u e => x1 _ _ (ne_of_none e nx) (s0 _ _ e)
    have fr : ∀ {c : Addr}, (upd (upd H dx (.own x)) x (.ins a.C_Table dx [])) c = none → H c = none := fun h => s0.free h
    have hP0 := fr hP
    have hR0 := fr hR
    have hD0 := fr hD
    obtain ⟨dx1, ho1⟩ := tb1.obj
    refine ⟨_, rfl, x, dx1, _, rfl, ho1, lkN (by decide +kernel) (by decide +kernel) (by decide +kernel), _, rfl, x, P, R, D, v, t, n, rfl, tb1, hat.mono (Same.tup s1), hc, hz, hfew, fun H2 i b2 tb2 hi => ?_⟩
    have s2 : Same H H2 := fun b u e => b2 _ _ (ne_of_none e hP0) (ne_of_none e hR0) (ne_of_none e hD0) (s1 _ _ e)
    obtain ⟨dx2, ho2⟩ := tb2.obj
    refine ⟨_, rfl, x, dx2, _, rfl, ho2, lkN (by decide +kernel) (by decide +kernel) (by decide +kernel), _, rfl, x, P, R, D, _, t, i, rfl, tb2, hi, isC_addAll hc, hz, hfewB, fun H3 L is s3 L0 hL nums => ⟨L, rfl, ⟨_, SqL.of hL⟩, fun Dc hDc => ?_⟩⟩
    have tb3 := tb2.mono s3
    obtain ⟨dx3, ho3⟩ := tb3.obj
    obtain ⟨np, pv, hP3, aP⟩ := tb3.pl
    have hnl := nums.1
    refine comp_map (K := K) hDc (SqL.of hL) (by rw [iV_len, sizeLine_eq]; omega) (fun j u G => ∀ s, (addAll [] (postB t))[j]? = some s → ∃ m, is[j]? = some m ∧ pv[m]? = some u) (fun _ _ _ _ _ q => q) ?_ ?_
    · intro j y H4 N hy s4 hN
      unfold iV at hy
      rw [List.getElem?_map] at hy
      obtain ⟨m, hm, rfl⟩ := Option.map_eq_some_iff.mp hy
      have hj : j < (addAll [] (postB t)).length := by rw [← hnl]; exact (List.getElem?_eq_some_iff.mp hm).1
      have hpm := nums.2 j m _ hm (List.getElem?_eq_getElem hj)
      have hml : m < pv.length := by rw [aP.1]; exact (List.getElem?_eq_some_iff.mp hpm).1
      have hpv : pv[m]? = some pv[m] := List.getElem?_eq_getElem hml
      exact ⟨_, rfl, x, _, dx3, _, _, rfl, s4 _ _ ho3, T.cl_Table, T.na_Table_parts, lkP, _, rfl, P, _, _, _, rfl, rfl, SqL.of (s4 _ _ hP3), atI_nat hpv, hN _ _ (.refl _) fun s _ => ⟨m, hm, hpv⟩⟩
    intro H4 ys hys s4 yl r4
    refine k H4 Dc ys np (s2.trans (s3.trans s4)) ((s2.trans s3).free hDc) hys ⟨by rw [yl, iV_len, hnl], fun j u s h1 h2 => ?_⟩
    obtain ⟨m, hm, hpu⟩ := r4 j u h1 s h2
    exact (aP.2 m u s hpu (nums.2 j m s hm h2)).mono (Same.tup s4)
end KK

set_option Elab.async false
set_option linter.all false
set_option maxRecDepth 100000
set_option maxHeartbeats 8000000
namespace KK
open PySem PySem.Spec L2 L3
def sp_parts_of (K : PySem.W.Frag) (a : Adr) : Sp := fun vs H Q _ => ∃ v t n, vs = [v] ∧ At K n H v t ∧ isC t = true ∧ psz t ≤ 2000000 ∧ (addAll [] (post t)).length < 4000 ∧ ∀ H' L us m, Same H H' → H L = none → H' L = some (.lst us) → AtL K m H' us (addAll [] (post t)) → Q (.ref L) H'
theorem ok_parts_of {P : Program} {w : World} {K : PySem.W.Frag} {mg : Str → Option Value} {base : Heap} {a : Adr} (T : Txt K mg a) (hw : w.params = a.Pm) : FnOk P w K mg base CX0 5 a.parts_of a.parts_of_fd ["core"] (sp_parts_of K a) := by
  have G_Table_init := ok_Table_init (P := P) (w := w) (base := base) T hw
  have G_Table_number_of := ok_Table_number_of (P := P) (w := w) (base := base) T hw
  refine T.f_parts_of.ok sc_parts_of (fun vs H Q E h => ?_) (fun cdv A outer s H vs Q E hr h => ?_)
  · obtain ⟨v, t, n, rfl, _⟩ := h
    rfl
  · obtain ⟨v, t, n, rfl, hat, hc, hz, hfew, k⟩ := h
    refine ⟨_, (@pss_cons _ _ _ _ _ (@ps_set _ _ (1) _ _ _ _ sc_parts_of.nd
      rfl
      (by first | exact Or.inl rfl | exact Or.inr rfl)
      (pe_make0 T.mk_Table G_Table_init (hr.mono (by decide)) rfl T.g_Table T.n_Table_init .nil pass0)
      (by rfl)
      (by first | exact .inl rfl | exact .inr rfl | assumption))
      (@pss_cons _ _ _ _ _ (@ps_expr _ _ _ _ (pe_meth (pv 1) T.cl_Table T.m_Table_number_of G_Table_number_of (hr.mono (by decide)) T.n_Table_number_of .nil pass0 (@pa_cons _ _ _ _ _ (pv 0)
      pa_nil
      (by rfl)))
      (by rfl))
      (@pss_one _ _ _ (@ps_ret _ _ _ _ (pe_fldK (K := K) rfl (pv 1) rfl))))), ?_⟩
    refine fun x dx nx ndx nex => ⟨x, dx, rfl, upd_same, fun H1 P R D x1 hP hR hD nP nR nD tb1 => ⟨rfl, ?_⟩⟩
    have s0 := own_same (o := .own x) (o' := .ins a.C_Table dx []) nx ndx
    have s1 : Same H H1 := fun b u e => x1 _ _ (ne_of_none e nx) (s0 _ _ e)
    have fr : ∀ {c : Addr}, (upd (upd H dx (.own x)) x (.ins a.C_Table dx [])) c = none → H c = none := fun h => s0.free h
    have hP0 := fr hP
    have hR0 := fr hR
    have hD0 := fr hD
    obtain ⟨dx1, ho1⟩ := tb1.obj
    refine ⟨_, rfl, x, dx1, _, rfl, ho1, lkN (by decide +kernel) (by decide +kernel) (by decide +kernel), _, rfl, x, P, R, D, v, t, n, rfl, tb1, hat.mono (Same.tup s1), hc, hz, hfew, fun H2 i b2 tb2 hi => ?_⟩
    have s2 : Same H H2 := fun b u e => b2 _ _ (ne_of_none e hP0) (ne_of_none e hR0) (ne_of_none e hD0) (s1 _ _ e)
    obtain ⟨dx2, ho2⟩ := tb2.obj
    obtain ⟨np, pv, hP2, aP⟩ := tb2.pl
    exact ⟨_, rfl, x, _, dx2, _, _, rfl, ho2, T.cl_Table, T.na_Table_parts, lkP, k H2 P pv np s2 hP0 hP2 aP⟩
end KK

set_option Elab.async false
set_option linter.all false
set_option maxRecDepth 100000
set_option maxHeartbeats 8000000
namespace KK
open PySem PySem.Spec L2 L3
def sp_size_of (K : PySem.W.Frag) (a : Adr) : Sp := fun vs H Q _ => ∃ v t n, vs = [v] ∧ At K n H v t ∧ psz t ≤ 2000000 ∧ ∀ H', Same H H' → Q (.int ((psz t : Nat) : Int)) H'
theorem ok_size_of {P : Program} {w : World} {K : PySem.W.Frag} {mg : Str → Option Value} {base : Heap} {a : Adr} (T : Txt K mg a) (hw : w.params = a.Pm) : FnOk P w K mg base CX0 4 a.size_of a.size_of_fd ["core"] (sp_size_of K a) := by
  have G_inner_ahead := ok_inner_ahead (P := P) (w := w) (base := base) T hw
  refine T.f_size_of.ok sc_size_of (fun vs H Q E h => ?_) (fun cdv A outer s H vs Q E hr h => ?_)
  · obtain ⟨v, t, n, rfl, _⟩ := h
    rfl
  · obtain ⟨v, t, n, rfl, hat, hz, k⟩ := h
    refine ⟨_, (@pss_one _ _ _ (@ps_ret _ _ _ _ (pe_callB (call_lenK (K := K) rfl) rfl T.b_len PyProof.Rows.Boot.«len» (@pa_cons _ _ _ _ _ (pe_call G_inner_ahead (hr.mono (by decide)) rfl T.g_inner_ahead T.f_inner_ahead.kp T.n_inner_ahead .nil pass0 (@pa_cons _ _ _ _ _ (pv 0)
      pa_nil
      (by rfl)))
      pa_nil
      (by rfl))))), ?_⟩
    refine ⟨_, rfl, v, t, n, rfl, hat, hz, fun H1 L us s1 L0 hL aL => .inl ⟨L, us, rfl, .inl (SqL.of hL), ?_⟩⟩
    rw [aL.1]
    exact k H1 s1
end KK

set_option Elab.async false
set_option linter.all false
set_option maxRecDepth 100000
set_option maxHeartbeats 8000000
namespace KK
open PySem PySem.Spec L2 L3
def sp__law_cell_at (K : PySem.W.Frag) (a : Adr) : Sp := fun vs H Q _ => ∃ (p : Addr) (ns : List Int) (j : Nat), vs = [.ref p, .int (j : Int)] ∧ SqL K H p (ns.map V.int) ∧ ∀ n : Int, Q (.int n) H
theorem ok__law_cell_at {P : Program} {w : World} {K : PySem.W.Frag} {mg : Str → Option Value} {base : Heap} {a : Adr} (T : Txt K mg a) (hw : w.params = a.Pm) : FnOk P w K mg base CX0 1 a._law_cell_at a._law_cell_at_fd ["_law_script", "_law_k"] (sp__law_cell_at K a) := by
  refine T.f__law_cell_at.ok sc__law_cell_at (fun vs H Q E h => ?_) (fun cdv A outer s H vs Q E hr h => ?_)
  · obtain ⟨p, ns, j, rfl, _⟩ := h
    rfl
  · obtain ⟨p, ns, j, rfl, hq, k⟩ := h
    refine ⟨_, (@pss_cons _ _ _ _ _ (@ps_if _ _ _ _ _ _ _ _ (@pt_cmpR _ _ _ _ _ _ _ _ op_lt
      (pv 1)
      (pe_callB (call_lenK (K := K) rfl) rfl T.b_len PyProof.Rows.Boot.«len» (@pa_cons _ _ _ _ _ (pv 0)
      pa_nil
      (by rfl)))
      (nomark _))
      (@pss_one _ _ _ (@ps_ret _ _ _ _ (@pe_ix _ _ _ _ _ _ _ (ix_listK (K := K) rfl)
      (pv 0)
      (pv 1)
      (fun _ _ => rfl))))
      pss_nil)
      (@pss_one _ _ _ (@ps_ret _ _ _ _ pe_int))), ?_⟩
    refine ⟨_, rfl, _, rfl, .inl ⟨p, _, rfl, .inl hq, _, _, rfl, rfl, _, rfl, ?_⟩⟩
    refine ite2 (fun c => ?_) (fun _ => k 0)
    have hj : j < ns.length := by have := of_decide_eq_true c; rw [List.length_map] at this; omega
    exact ⟨_, rfl, _, rfl, p, _, _, _, rfl, rfl, hq, atI_nat (j := j) (by rw [List.getElem?_map, List.getElem?_eq_getElem hj]; rfl), k _⟩
def sp__law_draw (K : PySem.W.Frag) (a : Adr) : Sp := fun vs H Q _ => ∃ (p : Addr) (ns : List Int), vs = [.ref p] ∧ H p = some (.lst (ns.map V.int)) ∧ ∀ H' (n : Int) (ns' : List Int), SameX p H H' → H' p = some (.lst (ns'.map V.int)) → ((ns = [] ∧ n = 0 ∧ ns' = []) ∨ ns'.length + 1 = ns.length) → Q (.int n) H'
theorem ok__law_draw {P : Program} {w : World} {K : PySem.W.Frag} {mg : Str → Option Value} {base : Heap} {a : Adr} (T : Txt K mg a) (hw : w.params = a.Pm) : FnOk P w K mg base CX0 1 a._law_draw a._law_draw_fd ["_law_xs"] (sp__law_draw K a) := by
  refine T.f__law_draw.ok sc__law_draw (fun vs H Q E h => ?_) (fun cdv A outer s H vs Q E hr h => ?_)
  · obtain ⟨p, ns, rfl, _⟩ := h
    rfl
  · obtain ⟨p, ns, rfl, hp, k⟩ := h
    refine ⟨_, (@pss_cons _ _ _ _ _ (@ps_if _ _ _ _ _ _ _ _ (@pt_cmpR _ _ _ _ _ _ _ _ (op_eqDK (K := K) rfl (Room.units hr))
      (pv 0)
      (@pe_lst _ _ _ _ pa_nil)
      (nomark _))
      (@pss_one _ _ _ (@ps_ret _ _ _ _ pe_int))
      pss_nil)
      (@pss_one _ _ _ (@ps_ret _ _ _ _ (pe_bm0 PySem.F.plainAttrs_list PySem.F.slot_list_pop PySem.F.type_list_pop mt_pop (pv 0))))), ?_⟩
    refine ⟨_, rfl, by decide, fun l hl => ?_⟩
    have s1 := same_upd (o := .lst []) hl
    refine eqD_nil (s1 _ _ hp) upd_same fun c hc => ⟨_, rfl, ?_⟩
    cases c with
    | true => exact iteT (k _ 0 ns (Same.x s1) (s1 _ _ hp) (.inl ⟨hc.mp rfl, rfl, hc.mp rfl⟩))
    | false =>
      refine iteF ⟨_, rfl, .inl ⟨rfl, _, SqL.of (s1 _ _ hp)⟩, ?_⟩
      have hne : ns ≠ [] := fun e => by have := hc.mpr e; cases this
      have hl : ns.length - 1 < ns.length := by have := List.length_pos_iff.mpr hne; omega
      refine ⟨p, _, .int ns[ns.length - 1], rfl, rfl, s1 _ _ hp, by simp [hl], ?_⟩
      exact k _ _ ns.dropLast (Same.x s1).upd (by rw [upd_same, List.map_dropLast]) (.inr (by rw [List.length_dropLast]; omega))
end KK

set_option Elab.async false
set_option linter.all false
set_option maxRecDepth 100000
set_option maxHeartbeats 8000000
namespace KK
open PySem PySem.Spec L2 L3
def sp__law_stream (K : PySem.W.Frag) (a : Adr) : Sp := fun vs H Q _ => ∃ (c : Int) (m : Nat), vs = [.int c, .int (m : Int)] ∧ m ≤ 1000 ∧ ∀ H' p (ns : List Int), Same H H' → H p = none → H' p = some (.lst (ns.map V.int)) → ns.length ≤ m → Q (.ref p) H'
theorem ok__law_stream {P : Program} {w : World} {K : PySem.W.Frag} {mg : Str → Option Value} {base : Heap} {a : Adr} (T : Txt K mg a) (hw : w.params = a.Pm) : FnOk P w K mg base CX0 1 a._law_stream a._law_stream_fd ["_law_cell", "_law_many"] (sp__law_stream K a) := by
  refine T.f__law_stream.ok sc__law_stream (fun vs H Q E h => ?_) (fun cdv A outer s H vs Q E hr h => ?_)
  · obtain ⟨c, m, rfl, _⟩ := h
    rfl
  · obtain ⟨c, m, rfl, hm, k⟩ := h
    refine ⟨_, (@pss_cons _ _ _ _ _ (@ps_set _ _ (2) _ _ _ _ sc__law_stream.nd
      rfl
      (by first | exact Or.inl rfl | exact Or.inr rfl)
      (@pe_lst _ _ _ _ pa_nil)
      (by rfl)
      (by first | exact .inl rfl | exact .inr rfl | assumption))
      (@pss_cons _ _ _ _ _ (@ps_set _ _ (3) _ _ _ _ sc__law_stream.nd
      rfl
      (by first | exact Or.inl rfl | exact Or.inr rfl)
      (@pe_op _ _ _ _ _ _ _ _ op_mul
      (@pe_op _ _ _ _ _ _ _ _ op_fdiv
      (pv 0)
      pe_int)
      (@pe_op _ _ _ _ _ _ _ _ op_sub
      pe_int
      (@pe_op _ _ _ _ _ _ _ _ op_mod
      (pv 0)
      pe_int)))
      (by rfl)
      (by first | exact .inl rfl | exact .inr rfl | assumption))
      (@pss_cons _ _ _ _ _ (ps_while PassesOwn.never (PW.pt (pw_and (@pt_cmpR _ _ _ _ _ _ _ _ op_lt
      (pe_callB (call_lenK (K := K) rfl) rfl T.b_len PyProof.Rows.Boot.«len» (@pa_cons _ _ _ _ _ (pv 2)
      pa_nil
      (by rfl)))
      (pv 1)
      (nomark _)) (pw_and1 (@pt_cmpR _ _ _ _ _ _ _ _ op_gt
      (pv 3)
      pe_int
      (nomark _))))) (@pss_cons _ _ _ _ _ (@ps_expr _ _ _ _ (pe_bm PySem.F.plainAttrs_list PySem.F.slot_list_append PySem.F.type_list_append mt_append (pv 2) (@pa_cons _ _ _ _ _ (@pe_op _ _ _ _ _ _ _ _ op_mod
      (pv 3)
      (@pe_op _ _ _ _ _ _ _ _ op_pow
      pe_int
      pe_int))
      pa_nil
      (by rfl)))
      (by rfl))
      (@pss_one _ _ _ (@ps_set _ _ (3) _ _ _ _ sc__law_stream.nd
      rfl
      (by first | exact Or.inl rfl | exact Or.inr rfl)
      (@pe_op _ _ _ _ _ _ _ _ op_fdiv
      (pv 3)
      (@pe_op _ _ _ _ _ _ _ _ op_pow
      pe_int
      pe_int))
      (by rfl)
      (by first | exact .inl rfl | exact .inr rfl | assumption)))))
      (@pss_cons _ _ _ _ _ (@ps_set _ _ (4) _ _ _ _ sc__law_stream.nd
      rfl
      (by first | exact Or.inl rfl | exact Or.inr rfl)
      (@pe_op _ _ _ _ _ _ _ _ op_mod
      (@pe_op _ _ _ _ _ _ _ _ op_mul
      (@pe_op _ _ _ _ _ _ _ _ op_add
      (pv 0)
      pe_int)
      pe_int)
      pe_int)
      (by rfl)
      (by first | exact .inl rfl | exact .inr rfl | assumption))
      (@pss_cons _ _ _ _ _ (ps_while PassesOwn.never (@pt_cmpR _ _ _ _ _ _ _ _ op_lt
      (pe_callB (call_lenK (K := K) rfl) rfl T.b_len PyProof.Rows.Boot.«len» (@pa_cons _ _ _ _ _ (pv 2)
      pa_nil
      (by rfl)))
      (pv 1)
      (nomark _)) (@pss_cons _ _ _ _ _ (@ps_set _ _ (5) _ _ _ _ sc__law_stream.nd
      rfl
      (by first | exact Or.inl rfl | exact Or.inr rfl)
      (@pe_op _ _ _ _ _ _ _ _ op_add
      (@pe_op _ _ _ _ _ _ _ _ op_add
      (pv 4)
      (@pe_op _ _ _ _ _ _ _ _ op_mul
      pe_int
      (pe_callB (call_lenK (K := K) rfl) rfl T.b_len PyProof.Rows.Boot.«len» (@pa_cons _ _ _ _ _ (pv 2)
      pa_nil
      (by rfl)))))
      pe_int)
      (by rfl)
      (by first | exact .inl rfl | exact .inr rfl | assumption))
      (@pss_cons _ _ _ _ _ (@ps_set _ _ (4) _ _ _ _ sc__law_stream.nd
      rfl
      (by first | exact Or.inl rfl | exact Or.inr rfl)
      (@pe_op _ _ _ _ _ _ _ _ op_mod
      (@pe_op _ _ _ _ _ _ _ _ op_mul
      (pv 5)
      (@pe_op _ _ _ _ _ _ _ _ op_add
      (@pe_op _ _ _ _ _ _ _ _ op_fdiv
      (pv 4)
      pe_int)
      pe_int))
      pe_int)
      (by rfl)
      (by first | exact .inl rfl | exact .inr rfl | assumption))
      (@pss_one _ _ _ (@ps_expr _ _ _ _ (pe_bm PySem.F.plainAttrs_list PySem.F.slot_list_append PySem.F.type_list_append mt_append (pv 2) (@pa_cons _ _ _ _ _ (@pe_op _ _ _ _ _ _ _ _ op_mod
      (@pe_op _ _ _ _ _ _ _ _ op_mul
      (pv 4)
      (@pe_op _ _ _ _ _ _ _ _ op_add
      (@pe_op _ _ _ _ _ _ _ _ op_fdiv
      (pv 4)
      pe_int)
      pe_int))
      pe_int)
      pa_nil
      (by rfl)))
      (by rfl))))))
      (@pss_one _ _ _ (@ps_ret _ _ _ _ (pe_revK (K := K) rfl (pv 2) (po_some (pe_un un_neg pe_int)))))))))), ?_⟩
    refine ⟨by decide, fun D hD => ?_⟩
    have hm2 : (0 : Int) ≤ c % 2 ∧ c % 2 < 2 := ⟨Int.emod_nonneg _ (by decide), Int.emod_lt_of_pos _ (by decide)⟩
    refine ⟨_, rfl, _, _, rfl, rfl, ⟨by decide, by decide⟩, _, rfl, _, _, rfl, rfl, by simp, _, _, rfl, rfl, _, _, rfl, rfl, .inr ⟨by omega, by omega⟩, ?_⟩
    refine ⟨fun n σ H' => ∃ (ns : List Int) (left : Int), σ = [some (.int c), some (.int m), some (.ref D), some (.int left), none, none] ∧ H' D = some (.lst (ns.map V.int)) ∧ Same H H' ∧ ns.length ≤ m ∧ n = m - ns.length, ⟨m, [], _, rfl, upd_same, same_upd hD, Nat.zero_le _, rfl⟩, ?_⟩
    rintro n σ H1 ⟨ns, left, rfl, h1, s1, hl, rfl⟩
    refine ⟨_, rfl, .inl ⟨D, _, rfl, .inl (SqL.of h1), _, rfl, _, _, rfl, rfl, _, rfl, ite2 (fun c1 => ⟨_, rfl, _, _, rfl, rfl, _, rfl, ite2 (fun c2 => ?body) (fun c2 => ?rest)⟩) (fun c1 => iteF ?rest2)⟩⟩
    case body =>
      have c3 : ns.length < m := by have := of_decide_eq_true c1; rw [List.length_map] at this; omega
      refine ⟨fun σ H' => ∃ (ns' : List Int) (left : Int), σ = [some (.int c), some (.int m), some (.ref D), some (.int left), none, none] ∧ H' D = some (.lst (ns'.map V.int)) ∧ Same H H' ∧ ns'.length = ns.length + 1, ?_, ?_⟩
      · rintro σ' H' ⟨ns', left', rfl, a1, a2, a3⟩
        exact ⟨m - ns'.length, by omega, ns', left', rfl, a1, a2, by omega, rfl⟩
      · refine ⟨_, rfl, .inl ⟨rfl, _, SqL.of h1⟩, _, rfl, _, _, rfl, rfl, ⟨by decide, by decide, by decide⟩, _, _, rfl, rfl, by simp, D, _, _, rfl, rfl, h1, by rw [List.length_map, sizeLine_eq]; omega, ?_⟩
        refine ⟨_, rfl, _, _, rfl, rfl, ⟨by decide, by decide, by decide⟩, _, _, rfl, rfl, ⟨by decide, by decide⟩, ?_⟩
        refine ⟨ns ++ [_], _, rfl, by rw [upd_same, List.map_append]; rfl, (SameX.upd (Same.x s1)).same hD, by simp⟩
    all_goals
      clear c1
      refine ⟨_, rfl, _, _, rfl, rfl, _, _, rfl, rfl, .inr ⟨by decide, by decide⟩, _, _, rfl, rfl, by simp, ?_⟩
      refine ⟨fun n σ H' => ∃ (ns : List Int) (num : Int) (z : Option V), σ = [some (.int c), some (.int m), some (.ref D), some (.int left), some (.int num), z] ∧ (0 ≤ num ∧ num < 2147483647) ∧ H' D = some (.lst (ns.map V.int)) ∧ Same H H' ∧ ns.length ≤ m ∧ n = m - ns.length, ⟨m - ns.length, ns, _, _, rfl, ⟨Int.emod_nonneg _ (by decide), Int.emod_lt_of_pos _ (by decide)⟩, h1, s1, hl, rfl⟩, ?_⟩
      clear h1 s1 hl H1
      rintro n σ H1 ⟨ns, num, z, rfl, ⟨hn0, hn1⟩, h1, s1, hl, rfl⟩
      refine ⟨_, rfl, .inl ⟨D, _, rfl, .inl (SqL.of h1), _, rfl, _, _, rfl, rfl, _, rfl, ite2 (fun c1 => ?_) (fun c1 => ?_)⟩⟩
      · have c3 : ns.length < m := by have := of_decide_eq_true c1; rw [List.length_map] at this; omega
        refine ⟨fun σ H' => ∃ (ns' : List Int) (num : Int) (z : Option V), σ = [some (.int c), some (.int m), some (.ref D), some (.int left), some (.int num), z] ∧ (0 ≤ num ∧ num < 2147483647) ∧ H' D = some (.lst (ns'.map V.int)) ∧ Same H H' ∧ ns'.length = ns.length + 1, ?_, ?_⟩
        · rintro σ' H' ⟨ns', num', z', rfl, a0, a1, a2, a3⟩
          exact ⟨m - ns'.length, by omega, ns', num', z', rfl, a0, a1, a2, by omega, rfl⟩
        · refine ⟨_, rfl, _, rfl, .inl ⟨D, _, rfl, .inl (SqL.of h1), _, _, rfl, rfl, .inl ⟨by decide, by decide⟩, _, _, rfl, rfl, _, _, rfl, rfl, ?_⟩⟩
          refine ⟨_, rfl, _, rfl, _, _, rfl, rfl, ⟨by decide, by decide⟩, _, _, rfl, rfl, _, _, rfl, rfl, .inr ⟨by omega, by omega⟩, _, _, rfl, rfl, by simp, ?_⟩
          have num0 := Int.emod_nonneg ((num + 7919 * ((ns.map V.int).length : Int) + 1) * (num / 1009 + 69621)) (show (2147483647 : Int) ≠ 0 by decide)
          have num1 := Int.emod_lt_of_pos ((num + 7919 * ((ns.map V.int).length : Int) + 1) * (num / 1009 + 69621)) (show (0 : Int) < 2147483647 by decide)
          refine ⟨_, rfl, .inl ⟨rfl, _, SqL.of h1⟩, _, rfl, _, rfl, _, _, rfl, rfl, ⟨by decide, by decide⟩, _, _, rfl, rfl, _, _, rfl, rfl, .inl ⟨Int.lt_of_lt_of_le (by decide) num0, Int.lt_trans num1 (by decide)⟩, _, _, rfl, rfl, by simp, D, _, _, rfl, rfl, h1, by rw [List.length_map, sizeLine_eq]; omega, ?_⟩
          exact ⟨ns ++ [_], _, _, rfl, ⟨num0, num1⟩, by rw [upd_same, List.map_append]; rfl, (SameX.upd (Same.x s1)).same hD, by simp⟩
      · refine ⟨_, rfl, _, rfl, _, rfl, D, _, rfl, rfl, SqL.of h1, fun p hp => ?_⟩
        exact k _ p ns.reverse (s1.trans (same_upd hp)) (s1.free hp) (by rw [upd_same, List.map_reverse]) (by rw [List.length_reverse]; exact hl)
end KK

set_option Elab.async false
set_option linter.all false
set_option maxRecDepth 100000
set_option maxHeartbeats 8000000
namespace KK
open PySem PySem.Spec L2 L3
theorem at_two {a b : Str} {i : Int} (h0 : 0 ≤ i) (h1 : i < 2) : ∃ w, atI [V.str a, .str b] i = some (.str w) ∧ (w = a ∨ w = b) := by
  rcases (show i = 0 ∨ i = 1 by omega) with rfl | rfl
  · exact ⟨a, rfl, .inl rfl⟩
  · exact ⟨b, rfl, .inr rfl⟩
theorem at_eight {i : Int} (h0 : 0 ≤ i) (h1 : i < 8) : ∃ w, atI [V.str "not", .str "next", .str "always", .str "ever", .str "before", .str "once", .str "sofar", .str "all"] i = some (.str w) ∧ w ∈ W1 := by
  rcases (show i = 0 ∨ i = 1 ∨ i = 2 ∨ i = 3 ∨ i = 4 ∨ i = 5 ∨ i = 6 ∨ i = 7 by omega) with rfl | rfl | rfl | rfl | rfl | rfl | rfl | rfl
  all_goals exact ⟨_, rfl, by decide +kernel⟩
theorem w_leaf {c : Lb} (h : c = .yes ∨ ∃ z, c = .sign z) : wgt (.node c []) = 1 := by
  rcases h with rfl | ⟨z, rfl⟩ <;> rfl
theorem w_op (w : Str) (ks : List Tr) : wgt (.node (.op w) ks) = (ks.map wgt).sum + 36 := wgt_in (by intro z; cases z) (by intro y z; cases z)
theorem w_wit (m : Int) (ks : List Tr) : wgt (.node (.wit m) ks) = (ks.map wgt).sum + 36 := wgt_in (by intro z; cases z) (by intro y z; cases z)
theorem w_many (w : Str) (ks : List Tr) : wgt (.node (.many w) ks) = (ks.map wgt).sum + 36 := wgt_in (by intro z; cases z) (by intro y z; cases z)
def sp__law_sentence (n : Nat) (K : PySem.W.Frag) (a : Adr) : Sp := fun vs H Q _ => ∃ (p : Addr) (ns : List Int) (d : Int) (l : Addr) (ss : List Str), vs = [.ref p, .int d, .ref l] ∧ d.toNat < n ∧ H p = some (.lst (ns.map V.int)) ∧ H l = some (.lst (ss.map V.str)) ∧ l ≠ p ∧ ss ≠ [] ∧ (∀ x ∈ ss, isNameS x = true) ∧ ∀ H' v t (ns' : List Int), SameX p H H' → H' p = some (.lst (ns'.map V.int)) → At K (d.toNat + 1) H' v t → wgt t + 40 * ns'.length ≤ 40 * ns.length + 1 → (post t).length ≤ 5 ^ (d.toNat + 1) → Q v H'
theorem zz__law_sentence {K : PySem.W.Frag} {a : Adr} {vs : List V} {H : Hp} {Q : VK} {E : XK} (h : sp__law_sentence 0 K a vs H Q E) : False := by
  obtain ⟨_, _, d, _, _, _, hm, _⟩ := h
  omega
theorem ok__law_sentence {P : Program} {w : World} {K : PySem.W.Frag} {mg : Str → Option Value} {base : Heap} {a : Adr} (T : Txt K mg a) (hw : w.params = a.Pm) : ∀ n : Nat, FnOk P w K mg base CX0 (2 + n) a._law_sentence a._law_sentence_fd ["_law_xs", "_law_deep", "_law_names"] (sp__law_sentence n K a) := by
  have G__law_draw := ok__law_draw (P := P) (w := w) (base := base) T hw
  intro n
  induction n with
  | zero => exact ⟨fun _ _ _ _ h => (zz__law_sentence h).elim, fun _ _ _ _ _ _ _ _ _ _ _ _ _ h => (zz__law_sentence h).elim⟩
  | succ n G__law_sentence =>
    refine T.f__law_sentence.ok sc__law_sentence (fun vs H Q E h => ?_) (fun cdv A outer s H vs Q E hr h => ?_)
    · obtain ⟨p, ns, d, l, ss, rfl, _⟩ := h
      rfl
    · obtain ⟨p, ns, d, l, ss, rfl, hd, hp, hl, nl, hne, hn, k⟩ := h
      refine ⟨_, (@pss_cons _ _ _ _ _ (@ps_set _ _ (3) _ _ _ _ sc__law_sentence.nd
      rfl
      (by first | exact Or.inl rfl | exact Or.inr rfl)
      (pe_call G__law_draw (hr.mono (show _ ≤ 2 + n by omega)) rfl T.g__law_draw T.f__law_draw.kp T.n__law_draw .nil pass0 (@pa_cons _ _ _ _ _ (pv 0)
      pa_nil
      (by rfl)))
      (by rfl)
      (by first | exact .inl rfl | exact .inr rfl | assumption))
      (@pss_cons _ _ _ _ _ (@ps_set _ _ (4) _ _ _ _ sc__law_sentence.nd
      rfl
      (by first | exact Or.inl rfl | exact Or.inr rfl)
      (@pe_op _ _ _ _ _ _ _ _ op_mod
      (pv 3)
      pe_int)
      (by rfl)
      (by first | exact .inl rfl | exact .inr rfl | assumption))
      (@pss_cons _ _ _ _ _ (@ps_if _ _ _ _ _ _ _ _ (PW.pt (pw_or (@pt_cmpR _ _ _ _ _ _ _ _ op_lt
      (pv 1)
      pe_int
      (nomark _)) (pw_or1 (@pt_cmpR _ _ _ _ _ _ _ _ op_lt
      (pv 4)
      pe_int
      (nomark _)))))
      (@pss_one _ _ _ (@ps_ret _ _ _ _ (@pe_ix _ _ _ _ _ _ _ (ix_listK (K := K) rfl)
      (@pe_lst _ _ _ _ (@pa_cons _ _ _ _ _ (@pe_tup _ _ _ _ _ (@pa_cons _ _ _ _ _ pe_str
      pa_nil
      (by rfl)))
      (@pa_cons _ _ _ _ _ (@pe_tup _ _ _ _ _ (@pa_cons _ _ _ _ _ pe_str
      (@pa_cons _ _ _ _ _ (@pe_ix _ _ _ _ _ _ _ (ix_listK (K := K) rfl)
      (pv 2)
      (@pe_op _ _ _ _ _ _ _ _ op_mod
      (@pe_op _ _ _ _ _ _ _ _ op_fdiv
      (pv 3)
      pe_int)
      (pe_callB (call_lenK (K := K) rfl) rfl T.b_len PyProof.Rows.Boot.«len» (@pa_cons _ _ _ _ _ (pv 2)
      pa_nil
      (by rfl))))
      (fun _ _ => rfl))
      pa_nil
      (by rfl))
      (by rfl)))
      pa_nil
      (by rfl))
      (by rfl)))
      (pe_callTy (call_int1) rfl T.b_int PyProof.Rows.Boot.«int» (@pa_cons _ _ _ _ _ (@pe_cmpR _ _ _ _ _ _ _ _ op_gt
      (@pe_op _ _ _ _ _ _ _ _ op_mod
      (@pe_op _ _ _ _ _ _ _ _ op_fdiv
      (pv 3)
      pe_int)
      pe_int)
      pe_int
      (nomark _))
      pa_nil
      (by rfl)))
      (fun _ _ => rfl))))
      pss_nil)
      (@pss_cons _ _ _ _ _ (@ps_set _ _ (5) _ _ _ _ sc__law_sentence.nd
      rfl
      (by first | exact Or.inl rfl | exact Or.inr rfl)
      (pe_call G__law_sentence hr rfl T.g__law_sentence T.f__law_sentence.kp T.n__law_sentence .nil pass0 (@pa_c _ _ _ _ _ (pv 0)
      (@pa_c _ _ _ _ _ (@pe_op _ _ _ _ _ _ _ _ op_sub
      (pv 1)
      pe_int)
      (@pa_c _ _ _ _ _ (pv 2)
      pa_nil
      (by rfl))
      (by rfl))
      (by rfl)))
      (by rfl)
      (by first | exact .inl rfl | exact .inr rfl | assumption))
      (@pss_cons _ _ _ _ _ (@ps_if _ _ _ _ _ _ _ _ (@pt_cmpR _ _ _ _ _ _ _ _ op_lt
      (pv 4)
      pe_int
      (nomark _))
      (@pss_one _ _ _ (@ps_ret _ _ _ _ (@pe_tup _ _ _ _ _ (@pa_cons _ _ _ _ _ (@pe_ix _ _ _ _ _ _ _ (ix_listK (K := K) rfl)
      (@pe_lst _ _ _ _ (@pa_c _ _ _ _ _ pe_str
      (@pa_c _ _ _ _ _ pe_str
      (@pa_c _ _ _ _ _ pe_str
      (@pa_c _ _ _ _ _ pe_str
      (@pa_c _ _ _ _ _ pe_str
      (@pa_c _ _ _ _ _ pe_str
      (@pa_c _ _ _ _ _ pe_str
      (@pa_c _ _ _ _ _ pe_str
      pa_nil
      (by rfl))
      (by rfl))
      (by rfl))
      (by rfl))
      (by rfl))
      (by rfl))
      (by rfl))
      (by rfl)))
      (@pe_op _ _ _ _ _ _ _ _ op_sub
      (pv 4)
      pe_int)
      (fun _ _ => rfl))
      (@pa_cons _ _ _ _ _ (pv 5)
      pa_nil
      (by rfl))
      (by rfl)))))
      pss_nil)
      (@pss_cons _ _ _ _ _ (@ps_if _ _ _ _ _ _ _ _ (@pt_cmpR _ _ _ _ _ _ _ _ op_eq
      (pv 4)
      pe_int
      (nomark _))
      (@pss_one _ _ _ (@ps_ret _ _ _ _ (@pe_tup _ _ _ _ _ (@pa_cons _ _ _ _ _ pe_str
      (@pa_cons _ _ _ _ _ (pv 5)
      pa_nil
      (by rfl))
      (by rfl)))))
      pss_nil)
      (@pss_cons _ _ _ _ _ (@ps_if _ _ _ _ _ _ _ _ (@pt_cmpR _ _ _ _ _ _ _ _ op_lt
      (pv 4)
      pe_int
      (nomark _))
      (@pss_one _ _ _ (@ps_ret _ _ _ _ (@pe_tup _ _ _ _ _ (@pa_c _ _ _ _ _ (@pe_ix _ _ _ _ _ _ _ (ix_listK (K := K) rfl)
      (@pe_lst _ _ _ _ (@pa_cons _ _ _ _ _ pe_str
      (@pa_cons _ _ _ _ _ pe_str
      pa_nil
      (by rfl))
      (by rfl)))
      (@pe_op _ _ _ _ _ _ _ _ op_sub
      (pv 4)
      pe_int)
      (fun _ _ => rfl))
      (@pa_c _ _ _ _ _ (pv 5)
      (@pa_c _ _ _ _ _ (pe_call G__law_sentence hr rfl T.g__law_sentence T.f__law_sentence.kp T.n__law_sentence .nil pass0 (@pa_c _ _ _ _ _ (pv 0)
      (@pa_c _ _ _ _ _ (@pe_op _ _ _ _ _ _ _ _ op_sub
      (pv 1)
      pe_int)
      (@pa_c _ _ _ _ _ (pv 2)
      pa_nil
      (by rfl))
      (by rfl))
      (by rfl)))
      pa_nil
      (by rfl))
      (by rfl))
      (by rfl)))))
      pss_nil)
      (@pss_cons _ _ _ _ _ (@ps_if _ _ _ _ _ _ _ _ (@pt_cmpR _ _ _ _ _ _ _ _ op_eq
      (pv 4)
      pe_int
      (nomark _))
      (@pss_one _ _ _ (@ps_ret _ _ _ _ (@pe_tup _ _ _ _ _ (@pa_c _ _ _ _ _ pe_str
      (@pa_c _ _ _ _ _ (@pe_op _ _ _ _ _ _ _ _ op_mod
      (@pe_op _ _ _ _ _ _ _ _ op_fdiv
      (pv 3)
      pe_int)
      (@pe_ix _ _ _ _ _ _ _ (ix_listK (K := K) rfl)
      (@pe_lst _ _ _ _ (@pa_cons _ _ _ _ _ pe_int
      (@pa_cons _ _ _ _ _ pe_int
      pa_nil
      (by rfl))
      (by rfl)))
      (pe_callTy (call_int1) rfl T.b_int PyProof.Rows.Boot.«int» (@pa_cons _ _ _ _ _ (@pe_cmpR _ _ _ _ _ _ _ _ op_eq
      (pv 1)
      pe_int
      (nomark _))
      pa_nil
      (by rfl)))
      (fun _ _ => rfl)))
      (@pa_c _ _ _ _ _ (pv 5)
      (@pa_c _ _ _ _ _ (pe_call G__law_sentence hr rfl T.g__law_sentence T.f__law_sentence.kp T.n__law_sentence .nil pass0 (@pa_c _ _ _ _ _ (pv 0)
      (@pa_c _ _ _ _ _ (@pe_op _ _ _ _ _ _ _ _ op_sub
      (pv 1)
      pe_int)
      (@pa_c _ _ _ _ _ (pv 2)
      pa_nil
      (by rfl))
      (by rfl))
      (by rfl)))
      pa_nil
      (by rfl))
      (by rfl))
      (by rfl))
      (by rfl)))))
      pss_nil)
      (@pss_cons _ _ _ _ _ (@ps_set _ _ (6) _ _ _ _ sc__law_sentence.nd
      rfl
      (by first | exact Or.inl rfl | exact Or.inr rfl)
      (@pe_lst _ _ _ _ (@pa_cons _ _ _ _ _ (pv 5)
      pa_nil
      (by rfl)))
      (by rfl)
      (by first | exact .inl rfl | exact .inr rfl | assumption))
      (@pss_cons _ _ _ _ _ (ps_for PassesOwn.never rfl (pi_range1 rfl T.b_range (@pa_cons _ _ _ _ _ (@pe_op _ _ _ _ _ _ _ _ op_mod
      (@pe_op _ _ _ _ _ _ _ _ op_fdiv
      (pv 3)
      pe_int)
      pe_int)
      pa_nil
      (by rfl))) (pg_name (i := 7) sc__law_sentence.nd rfl (by first | exact Or.inl rfl | exact Or.inr rfl)) (@pss_one _ _ _ (@ps_expr _ _ _ _ (pe_bm PySem.F.plainAttrs_list PySem.F.slot_list_append PySem.F.type_list_append mt_append (pv 6) (@pa_cons _ _ _ _ _ (pe_call G__law_sentence hr rfl T.g__law_sentence T.f__law_sentence.kp T.n__law_sentence .nil pass0 (@pa_c _ _ _ _ _ (pv 0)
      (@pa_c _ _ _ _ _ (@pe_op _ _ _ _ _ _ _ _ op_sub
      (pv 1)
      pe_int)
      (@pa_c _ _ _ _ _ (pv 2)
      pa_nil
      (by rfl))
      (by rfl))
      (by rfl)))
      pa_nil
      (by rfl)))
      (by rfl))))
      (@pss_cons _ _ _ _ _ (@ps_if _ _ _ _ _ _ _ _ (@pt_cmpR _ _ _ _ _ _ _ _ op_eq
      (@pe_op _ _ _ _ _ _ _ _ op_mod
      (@pe_op _ _ _ _ _ _ _ _ op_fdiv
      (pv 3)
      pe_int)
      pe_int)
      pe_int
      (nomark _))
      (@pss_one _ _ _ (@ps_set _ _ (6) _ _ _ _ sc__law_sentence.nd
      rfl
      (by first | exact Or.inl rfl | exact Or.inr rfl)
      (@pe_lst _ _ _ _ pa_nil)
      (by rfl)
      (by first | exact .inl rfl | exact .inr rfl | assumption)))
      pss_nil)
      (@pss_one _ _ _ (@ps_ret _ _ _ _ (@pe_tup _ _ _ _ _ (@pa_cons _ _ _ _ _ (@pe_ix _ _ _ _ _ _ _ (ix_listK (K := K) rfl)
      (@pe_lst _ _ _ _ (@pa_cons _ _ _ _ _ pe_str
      (@pa_cons _ _ _ _ _ pe_str
      pa_nil
      (by rfl))
      (by rfl)))
      (@pe_op _ _ _ _ _ _ _ _ op_sub
      (pv 4)
      pe_int)
      (fun _ _ => rfl))
      (@pa_cons _ _ _ _ _ (pe_callTy (call_tupleK (K := K) rfl) rfl T.b_tuple PyProof.Rows.Boot.«tuple» (@pa_cons _ _ _ _ _ (pv 6)
      pa_nil
      (by rfl)))
      pa_nil
      (by rfl))
      (by rfl)))))))))))))))), ?_⟩
      refine ⟨_, rfl, p, ns, rfl, hp, fun H1 m ns1 x1 h1 dr => ?_⟩
      have hle : ns1.length ≤ ns.length := by rcases dr with ⟨a, _, b⟩ | h; rw [a, b]; exact Nat.le_refl _; omega
      refine ⟨_, rfl, _, _, rfl, rfl, by simp, ?_⟩
      have w0 := Int.emod_nonneg m (show (16 : Int) ≠ 0 by decide)
      have w1 := Int.emod_lt_of_pos m (show (0 : Int) < 16 by decide)
      have l1 := x1 _ _ nl hl
      show tSeq _ _ _ [some (.ref p), some (.int d), some (.ref l), some (.int m), some (.int (m % 16)), none, none, none] H1
      refine ⟨_, rfl, _, _, rfl, rfl, _, rfl, ite2 (fun c => ?l1) (fun c1 => ⟨_, rfl, _, _, rfl, rfl, _, rfl, ite2 (fun c => ?l2) (fun c2 => ?_)⟩)⟩
      case l1 =>
        have c' := True.intro
        refine ⟨by rw [sizeLine_eq]; simp, fun t1 ht1 => ?_⟩
        have s2 := same_upd (o := .tup [.str "yes"]) ht1
        have e2 : (upd H1 t1 (.tup [.str "yes"])) t1 = some (.tup [.str "yes"]) := upd_same
        generalize upd H1 t1 (.tup [.str "yes"]) = H2 at s2 e2 ⊢
        obtain ⟨pl, v, hv, hvm⟩ := at_mod (ts := ss.map V.str) (m / 48) (fun e => hne (List.map_eq_nil_iff.mp e))
        obtain ⟨z, hz, ez⟩ := List.mem_map.mp hvm
        subst ez
        refine ⟨_, rfl, _, rfl, _, _, rfl, rfl, ⟨by decide, by decide⟩, _, rfl, .inl ⟨l, _, rfl, .inl (SqL.of (s2 _ _ l1)), _, _, rfl, rfl, pl, l, _, _, _, rfl, rfl, SqL.of (s2 _ _ l1), hv, by rw [sizeLine_eq]; simp, fun t2 ht2 => ?_⟩⟩
        have s3 := same_upd (o := .tup [.str "sign", .str z]) ht2
        have e3 : (upd H2 t2 (.tup [.str "sign", .str z])) t2 = some (.tup [.str "sign", .str z]) := upd_same
        generalize upd H2 t2 (.tup [.str "sign", .str z]) = H3 at s3 e3 ⊢
        refine ⟨by rw [sizeLine_eq]; simp, fun L hL => ?_⟩
        have s4 := same_upd (o := .lst [.ref t1, .ref t2]) hL
        have e4 : (upd H3 L (.lst [.ref t1, .ref t2])) L = some (.lst [.ref t1, .ref t2]) := upd_same
        generalize upd H3 L (.lst [.ref t1, .ref t2]) = H4 at s4 e4 ⊢
        have X4 : SameX p H H4 := x1.trans (Same.x (s2.trans (s3.trans s4)))
        have h4 := (s2.trans (s3.trans s4)) _ _ h1
        have p5 : 1 ≤ 5 ^ (d.toNat + 1) := Nat.one_le_pow _ _ (by decide)
        refine ⟨_, rfl, _, _, rfl, rfl, ⟨by decide, by decide⟩, _, _, rfl, rfl, by simp, _, _, rfl, rfl, .inr ⟨_, rfl, ?_⟩⟩
        by_cases hb : m / 16 % 3 > 0
        · refine ⟨L, _, _, .ref t2, rfl, rfl, SqL.of e4, ?_, k _ _ (.node (.sign z) []) ns1 X4 h4 (at_sign (SqT.of (s4 _ _ e3)) (hn z hz)) (by rw [w_leaf (.inr ⟨_, rfl⟩)]; omega) (by rw [post_len]; simpa [postL] using p5)⟩
          rw [if_pos (decide_eq_true hb)]
          rfl
        · refine ⟨L, _, _, .ref t1, rfl, rfl, SqL.of e4, ?_, k _ _ (.node .yes []) ns1 X4 h4 (at_yes (SqT.of ((s3.trans s4) _ _ e2))) (by rw [w_leaf (.inl rfl)]; omega) (by rw [post_len]; simpa [postL] using p5)⟩
          rw [if_neg (by simpa using hb)]
          rfl
      case l2 =>
        have c' := True.intro
        refine ⟨by rw [sizeLine_eq]; simp, fun t1 ht1 => ?_⟩
        have s2 := same_upd (o := .tup [.str "yes"]) ht1
        have e2 : (upd H1 t1 (.tup [.str "yes"])) t1 = some (.tup [.str "yes"]) := upd_same
        generalize upd H1 t1 (.tup [.str "yes"]) = H2 at s2 e2 ⊢
        obtain ⟨pl, v, hv, hvm⟩ := at_mod (ts := ss.map V.str) (m / 48) (fun e => hne (List.map_eq_nil_iff.mp e))
        obtain ⟨z, hz, ez⟩ := List.mem_map.mp hvm
        subst ez
        refine ⟨_, rfl, _, rfl, _, _, rfl, rfl, ⟨by decide, by decide⟩, _, rfl, .inl ⟨l, _, rfl, .inl (SqL.of (s2 _ _ l1)), _, _, rfl, rfl, pl, l, _, _, _, rfl, rfl, SqL.of (s2 _ _ l1), hv, by rw [sizeLine_eq]; simp, fun t2 ht2 => ?_⟩⟩
        have s3 := same_upd (o := .tup [.str "sign", .str z]) ht2
        have e3 : (upd H2 t2 (.tup [.str "sign", .str z])) t2 = some (.tup [.str "sign", .str z]) := upd_same
        generalize upd H2 t2 (.tup [.str "sign", .str z]) = H3 at s3 e3 ⊢
        refine ⟨by rw [sizeLine_eq]; simp, fun L hL => ?_⟩
        have s4 := same_upd (o := .lst [.ref t1, .ref t2]) hL
        have e4 : (upd H3 L (.lst [.ref t1, .ref t2])) L = some (.lst [.ref t1, .ref t2]) := upd_same
        generalize upd H3 L (.lst [.ref t1, .ref t2]) = H4 at s4 e4 ⊢
        have X4 : SameX p H H4 := x1.trans (Same.x (s2.trans (s3.trans s4)))
        have h4 := (s2.trans (s3.trans s4)) _ _ h1
        have p5 : 1 ≤ 5 ^ (d.toNat + 1) := Nat.one_le_pow _ _ (by decide)
        refine ⟨_, rfl, _, _, rfl, rfl, ⟨by decide, by decide⟩, _, _, rfl, rfl, by simp, _, _, rfl, rfl, .inr ⟨_, rfl, ?_⟩⟩
        by_cases hb : m / 16 % 3 > 0
        · refine ⟨L, _, _, .ref t2, rfl, rfl, SqL.of e4, ?_, k _ _ (.node (.sign z) []) ns1 X4 h4 (at_sign (SqT.of (s4 _ _ e3)) (hn z hz)) (by rw [w_leaf (.inr ⟨_, rfl⟩)]; omega) (by rw [post_len]; simpa [postL] using p5)⟩
          rw [if_pos (decide_eq_true hb)]
          rfl
        · refine ⟨L, _, _, .ref t1, rfl, rfl, SqL.of e4, ?_, k _ _ (.node .yes []) ns1 X4 h4 (at_yes (SqT.of ((s3.trans s4) _ _ e2))) (by rw [w_leaf (.inl rfl)]; omega) (by rw [post_len]; simpa [postL] using p5)⟩
          rw [if_neg (by simpa using hb)]
          rfl
      have hd1 : 1 ≤ d := by have : ¬ (d < 1) := fun z => c1 (decide_eq_true z); omega
      have hw2 : 2 ≤ m % 16 := by have : ¬ (m % 16 < 2) := fun z => c2 (decide_eq_true z); omega
      have hns : ns1.length + 1 = ns.length := by
        rcases dr with ⟨_, a, _⟩ | h
        · rw [a] at hw2; simp at hw2
        · exact h
      clear c1 c2 dr
      -- the first one in it
      refine ⟨_, rfl, _, rfl, _, _, rfl, rfl, _, rfl, p, ns1, d - 1, l, ss, rfl, by omega, h1, l1, nl, hne, hn, fun H2 v1 t1 ns2 x2 h2 at1 wt1 sz1 => ?_⟩
      have eD : (d - 1).toNat + 1 = d.toNat := by omega
      have eD2 : (d - 2).toNat + 1 ≤ d.toNat := by omega
      rw [eD] at at1 sz1
      have x02 := x1.trans x2
      have l2 := x2 _ _ nl l1
      have e5 : 5 ^ (d.toNat + 1) = 5 ^ d.toNat * 5 := Nat.pow_succ ..
      have p5 : 1 ≤ 5 ^ d.toNat := Nat.one_le_pow _ _ (by decide)
      have q5 : 5 ^ ((d - 2).toNat + 1) ≤ 5 ^ d.toNat := Nat.pow_le_pow_right (by decide) eD2
      clear x1 x2 h1 l1
      show tSeq _ _ _ [some (.ref p), some (.int d), some (.ref l), some (.int m), some (.int (m % 16)), some v1, none, none] H2
      refine ⟨_, rfl, _, _, rfl, rfl, _, rfl, ite2 (fun c => ?w10) (fun c10 => ?_)⟩
      case w10 =>
        have hlt : m % 16 < 10 := of_decide_eq_true c
        refine ⟨by rw [sizeLine_eq]; simp, fun L hL => ?_⟩
        have s3 := same_upd (o := .lst [V.str "not", .str "next", .str "always", .str "ever", .str "before", .str "once", .str "sofar", .str "all"]) hL
        have e3 : (upd H2 L (.lst [V.str "not", .str "next", .str "always", .str "ever", .str "before", .str "once", .str "sofar", .str "all"])) L = some (.lst [V.str "not", .str "next", .str "always", .str "ever", .str "before", .str "once", .str "sofar", .str "all"]) := upd_same
        generalize upd H2 L (.lst [V.str "not", .str "next", .str "always", .str "ever", .str "before", .str "once", .str "sofar", .str "all"]) = H3 at s3 e3 ⊢
        obtain ⟨w, hw, hwm⟩ := at_eight (i := m % 16 - 2) (by omega) (by omega)
        refine ⟨_, rfl, _, _, rfl, rfl, L, _, _, .str w, rfl, rfl, SqL.of e3, hw, _, rfl, by rw [sizeLine_eq]; simp, fun t ht => ?_⟩
        have s4 := same_upd (o := .tup [.str w, v1]) ht
        refine k _ _ (.node (.op w) [t1]) ns2 (x02.trans (Same.x (s3.trans s4))) ((s3.trans s4) _ _ h2) (at_op1 (SqT.of upd_same) hwm (at1.mono (Same.tup (s3.trans s4)))) (by rw [w_op]; simp; omega) ?_
        rw [post_len, postL_one]
        omega
      have h10 : 10 ≤ m % 16 := by have : ¬ (m % 16 < 10) := fun z => c10 (decide_eq_true z); omega
      refine ⟨_, rfl, rfl, _, rfl, ite2 (fun c => ?w11) (fun c11 => ?_)⟩
      case w11 =>
        refine ⟨_, rfl, by rw [sizeLine_eq]; simp, fun t ht => ?_⟩
        have s4 := same_upd (o := .tup [.str "some", v1]) ht
        refine k _ _ (.node (.op "some") [t1]) ns2 (x02.trans (Same.x s4)) (s4 _ _ h2) (at_op1 (SqT.of upd_same) (by decide +kernel) (at1.mono (Same.tup s4))) (by rw [w_op]; simp; omega) ?_
        rw [post_len, postL_one]
        omega
      have h11 : 11 ≤ m % 16 := by have : ¬ (m % 16 = 10) := fun z => c11 (decide_eq_true (congrArg V.int z)); omega
      refine ⟨_, rfl, _, _, rfl, rfl, _, rfl, ite2 (fun c => ?w13) (fun c13 => ?_)⟩
      case w13 =>
        have hlt : m % 16 < 13 := of_decide_eq_true c
        refine ⟨by rw [sizeLine_eq]; simp, fun L hL => ?_⟩
        have s3 := same_upd (o := .lst [.str "until", .str "since"]) hL
        have e3 : (upd H2 L (.lst [.str "until", .str "since"])) L = some (.lst [.str "until", .str "since"]) := upd_same
        generalize upd H2 L (.lst [.str "until", .str "since"]) = H3 at s3 e3 ⊢
        obtain ⟨w, hw, hwm⟩ := at_two (a := "until") (b := "since") (i := m % 16 - 11) (by omega) (by omega)
        refine ⟨_, rfl, _, _, rfl, rfl, L, _, _, .str w, rfl, rfl, SqL.of e3, hw, _, rfl, _, rfl, _, rfl, _, _, rfl, rfl, _, rfl, p, ns2, d - 2, l, ss, rfl, by omega, s3 _ _ h2, s3 _ _ l2, nl, hne, hn, fun H4 v2 t2 ns4 x4 h4 at2 wt2 sz2 => ?_⟩
        refine ⟨by rw [sizeLine_eq]; simp, fun t ht => ?_⟩
        have s5 := same_upd (o := .tup [.str w, v1, v2]) ht
        have t4 : SameT H2 H4 := (Same.tup s3).trans (SameX.tup x4 (s3 _ _ h2))
        refine k _ _ (.node (.op w) [t1, t2]) ns4  ((x02.trans (Same.x s3)).trans (x4.trans (Same.x s5))) (s5 _ _ h4) (at_op2 (SqT.of upd_same) (by rcases hwm with rfl | rfl <;> decide +kernel) (at1.mono (t4.trans (Same.tup s5))) ((at2.le eD2).mono (Same.tup s5))) (by rw [w_op]; simp; omega) ?_
        rw [post_len, show [t1, t2] = [t1] ++ [t2] from rfl, postL_app, postL_one, postL_one, List.length_append]
        omega
      have h13 : 13 ≤ m % 16 := by have : ¬ (m % 16 < 13) := fun z => c13 (decide_eq_true z); omega
      refine ⟨_, rfl, rfl, _, rfl, ite2 (fun c => ?w14) (fun c14 => ?_)⟩
      case w14 =>
        refine ⟨_, rfl, _, _, rfl, rfl, ⟨by decide, by decide⟩, by rw [sizeLine_eq]; simp, fun L hL => ?_⟩
        have s3 := same_upd (o := .lst [.int 2, .int 6]) hL
        have e3 : (upd H2 L (.lst [.int 2, .int 6])) L = some (.lst [.int 2, .int 6]) := upd_same
        generalize upd H2 L (.lst [.int 2, .int 6]) = H3 at s3 e3 ⊢
        obtain ⟨j, hj, hjm⟩ : ∃ j : Int, atI [V.int 2, .int 6] (if decide (V.int d = V.int 1) = true then 1 else 0) = some (.int j) ∧ (j = 2 ∨ j = 6) := by
          by_cases hb : decide (V.int d = V.int 1) = true
          · rw [if_pos hb]; exact ⟨6, rfl, .inr rfl⟩
          · rw [if_neg hb]; exact ⟨2, rfl, .inl rfl⟩
        refine ⟨_, rfl, rfl, .inr ⟨_, rfl, L, _, _, .int j, rfl, rfl, SqL.of e3, hj, _, _, rfl, rfl, by rcases hjm with rfl | rfl <;> decide, ?_⟩⟩
        have j0 := Int.emod_nonneg (m / 16) (show j ≠ 0 by rcases hjm with rfl | rfl <;> decide)
        have j1 := Int.emod_lt_of_pos (m / 16) (show (0 : Int) < j by rcases hjm with rfl | rfl <;> decide)
        refine ⟨_, rfl, _, rfl, _, rfl, _, _, rfl, rfl, _, rfl, p, ns2, d - 2, l, ss, rfl, by omega, s3 _ _ h2, s3 _ _ l2, nl, hne, hn, fun H4 v2 t2 ns4 x4 h4 at2 wt2 sz2 => ?_⟩
        refine ⟨by rw [sizeLine_eq]; simp, fun t ht => ?_⟩
        have s5 := same_upd (o := .tup [.str "within", .int (m / 16 % j), v1, v2]) ht
        have t4 : SameT H2 H4 := (Same.tup s3).trans (SameX.tup x4 (s3 _ _ h2))
        refine k _ _ (.node (.wit (m / 16 % j)) [t1, t2]) ns4 ((x02.trans (Same.x s3)).trans (x4.trans (Same.x s5))) (s5 _ _ h4) (at_wit (SqT.of upd_same) ⟨j0, by rcases hjm with rfl | rfl <;> omega⟩ (at1.mono (t4.trans (Same.tup s5))) ((at2.le eD2).mono (Same.tup s5))) (by rw [w_wit]; simp; omega) ?_
        rw [post_len, show [t1, t2] = [t1] ++ [t2] from rfl, postL_app, postL_one, postL_one, List.length_append]
        omega
      have h14 : 14 ≤ m % 16 := by have : ¬ (m % 16 = 13) := fun z => c14 (decide_eq_true (congrArg V.int z)); omega
      -- and, or
      refine ⟨_, rfl, by rw [sizeLine_eq]; simp, fun F hF => ?_⟩
      have s3 := same_upd (o := .lst [v1]) hF
      have e3 : (upd H2 F (.lst [v1])) F = some (.lst [v1]) := upd_same
      have nF : F ≠ p := fun e => by rw [e, h2] at hF; cases hF
      have hF0 : H F = none := x02.free nF hF
      have nlF : l ≠ F := ne_new l2 hF
      generalize upd H2 F (.lst [v1]) = H3 at s3 e3 ⊢
      have m0 := Int.emod_nonneg (m / 16) (show (4 : Int) ≠ 0 by decide)
      have m1 := Int.emod_lt_of_pos (m / 16) (show (0 : Int) < 4 by decide)
      refine ⟨_, rfl, _, _, rfl, rfl, ⟨by decide, by decide⟩, _, _, rfl, rfl, by simp, _, rfl, by omega, by omega, ?_⟩
      refine for_range (fun i σ H' => ∃ (z : Option V) (us : List V) (ks : List Tr) (ns' : List Int), σ = [some (.ref p), some (.int d), some (.ref l), some (.int m), some (.int (m % 16)), some v1, some (.ref F), z] ∧ SameX p H H' ∧ H' p = some (.lst (ns'.map V.int)) ∧ H' l = some (.lst (ss.map V.str)) ∧ H' F = some (.lst us) ∧ AtL K d.toNat H' us ks ∧ ks.length = i + 1 ∧ (postL ks).length ≤ (i + 1) * 5 ^ d.toNat ∧ (ks.map wgt).sum + 40 * ns'.length ≤ 40 * ns1.length + (i + 1)) ?_ ?_ ?_
      · exact ⟨_, [v1], [t1], ns2, rfl, x02.trans (Same.x s3), s3 _ _ h2, s3 _ _ l2, e3, AtL.one (at1.mono (Same.tup s3)), rfl, by rw [postL_one]; omega, by simp; omega⟩
      · rintro i σ H4 hi ⟨z, us, ks, ns4, rfl, x4, h4, l4, hF4, aL, kl, sz, wsum⟩
        have hi' : i < (m / 16 % 4).toNat := hi
        refine ⟨_, rfl, .inl ⟨rfl, _, SqL.of hF4⟩, _, rfl, _, rfl, _, _, rfl, rfl, _, rfl, p, ns4, d - 2, l, ss, rfl, by omega, h4, l4, nl, hne, hn, fun H5 v2 t2 ns5 x5 h5 at2 wt2 sz2 => ?_⟩
        have hF5 := x5 _ _ nF hF4
        have hul := aL.1
        refine ⟨F, _, _, rfl, rfl, hF5, by rw [sizeLine_eq]; omega, ?_⟩
        have x6 : SameX F H5 (upd H5 F (.lst (us ++ [v2]))) := (SameX.refl H5).upd
        have t6 : SameT H5 (upd H5 F (.lst (us ++ [v2]))) := SameX.tup x6 hF5
        have t5 : SameT H4 H5 := SameX.tup x5 h4
        refine ⟨_, us ++ [v2], ks ++ [t2], ns5, rfl, (x4.trans x5).updN hF0, updK h5 (Ne.symm nF), updK (x5 _ _ nl l4) nlF, upd_same, (aL.mono (t5.trans t6)).app (AtL.one ((at2.le eD2).mono t6)), by simp; omega, ?_, ?_⟩
        · rw [postL_app, postL_one, List.length_append, Nat.succ_mul]
          omega
        · rw [List.map_append, List.sum_append]; simp; omega
      rintro σ H4 ⟨z, us, ks, ns4, rfl, x4, h4, l4, hF4, aL4, kl, sz, wsum⟩
      have wsum4 : (ks.map wgt).sum + 40 * ns4.length ≤ 40 * ns1.length + 4 := by omega
      have hkk : ks.length ≤ 4 := by rw [kl]; omega
      have szz : (postL ks).length ≤ 4 * 5 ^ d.toNat := Nat.le_trans sz (Nat.mul_le_mul_right _ (by omega))
      clear sz kl e3 s3 hF at1 sz1 x02 h2 l2
      refine ⟨_, rfl, _, _, rfl, rfl, ⟨by decide, by decide⟩, _, _, rfl, rfl, by simp, rfl, _, rfl, ite2 (fun c => ?w20) (fun c => ?w21)⟩
      case w20 =>
        refine ⟨by rw [sizeLine_eq]; simp, fun F2 hF2 => ?_⟩
        have s5 := same_upd (o := .lst []) hF2
        have hF5 : (upd H4 F2 (.lst [])) F2 = some (.lst []) := upd_same
        generalize upd H4 F2 (.lst []) = H5 at s5 hF5 ⊢
        have x5 := x4.trans (Same.x s5)
        have h5 := s5 _ _ h4
        have aL : AtL K d.toNat H5 [] [] := AtL.nil
        have hk8 : ([] : List Tr).length ≤ 8 := by simp
        have szz : (postL []).length ≤ 4 * 5 ^ d.toNat := by simp [postL]
        refine ⟨by rw [sizeLine_eq]; simp, fun L hL => ?_⟩
        have s6 := same_upd (o := .lst [.str "and", .str "or"]) hL
        have e6 : (upd H5 L (.lst [.str "and", .str "or"])) L = some (.lst [.str "and", .str "or"]) := upd_same
        generalize upd H5 L (.lst [.str "and", .str "or"]) = H6 at s6 e6 ⊢
        obtain ⟨w, hw1, hw2⟩ := at_two (a := "and") (b := "or") (i := m % 16 - 14) (by omega) (by omega)
        refine ⟨_, rfl, _, _, rfl, rfl, L, _, _, .str w, rfl, rfl, SqL.of e6, hw1, _, rfl, F2, [], rfl, .inl ⟨SqL.of (s6 _ _ hF5), fun b hb => ?_⟩⟩
        have s7 := same_upd (o := .tup []) hb
        have e7 : (upd H6 b (.tup [])) b = some (.tup []) := upd_same
        generalize upd H6 b (.tup []) = H7 at s7 e7 ⊢
        refine ⟨by rw [sizeLine_eq]; simp, fun t ht => ?_⟩
        have s8 := same_upd (o := .tup [.str w, .ref b]) ht
        have e8 : (upd H7 t (.tup [.str w, .ref b])) t = some (.tup [.str w, .ref b]) := upd_same
        generalize upd H7 t (.tup [.str w, .ref b]) = H8 at s8 e8 ⊢
        have s58 := s6.trans (s7.trans s8)
        refine k _ _ (.node (.many w) []) ns4 (x5.trans (Same.x s58)) (s58 _ _ h5) (at_mny (SqT.of e8) (SqT.of (s8 _ _ e7)) (aL.mono (Same.tup s58)) (by rcases hw2 with rfl | rfl; exact .inl rfl; exact .inr rfl) hk8) (by rw [w_many]; first | omega | (simp; omega)) ?_
        rw [post_len]
        have e5 : 5 ^ (d.toNat + 1) = 5 ^ d.toNat * 5 := Nat.pow_succ ..
        omega
      case w21 =>
        refine ⟨by rw [sizeLine_eq]; simp, fun L hL => ?_⟩
        have s6 := same_upd (o := .lst [.str "and", .str "or"]) hL
        have e6 : (upd H4 L (.lst [.str "and", .str "or"])) L = some (.lst [.str "and", .str "or"]) := upd_same
        generalize upd H4 L (.lst [.str "and", .str "or"]) = H6 at s6 e6 ⊢
        obtain ⟨w, hw1, hw2⟩ := at_two (a := "and") (b := "or") (i := m % 16 - 14) (by omega) (by omega)
        refine ⟨_, rfl, _, _, rfl, rfl, L, _, _, .str w, rfl, rfl, SqL.of e6, hw1, _, rfl, F, us, rfl, .inl ⟨SqL.of (s6 _ _ hF4), fun b hb => ?_⟩⟩
        have s7 := same_upd (o := .tup us) hb
        have e7 : (upd H6 b (.tup us)) b = some (.tup us) := upd_same
        generalize upd H6 b (.tup us) = H7 at s7 e7 ⊢
        refine ⟨by rw [sizeLine_eq]; simp, fun t ht => ?_⟩
        have s8 := same_upd (o := .tup [.str w, .ref b]) ht
        have e8 : (upd H7 t (.tup [.str w, .ref b])) t = some (.tup [.str w, .ref b]) := upd_same
        generalize upd H7 t (.tup [.str w, .ref b]) = H8 at s8 e8 ⊢
        have s58 := s6.trans (s7.trans s8)
        refine k _ _ (.node (.many w) ks) ns4 (x4.trans (Same.x s58)) (s58 _ _ h4) (at_mny (SqT.of e8) (SqT.of (s8 _ _ e7)) (aL4.mono (Same.tup s58)) (by rcases hw2 with rfl | rfl; exact .inl rfl; exact .inr rfl) (by omega)) (by rw [w_many]; first | omega | (simp; omega)) ?_
        rw [post_len]
        have e5 : 5 ^ (d.toNat + 1) = 5 ^ d.toNat * 5 := Nat.pow_succ ..
        omega
end KK

set_option Elab.async false
set_option linter.all false
set_option maxRecDepth 100000
set_option maxHeartbeats 8000000
namespace KK
open PySem PySem.Spec L2 L3
theorem cinn_of {K : PySem.W.Frag} {n : Nat} {H : Hp} {v : V} {t : Tr} (hat : At K (n + 1) H v t) (hc : isC t = true) :
    (wordL t.lb = "and" ∧ ∃ a b us, v = .ref a ∧ SqT K H a [.str (wordL t.lb), .ref b] ∧ SqT K H b us ∧ AtL K n H us t.ks) ∨
    (wordL t.lb ≠ "and" ∧ wordL t.lb ∈ (["yes", "sign"] : List Str) ∧ t.ks = []) ∨
    (wordL t.lb ≠ "and" ∧ wordL t.lb ∉ (["yes", "sign"] : List Str) ∧ ∃ a us, v = .ref a ∧ SqT K H a (.str (wordL t.lb) :: us) ∧ us ≠ [] ∧ AtL K n H us t.ks) := by
  obtain ⟨c, ks⟩ := t
  obtain ⟨a, us, rfl, sh, ok, hl, hq⟩ := hat
  have ok' : lbOk c ks.length := ok
  have aL : AtL K n H us ks := ⟨hl, hq⟩
  have sh' : Shape K H a us c := sh
  clear ok hl hq sh
  show (wordL c = _ ∧ _) ∨ (wordL c ≠ _ ∧ wordL c ∈ _ ∧ ks = []) ∨ (wordL c ≠ _ ∧ wordL c ∉ _ ∧ _)
  cases c with
  | yes => exact .inr (.inl ⟨by decide +kernel, by simp [wordL], List.length_eq_zero_iff.mp ok'⟩)
  | sign z => exact .inr (.inl ⟨show ("sign" : Str) ≠ "and" by decide +kernel, by simp [wordL], List.length_eq_zero_iff.mp ok'.1⟩)
  | wit m => rw [isC_node] at hc; unfold isCF at hc; simp at hc
  | op w =>
    have wa := w_apart w (lb_op ok')
    refine .inr (.inr ⟨wa.2.2.2.1, ?_, a, us, rfl, sh', ?_, aL⟩)
    · simp only [wordL, List.mem_cons, List.not_mem_nil, or_false]
      exact fun z => z.elim wa.1 wa.2.1
    · intro e
      have h1 := aL.1
      rw [e] at h1
      rcases ok' with ⟨_, h2⟩ | ⟨_, h2⟩ <;> simp [h2] at h1
  | many w =>
    have hw : w = "and" := by
      rw [isC_node] at hc
      unfold isCF at hc
      simp at hc
      exact hc.2.1
    subst hw
    obtain ⟨b, h1, h2⟩ := sh'
    exact .inl ⟨rfl, a, b, us, rfl, h1, h2, aL⟩
def sp__law_inner (K : PySem.W.Frag) (a : Adr) : Sp := fun vs H Q _ => ∃ v t n, vs = [v] ∧ At K (n + 1) H v t ∧ isC t = true ∧ ∀ H' L us, Same H H' → H L = none → H' L = some (.lst us) → AtL K n H' us t.ks → Q (.ref L) H'
theorem ok__law_inner {P : Program} {w : World} {K : PySem.W.Frag} {mg : Str → Option Value} {base : Heap} {a : Adr} (T : Txt K mg a) (hw : w.params = a.Pm) : FnOk P w K mg base CX0 1 a._law_inner a._law_inner_fd ["_law_core"] (sp__law_inner K a) := by
  refine T.f__law_inner.ok sc__law_inner (fun vs H Q E h => ?_) (fun cdv A outer s H vs Q E hr h => ?_)
  · obtain ⟨v, t, n, rfl, _⟩ := h
    rfl
  · obtain ⟨v, t, n, rfl, hat, hc, k⟩ := h
    refine ⟨_, (@pss_cons _ _ _ _ _ (@ps_if _ _ _ _ _ _ _ _ (@pt_cmpR _ _ _ _ _ _ _ _ op_eq
      (@pe_ix _ _ _ _ _ _ _ (ix_tupK (K := K) rfl)
      (pv 0)
      pe_int
      (fun _ _ => rfl))
      pe_str
      (nomark _))
      (@pss_one _ _ _ (@ps_ret _ _ _ _ (pe_callTy (call_listK (K := K) rfl rfl) rfl T.b_list PyProof.Rows.Boot.«list» (@pa_cons _ _ _ _ _ (@pe_ix _ _ _ _ _ _ _ (ix_tupK (K := K) rfl)
      (pv 0)
      pe_int
      (fun _ _ => rfl))
      pa_nil
      (by rfl)))))
      pss_nil)
      (@pss_cons _ _ _ _ _ (@ps_if _ _ _ _ _ _ _ _ (@pt_cmpR _ _ _ _ _ _ _ _ (op_inK (K := K) rfl)
      (@pe_ix _ _ _ _ _ _ _ (ix_tupK (K := K) rfl)
      (pv 0)
      pe_int
      (fun _ _ => rfl))
      (@pe_lst _ _ _ _ (@pa_cons _ _ _ _ _ pe_str
      (@pa_cons _ _ _ _ _ pe_str
      pa_nil
      (by rfl))
      (by rfl)))
      (by with_unfolding_all rfl))
      (@pss_one _ _ _ (@ps_ret _ _ _ _ (@pe_lst _ _ _ _ pa_nil)))
      pss_nil)
      (@pss_one _ _ _ (@ps_ret _ _ _ _ (pe_callTy (call_listK (K := K) rfl rfl) rfl T.b_list PyProof.Rows.Boot.«list» (@pa_cons _ _ _ _ _ (pe_slice (sl_tupK (K := K) rfl) (pv 0) (po_some pe_int) po_none)
      pa_nil
      (by rfl))))))), ?_⟩
    have ins := cinn_of hat hc
    obtain ⟨ax, us0, rfl, sh0, _⟩ := id hat
    obtain ⟨xs, ex⟩ := sh0.tup
    clear sh0
    rcases ins with ⟨h1, a', b, us, ea, e1, e2, aL⟩ | ⟨h1, h2, h3⟩ | ⟨h1, h2, a', us, ea, e1, hne, aL⟩
    · cases ea
      refine ⟨_, rfl, ax, _, _, _, rfl, rfl, ex, atI_nat (j := 0) rfl, rfl, _, rfl, iteD (congrArg V.str h1) ?_⟩
      refine ⟨_, rfl, ax, _, _, _, rfl, rfl, e1, atI_nat (j := 1) rfl, .inl ⟨b, us, rfl, .inr e2, fun l hl => ?_⟩⟩
      exact k _ l us (same_upd hl) hl upd_same (aL.mono (Same.tup (same_upd hl)))
    · refine ⟨_, rfl, ax, _, _, _, rfl, rfl, ex, atI_nat (j := 0) rfl, rfl, _, rfl, iteN (fun z => h1 (V.str.inj z)) ?_⟩
      refine ⟨_, rfl, ax, _, _, _, rfl, rfl, ex, atI_nat (j := 0) rfl, by rw [sizeLine_eq]; simp, fun q hq => ⟨q, _, rfl, .inl (SqL.of upd_same), rfl, rfl, _, rfl, iteIn (ss := ["yes", "sign"]) h2 ⟨by rw [sizeLine_eq]; simp, fun l hl => ?_⟩⟩⟩
      rw [h3] at k
      have s1 := same_upd (o := .lst [.str "yes", .str "sign"]) hq
      exact k _ l [] (s1.trans (same_upd hl)) (s1.free hl) upd_same AtL.nil
    · cases ea
      refine ⟨_, rfl, ax, _, _, _, rfl, rfl, ex, atI_nat (j := 0) rfl, rfl, _, rfl, iteN (fun z => h1 (V.str.inj z)) ?_⟩
      refine ⟨_, rfl, ax, _, _, _, rfl, rfl, ex, atI_nat (j := 0) rfl, by rw [sizeLine_eq]; simp, fun q hq => ⟨q, _, rfl, .inl (SqL.of upd_same), rfl, rfl, _, rfl, iteNin (ss := ["yes", "sign"]) h2 ?_⟩⟩
      have s1 := same_upd (o := .lst [.str "yes", .str "sign"]) hq
      generalize upd H q (.lst [.str "yes", .str "sign"]) = H1 at s1 ⊢
      refine ⟨_, rfl, _, rfl, ax, _, rfl, Same.tup s1 _ _ _ e1, cut_not (by decide) (by simp; omega), fun b hb => ?_⟩
      rw [cutV_one]
      have s2 := same_upd (o := .tup us) hb
      have e3 : (upd H1 b (.tup us)) b = some (.tup us) := upd_same
      generalize upd H1 b (.tup us) = H2 at s2 e3 ⊢
      refine .inl ⟨b, us, rfl, .inr (SqT.of e3), fun l hl => ?_⟩
      have s3 := (s1.trans s2).trans (same_upd (o := .lst us) hl)
      exact k _ l us s3 ((s1.trans s2).free hl) upd_same (aL.mono (Same.tup s3))
end KK

set_option Elab.async false
set_option linter.all false
set_option maxRecDepth 100000
set_option maxHeartbeats 8000000
namespace KK
open PySem PySem.Spec L2 L3
def dTl : Lb → List PyData → List PyData
  | .yes, _ => []
  | .sign z, _ => [.str z]
  | .op _, ds => ds
  | .wit m, ds => .int m :: ds
  | .many _, ds => [.tuple ds]
theorem dF_tl (c : Lb) (ds : List PyData) : dF c ds = .tuple (.str (wordL c) :: dTl c ds) := by cases c <;> rfl
theorem word_lb {c c' : Lb} {n n' : Nat} (h1 : lbOk c n) (h2 : lbOk c' n') (hw : wordL c = wordL c') : c = c' ∨ (∃ z z', c = .sign z ∧ c' = .sign z') ∨ (∃ m m', c = .wit m ∧ c' = .wit m') := by
  have ny : ¬ (("sign" : Str) = "yes") ∧ ¬ (("within" : Str) = "yes") ∧ ¬ (("within" : Str) = "sign") ∧ ¬ (("and" : Str) = "yes") ∧ ¬ (("or" : Str) = "yes") ∧ ¬ (("and" : Str) = "sign") ∧ ¬ (("or" : Str) = "sign") ∧ ¬ (("and" : Str) = "within") ∧ ¬ (("or" : Str) = "within") := by decide +kernel
  obtain ⟨n1, n2, n3, n4, n5, n6, n7, n8, n9⟩ := ny
  cases c with
  | yes =>
    cases c' with
    | yes => exact .inl rfl
    | sign z => exact absurd hw.symm n1
    | wit m => exact absurd hw.symm n2
    | op w => exact absurd hw.symm (w_apart w (lb_op h2)).1
    | many w => rcases h2.1 with rfl | rfl; exact absurd hw.symm n4; exact absurd hw.symm n5
  | sign z =>
    cases c' with
    | yes => exact absurd hw n1
    | sign z' => exact .inr (.inl ⟨z, z', rfl, rfl⟩)
    | wit m => exact absurd hw.symm n3
    | op w => exact absurd hw.symm (w_apart w (lb_op h2)).2.1
    | many w => rcases h2.1 with rfl | rfl; exact absurd hw.symm n6; exact absurd hw.symm n7
  | wit m =>
    cases c' with
    | yes => exact absurd hw n2
    | sign z => exact absurd hw n3
    | wit m' => exact .inr (.inr ⟨m, m', rfl, rfl⟩)
    | op w => exact absurd hw.symm (w_apart w (lb_op h2)).2.2.1
    | many w => rcases h2.1 with rfl | rfl; exact absurd hw.symm n8; exact absurd hw.symm n9
  | op w =>
    have wa := w_apart w (lb_op h1)
    cases c' with
    | yes => exact absurd hw wa.1
    | sign z => exact absurd hw wa.2.1
    | wit m => exact absurd hw wa.2.2.1
    | op w' => exact .inl (by rw [show w = w' from hw])
    | many w' => rcases h2.1 with rfl | rfl; exact absurd hw wa.2.2.2.1; exact absurd hw wa.2.2.2.2
  | many w =>
    cases c' with
    | yes => rcases h1.1 with rfl | rfl; exact absurd hw n4; exact absurd hw n5
    | sign z => rcases h1.1 with rfl | rfl; exact absurd hw n6; exact absurd hw n7
    | wit m => rcases h1.1 with rfl | rfl; exact absurd hw n8; exact absurd hw n9
    | op w' => rcases h1.1 with rfl | rfl; exact absurd hw.symm (w_apart w' (lb_op h2)).2.2.2.1; exact absurd hw.symm (w_apart w' (lb_op h2)).2.2.2.2
    | many w' => exact .inl (by rw [show w = w' from hw])
theorem eqv_kids : ∀ {ks js : List Tr}, (∀ k ∈ ks, ∀ s ∈ js, PyData.eqv (dTr k) (dTr s) = true → k = s) → PyData.eqvAll (ks.map dTr) (js.map dTr) = true → ks = js
  | [], [], _, _ => rfl
  | [], _ :: _, _, h => by simp [PyData.eqvAll] at h
  | _ :: _, [], _, h => by simp [PyData.eqvAll] at h
  | k :: ks, j :: js, f, h => by
    rw [List.map_cons, List.map_cons, PyData.eqvAll, Bool.and_eq_true] at h
    rw [f k (by simp) j (by simp) h.1, eqv_kids (fun a ha b hb => f a (List.mem_cons_of_mem _ ha) b (List.mem_cons_of_mem _ hb)) h.2]
theorem eqv_tr : ∀ {n m : Nat} {t s : Tr}, OkN n t → OkN m s → PyData.eqv (dTr t) (dTr s) = true → t = s
  | 0, _, _, _, h, _, _ => h.elim
  | _ + 1, 0, _, _, _, h, _ => h.elim
  | n + 1, m + 1, t, s, ⟨o1, k1⟩, ⟨o2, k2⟩, h => by
    rw [dTr_eq, dTr_eq s, dF_tl, dF_tl, PyData.eqv, PyData.eqvAll, Bool.and_eq_true] at h
    obtain ⟨hw, ht⟩ := h
    rw [PyData.eqv] at hw
    have hw' : wordL t.lb = wordL s.lb := by simpa using hw
    have kids : PyData.eqvAll (t.ks.map dTr) (s.ks.map dTr) = true → t.ks = s.ks := eqv_kids fun k hk j hj e => eqv_tr (k1 k hk) (k2 j hj) e
    have fin : t.lb = s.lb → t.ks = s.ks → t = s := fun a b => by rw [Tr.eta t, Tr.eta s, a, b]
    rcases word_lb o1 o2 hw' with e | ⟨z, z', e1, e2⟩ | ⟨a, b, e1, e2⟩
    · refine fin e ?_
      rw [← e] at ht o2
      revert ht o1 o2
      cases t.lb with
      | yes => intro o1 o2 ht; exact (List.length_eq_zero_iff.mp o1).trans (List.length_eq_zero_iff.mp o2).symm
      | sign z => intro o1 o2 ht; exact (List.length_eq_zero_iff.mp o1.1).trans (List.length_eq_zero_iff.mp o2.1).symm
      | op w => intro o1 o2 ht; exact kids ht
      | wit a =>
        intro o1 o2 ht
        have ht2 : (PyData.eqv (.int a) (.int a) && PyData.eqvAll (t.ks.map dTr) (s.ks.map dTr)) = true := ht
        rw [Bool.and_eq_true] at ht2
        exact kids ht2.2
      | many w =>
        intro o1 o2 ht
        have ht2 : (PyData.eqv (.tuple (t.ks.map dTr)) (.tuple (s.ks.map dTr)) && PyData.eqvAll [] []) = true := ht
        rw [Bool.and_eq_true, PyData.eqv] at ht2
        exact kids ht2.1
    · rw [e1] at o1
      rw [e2] at o2
      rw [e1, e2] at ht
      have ht2 : (PyData.eqv (.str z) (.str z') && PyData.eqvAll [] []) = true := ht
      rw [Bool.and_eq_true, PyData.eqv] at ht2
      have hz : z = z' := by simpa using ht2.1
      exact fin (by rw [e1, e2, hz]) ((List.length_eq_zero_iff.mp o1.1).trans (List.length_eq_zero_iff.mp o2.1).symm)
    · rw [e1, e2] at ht
      have ht2 : (PyData.eqv (.int a) (.int b) && PyData.eqvAll (t.ks.map dTr) (s.ks.map dTr)) = true := ht
      rw [Bool.and_eq_true, PyData.eqv] at ht2
      have hz : a = b := by simpa using ht2.1
      exact fin (by rw [e1, e2, hz]) (kids ht2.2)
theorem dpt_hgt : ∀ {n : Nat} {t : Tr}, OkN n t → dpt t ≤ 2 * n
  | 0, _, h => h.elim
  | n + 1, t, ⟨ok, h⟩ => by
    rw [dpt_eq]
    have hk : mx (t.ks.map dpt) ≤ 2 * n := mx_le.mpr fun x hx => by
      obtain ⟨k, hk, rfl⟩ := List.mem_map.mp hx
      exact dpt_hgt (h k hk)
    split <;> omega
theorem lay_all : ∀ {ts : List Tr}, (∀ s ∈ ts, ∃ n, OkN n s) → PyData.canLayAll0 (ts.map dTr) = true
  | [], _ => rfl
  | t :: r, h => by
    obtain ⟨n, o⟩ := h t (by simp)
    rw [List.map_cons, PyData.canLayAll0, Bool.and_eq_true]
    exact ⟨(OkN.fine o).1, lay_all fun s hs => h s (List.mem_cons_of_mem _ hs)⟩
open Classical in
theorem any_tr : ∀ {ts : List Tr} {t : Tr} {m : Nat}, (∀ s ∈ ts, ∃ n, OkN n s) → OkN m t → ((ts.map dTr).any fun z => PyData.eqv z (dTr t)) = decide (t ∈ ts)
  | [], t, m, _, _ => by simp
  | s :: r, t, m, h, o => by
    obtain ⟨n, os⟩ := h s (by simp)
    rw [List.map_cons, List.any_cons, any_tr (fun x hx => h x (List.mem_cons_of_mem _ hx)) o]
    by_cases e : t = s
    · subst e
      rw [eqv_self (OkN.fine o)]
      simp
    · have : PyData.eqv (dTr s) (dTr t) = false := by
        cases hh : PyData.eqv (dTr s) (dTr t) with
        | false => rfl
        | true => exact absurd (eqv_tr os o hh).symm e
      rw [this, Bool.false_or]
      simp [e]
theorem tl_ok {K : PySem.W.Frag} {n : Nat} {H : Hp} {vs : List V} {ts : List Tr} (h : AtL K n H vs ts) : ∀ s ∈ ts, ∃ m, OkN m s := fun s hs => by
  obtain ⟨i, hi, e⟩ := List.getElem_of_mem hs
  have hv : i < vs.length := by rw [h.1]; exact hi
  exact ⟨n, (h.2 i _ s (List.getElem?_eq_getElem hv) (by rw [← e]; exact List.getElem?_eq_getElem hi)).ok⟩
open Classical in
/-- x not in found -/
theorem not_in {K : PySem.W.Frag} {H : Hp} {F : Addr} {fv : List V} {ts : List Tr} {n m : Nat} {v : V} {t : Tr} {Q : VK} (hF : H F = some (.lst fv)) (aF : AtL K n H fv ts) (hv : At K m H v t) (hd : dpt t ≤ 190) (q1 : t ∈ ts → Q (.bl false) H) (q2 : t ∉ ts → Q (.bl true) H) : rInB K true v (.ref F) H Q := by
  have o := hv.ok
  refine ⟨ts.map dTr, dTr t, .lst (SqL.of hF) (dpAll_at aF.1 fun i u k h1 h2 => (aF.2 i u k h1 h2).dp), hv.dp, lay_all (tl_ok aF), (OkN.fine o).1, ?_, ?_⟩
  · have := (OkN.fine o).2
    omega
  · rw [if_pos rfl, any_tr (tl_ok aF) o]
    by_cases h : t ∈ ts
    · rw [decide_eq_true h]; exact q1 h
    · rw [decide_eq_false h]; exact q2 h
theorem dpt_kid {t k : Tr} (h : k ∈ t.ks) : dpt k ≤ dpt t := by
  have h1 : dpt k ≤ mx (t.ks.map dpt) := mx_le.mp (Nat.le_refl _) _ (List.mem_map_of_mem h)
  rw [dpt_eq t]
  split <;> omega
theorem dpt_post : ∀ (n : Nat) {t x : Tr}, psz t ≤ n → x ∈ post t → dpt x ≤ dpt t
  | 0, t, x, h, _ => by have := psz_pos t; omega
  | n + 1, t, x, h, hx => by
    rw [post_eq, List.mem_append, mem_postL2] at hx
    rcases hx with ⟨k, hk, hx⟩ | hx
    · have h1 := dpt_post n (by have := psz_kid hk; omega) hx
      have h2 := dpt_kid hk
      omega
    · rw [List.mem_singleton.mp hx]; exact Nat.le_refl _
/-- gone through: into somes, or not -/
def pB (b : Bool) (t : Tr) : List Tr := if b = true then post t else postB t
def belowX (b : Bool) (t : Tr) : List Tr := if b = true then t.ks else belowT t
theorem postL_flat : ∀ ks : List Tr, postL ks = (ks.map post).flatten
  | [] => by rw [postL]; rfl
  | t :: r => by rw [postL, postL_flat r]; rfl
theorem pB_eq (b : Bool) (t : Tr) : pB b t = ((belowX b t).map (pB b)).flatten ++ [t] := by
  cases b with
  | true => show post t = ((t.ks).map post).flatten ++ [t]; rw [post_eq, postL_flat]
  | false => exact postB_eq t
theorem pB_sub {b : Bool} {t x : Tr} (h : x ∈ pB b t) : x ∈ post t := by
  cases b with
  | true => exact h
  | false => exact postB_sub _ (Nat.le_refl _) h
theorem pB_len (b : Bool) (t : Tr) : (pB b t).length ≤ psz t := by
  cases b with
  | true => exact Nat.le_refl _
  | false => exact postB_len _ (Nat.le_refl _)
def sp__law_gone_through (n : Nat) (K : PySem.W.Frag) (a : Adr) : Sp := fun vs H Q _ => ∃ v b t m, vs = [v, .bl b] ∧ m < n ∧ At K m H v t ∧ isC t = true ∧ psz t ≤ 2000000 ∧ dpt t ≤ 190 ∧ ∀ H' L us, Same H H' → H L = none → H' L = some (.lst us) → AtL K m H' us (addAll [] (pB b t)) → Q (.ref L) H'
theorem zz__law_gone_through {K : PySem.W.Frag} {a : Adr} {vs : List V} {H : Hp} {Q : VK} {E : XK} (h : sp__law_gone_through 0 K a vs H Q E) : False := by
  obtain ⟨_, _, _, m, _, hm, _⟩ := h
  omega
theorem ok__law_gone_through {P : Program} {w : World} {K : PySem.W.Frag} {mg : Str → Option Value} {base : Heap} {a : Adr} (T : Txt K mg a) (hw : w.params = a.Pm) : ∀ n : Nat, FnOk P w K mg base CX0 (2 + n) a._law_gone_through a._law_gone_through_fd ["_law_core", "_law_into_somes"] (sp__law_gone_through n K a) := by
  have G__law_inner := ok__law_inner (P := P) (w := w) (base := base) T hw
  intro n
  induction n with
  | zero => exact ⟨fun _ _ _ _ h => (zz__law_gone_through h).elim, fun _ _ _ _ _ _ _ _ _ _ _ _ _ h => (zz__law_gone_through h).elim⟩
  | succ n G__law_gone_through =>
    refine T.f__law_gone_through.ok sc__law_gone_through (fun vs H Q E h => ?_) (fun cdv A outer s H vs Q E hr h => ?_)
    · obtain ⟨v, b, t, m, rfl, _⟩ := h
      rfl
    · obtain ⟨v, b, t, m, rfl, hm, hat, hc, hz, hdp, k⟩ := h
      refine ⟨_, (@pss_cons _ _ _ _ _ (@ps_set _ _ (2) _ _ _ _ sc__law_gone_through.nd
      rfl
      (by first | exact Or.inl rfl | exact Or.inr rfl)
      (@pe_lst _ _ _ _ pa_nil)
      (by rfl)
      (by first | exact .inl rfl | exact .inr rfl | assumption))
      (@pss_cons _ _ _ _ _ (@ps_if _ _ _ _ _ _ _ _ (PW.pt (pw_or (pt_truthK (K := K) rfl (pv 1) (fun _ => rfl)) (pw_or1 (@pt_cmpR _ _ _ _ _ _ _ _ op_ne
      (@pe_ix _ _ _ _ _ _ _ (ix_tupK (K := K) rfl)
      (pv 0)
      pe_int
      (fun _ _ => rfl))
      pe_str
      (nomark _)))))
      (@pss_one _ _ _ (ps_for PassesOwn.never rfl (pi_listK (K := K) rfl (pe_call G__law_inner (hr.mono (show _ ≤ 2 + n by omega)) rfl T.g__law_inner T.f__law_inner.kp T.n__law_inner .nil pass0 (@pa_cons _ _ _ _ _ (pv 0)
      pa_nil
      (by rfl)))) (pg_name (i := 3) sc__law_gone_through.nd rfl (by first | exact Or.inl rfl | exact Or.inr rfl)) (@pss_one _ _ _ (ps_for PassesOwn.never rfl (pi_listK (K := K) rfl (pe_call G__law_gone_through hr rfl T.g__law_gone_through T.f__law_gone_through.kp T.n__law_gone_through .nil pass0 (@pa_cons _ _ _ _ _ (pv 3)
      (@pa_cons _ _ _ _ _ (pv 1)
      pa_nil
      (by rfl))
      (by rfl)))) (pg_name (i := 4) sc__law_gone_through.nd rfl (by first | exact Or.inl rfl | exact Or.inr rfl)) (@pss_one _ _ _ (@ps_if _ _ _ _ _ _ _ _ (@pt_cmpR _ _ _ _ _ _ _ _ (op_notInB (K := K) rfl (Room.units2 hr))
      (pv 4)
      (pv 2)
      (by with_unfolding_all rfl))
      (@pss_one _ _ _ (@ps_expr _ _ _ _ (pe_bm PySem.F.plainAttrs_list PySem.F.slot_list_append PySem.F.type_list_append mt_append (pv 2) (@pa_cons _ _ _ _ _ (pv 4)
      pa_nil
      (by rfl)))
      (by rfl)))
      pss_nil))))))
      pss_nil)
      (@pss_cons _ _ _ _ _ (@ps_if _ _ _ _ _ _ _ _ (@pt_cmpR _ _ _ _ _ _ _ _ (op_notInB (K := K) rfl (Room.units2 hr))
      (pv 0)
      (pv 2)
      (by with_unfolding_all rfl))
      (@pss_one _ _ _ (@ps_expr _ _ _ _ (pe_bm PySem.F.plainAttrs_list PySem.F.slot_list_append PySem.F.type_list_append mt_append (pv 2) (@pa_cons _ _ _ _ _ (pv 0)
      pa_nil
      (by rfl)))
      (by rfl)))
      pss_nil)
      (@pss_one _ _ _ (@ps_ret _ _ _ _ (pv 2)))))), ?_⟩
      cases m with
      | zero => exact hat.elim
      | succ m =>
        refine ⟨by decide, fun F hF => ?_⟩
        have s1 := same_upd (o := .lst []) hF
        have e1 : (upd H F (.lst [])) F = some (.lst []) := upd_same
        generalize upd H F (.lst []) = H1 at s1 e1 ⊢
        have pbl := pB_len b t
        have lenB : ∀ i, ((((belowX b t).take i).map (pB b)).flatten).length ≤ 2000000 := fun i => by
          have h1 : ((belowX b t).map (pB b)).flatten = (((belowX b t).take i).map (pB b)).flatten ++ (((belowX b t).drop i).map (pB b)).flatten := by
            rw [← List.flatten_append, ← List.map_append, List.take_append_drop]
          have h2 := congrArg List.length (pB_eq b t)
          rw [List.length_append, h1, List.length_append] at h2
          omega
        have eA : addAll [] (pB b t) = addT (addAll [] ((belowX b t).map (pB b)).flatten) t := by rw [pB_eq, addAll_app]; rfl
        rw [eA] at k
        have lA := addAll_len ((belowX b t).map (pB b)).flatten []
        have lB := lenB (belowX b t).length
        rw [List.take_of_length_le (Nat.le_refl _)] at lB
        rw [List.length_nil] at lA
        obtain ⟨ax, us0, ev, sh0, _⟩ := id hat
        obtain ⟨xs, ex⟩ := sh0.tup
        have ex1 := Same.tup s1 _ _ _ ex
        subst ev
        have hword : wordL t.lb = "some" → belowT t = [] := fun hw => by
          have ok := tat_ok hat
          have ny : ¬ (("yes" : Str) = "some") ∧ ¬ (("sign" : Str) = "some") ∧ ¬ (("within" : Str) = "some") ∧ ¬ (("and" : Str) = "some") ∧ ¬ (("or" : Str) = "some") := by decide +kernel
          unfold belowT
          revert hw ok
          cases t.lb with
          | yes => intro hw ok; exact absurd hw ny.1
          | sign z => intro hw ok; exact absurd hw ny.2.1
          | wit m => intro hw ok; exact absurd hw ny.2.2.1
          | many w => intro hw ok; rcases ok.1 with rfl | rfl; exact absurd hw ny.2.2.2.1; exact absurd hw ny.2.2.2.2
          | op w => intro hw ok; show (if w = "some" then [] else t.ks) = []; rw [if_pos (show w = "some" from hw)]
        have hnot : wordL t.lb ≠ "some" → belowT t = t.ks := fun hw => by
          unfold belowT
          revert hw
          cases t.lb with
          | op w => intro hw; show (if w = "some" then [] else t.ks) = t.ks; rw [if_neg (show ¬ (w = "some") from hw)]
          | yes => intro _; rfl
          | sign z => intro _; rfl
          | wit m => intro _; rfl
          | many w => intro _; rfl
        by_cases hbt : b = true
        · have eb : belowX b t = t.ks := by rw [hbt]; rfl
          refine ⟨_, rfl, true, hbt.symm, iteT (iteT ?_)⟩
          refine ⟨_, rfl, .ref ax, t, m, rfl, hat.mono (Same.tup s1), hc, fun H2 L us s2 L0 hL aL => ⟨L, rfl, ⟨_, SqL.of hL⟩, ?_⟩⟩
          have nLF : L ≠ F := fun e => by rw [e, e1] at L0; cases L0
          have hF2 := s2 _ _ e1
          rw [← eb] at aL
          have hul := aL.1
          refine for_list (K := K) (xs := us) (fun i σ H' => ∃ (z1 z2 : Option V) (fv : List V), σ = [some (.ref ax), some (.bl b), some (.ref F), z1, z2] ∧ Same H H' ∧ H' L = some (.lst us) ∧ AtL K m H' us (belowX b t) ∧ H' F = some (.lst fv) ∧ AtL K (m + 1) H' fv (addAll [] (((belowX b t).take i).map (pB b)).flatten)) ?_ ?_ ?_ ?_
          · exact ⟨_, _, [], rfl, s1.trans s2, hL, aL, hF2, by rw [List.take_zero]; exact AtL.nil⟩
          · rintro i σ H' hi ⟨z1, z2, fv, rfl, _, hL', _⟩
            exact SqL.of hL'
          · rintro i x σ H3 hx ⟨z1, z2, fv, rfl, s3, hL3, aL3, hF3, aF3⟩
            have hi : i < us.length := (List.getElem?_eq_some_iff.mp hx).1
            have hki : (belowX b t)[i]? = some (belowX b t)[i] := List.getElem?_eq_getElem (by omega)
            have atx := aL3.2 i x _ hx hki
            have kb : (belowX b t)[i] ∈ t.ks := by rw [← eb]; exact List.getElem_mem _
            have hck := isC_kids hc _ kb
            have hzk := psz_kid kb
            have hdk := dpt_kid kb
            have ext : (((belowX b t).take (i + 1)).map (pB b)).flatten = (((belowX b t).take i).map (pB b)).flatten ++ pB b (belowX b t)[i] := by
              rw [List.take_succ, hki, List.map_append, List.flatten_append]
              simp
            have lA := lenB (i + 1)
            rw [ext, List.length_append] at lA
            rw [ext, addAll_app]
            generalize (belowX b t)[i] = kd at atx kb hck hzk hdk lA
            have lA0 := addAll_len (((belowX b t).take i).map (pB b)).flatten []
            rw [List.length_nil] at lA0
            generalize addAll [] (((belowX b t).take i).map (pB b)).flatten = A at aF3 lA0
            have lA1 : A.length + (pB b kd).length ≤ 2000000 := by omega
            refine ⟨_, rfl, _, rfl, x, b, kd, m, rfl, by omega, atx, hck, by omega, by omega, fun H4 L2 us2 s4 L20 hL2 aL2 => ⟨L2, rfl, ⟨_, SqL.of hL2⟩, ?_⟩⟩
            have nL2F : L2 ≠ F := fun e => by rw [e, hF3] at L20; cases L20
            have u2l := aL2.1
            refine for_list (K := K) (xs := us2) (fun j σ H' => ∃ (z2 : Option V) (fv : List V), σ = [some (.ref ax), some (.bl b), some (.ref F), some x, z2] ∧ Same H H' ∧ H' L = some (.lst us) ∧ AtL K m H' us (belowX b t) ∧ H' L2 = some (.lst us2) ∧ AtL K m H' us2 (addAll [] (pB b kd)) ∧ H' F = some (.lst fv) ∧ AtL K (m + 1) H' fv (addAll A ((addAll [] (pB b kd)).take j))) ?_ ?_ ?_ ?_
            · exact ⟨_, fv, rfl, s3.trans s4, s4 _ _ hL3, aL3.mono (Same.tup s4), hL2, aL2, s4 _ _ hF3, by rw [List.take_zero]; exact aF3.mono (Same.tup s4)⟩
            · rintro j σ H' hj ⟨z2, fv, rfl, _, _, _, hL2', _⟩
              exact SqL.of hL2'
            · rintro j y σ H5 hy ⟨z2, fv, rfl, s5, hL5, aL5, hL25, aL25, hF5, aF5⟩
              have hj : j < us2.length := (List.getElem?_eq_some_iff.mp hy).1
              have hpj : (addAll [] (pB b kd))[j]? = some (addAll [] (pB b kd))[j] := List.getElem?_eq_getElem (by omega)
              have aty := aL25.2 j y _ hy hpj
              have qm : (addAll [] (pB b kd))[j] ∈ post kd := by
                rcases mem_addAll.mp (List.getElem_mem (show j < (addAll [] (pB b kd)).length by omega)) with h | h
                · cases h
                · exact pB_sub h
              have hdq := dpt_post _ (Nat.le_refl _) qm
              have exj : addAll A ((addAll [] (pB b kd)).take (j + 1)) = addT (addAll A ((addAll [] (pB b kd)).take j)) (addAll [] (pB b kd))[j] := by
                rw [List.take_succ, hpj, addAll_app]
                rfl
              have lA2 := addAll_len ((addAll [] (pB b kd)).take j) A
              rw [List.length_take] at lA2
              have lA3 := addAll_len (pB b kd) []
              rw [List.length_nil] at lA3
              rw [exj]
              generalize (addAll [] (pB b kd))[j] = q at aty hdq
              generalize addAll A ((addAll [] (pB b kd)).take j) = B at aF5 lA2
              have hfl := aF5.1
              refine ⟨_, rfl, _, rfl, not_in hF5 aF5 aty (by omega) (fun hin => ?_) (fun hout => ?_)⟩
              · refine ⟨_, rfl, iteF ⟨_, fv, rfl, s5, hL5, aL5, hL25, aL25, hF5, by rw [addT_in hin]; exact aF5⟩⟩
              · refine ⟨_, rfl, iteT ⟨_, rfl, .inl ⟨rfl, _, SqL.of hF5⟩, _, rfl, F, _, _, rfl, rfl, hF5, by rw [sizeLine_eq]; omega, ?_⟩⟩
                have x6 : SameX F H5 (upd H5 F (.lst (fv ++ [y]))) := (SameX.refl H5).upd
                have u6 : SameT H5 (upd H5 F (.lst (fv ++ [y]))) := SameX.tup x6 hF5
                refine ⟨_, fv ++ [y], rfl, ((Same.x s5).upd).same hF, updK hL5 nLF, aL5.mono u6, updK hL25 nL2F, aL25.mono u6, upd_same, ?_⟩
                rw [addT_new hout]
                exact (aF5.mono u6).app (AtL.one ((aty.le (Nat.le_succ m)).mono u6))
            rintro σ H5 ⟨z2', fv5, rfl, s5, hL5, aL5, hL25, aL25, hF5, aF5⟩
            rw [u2l, List.take_of_length_le (Nat.le_refl _), addAll_idem] at aF5
            exact ⟨_, _, fv5, rfl, s5, hL5, aL5, hF5, aF5⟩
          rintro σ H3 ⟨z1, z2, fv, rfl, s3, hL3, aL3, hF3, aF3⟩
          rw [hul, List.take_of_length_le (Nat.le_refl _)] at aF3
          generalize addAll [] ((belowX b t).map (pB b)).flatten = A at aF3 k lA
          have hfl := aF3.1
          have at3 := hat.mono (Same.tup s3)
          refine ⟨_, rfl, _, rfl, not_in hF3 aF3 at3 hdp (fun hin => ?_) (fun hout => ?_)⟩
          · refine ⟨_, rfl, iteF ⟨_, rfl, k H3 F fv s3 hF hF3 (by rw [addT_in hin]; exact aF3)⟩⟩
          · refine ⟨_, rfl, iteT ⟨_, rfl, .inl ⟨rfl, _, SqL.of hF3⟩, _, rfl, F, _, _, rfl, rfl, hF3, by rw [sizeLine_eq]; omega, ?_⟩⟩
            have x6 : SameX F H3 (upd H3 F (.lst (fv ++ [.ref ax]))) := (SameX.refl H3).upd
            have u6 : SameT H3 (upd H3 F (.lst (fv ++ [.ref ax]))) := SameX.tup x6 hF3
            refine ⟨_, rfl, k _ F (fv ++ [.ref ax]) (((Same.x s3).upd).same hF) hF upd_same ?_⟩
            rw [addT_new hout]
            exact (aF3.mono u6).app (AtL.one (at3.mono u6))
        · have hbf : b = false := by cases b; rfl; exact absurd rfl hbt
          refine ⟨_, rfl, false, hbf.symm, iteF ?_⟩
          by_cases hw : wordL t.lb = "some"
          · have eb : belowX b t = [] := by rw [hbf]; exact hword hw
            refine ⟨_, rfl, ax, _, _, _, rfl, rfl, ex1, atI_nat (j := 0) rfl, rfl, _, rfl, ?_⟩
            rw [hw]
            refine iteF ?_
            have hF3 := e1
            have s3 := s1
            have aF3 : AtL K (m + 1) H1 [] (addAll [] ((belowX b t).map (pB b)).flatten) := by rw [eb]; exact AtL.nil
            generalize hH3 : H1 = H3 at hF3 s3 aF3 ⊢
            generalize addAll [] ((belowX b t).map (pB b)).flatten = A at aF3 k lA
            have hfl := aF3.1
            have at3 := hat.mono (Same.tup s3)
            refine ⟨_, rfl, _, rfl, not_in hF3 aF3 at3 hdp (fun hin => ?_) (fun hout => ?_)⟩
            · refine ⟨_, rfl, iteF ⟨_, rfl, k H3 F [] s3 hF hF3 (by rw [addT_in hin]; exact aF3)⟩⟩
            · refine ⟨_, rfl, iteT ⟨_, rfl, .inl ⟨rfl, _, SqL.of hF3⟩, _, rfl, F, _, _, rfl, rfl, hF3, by rw [sizeLine_eq]; omega, ?_⟩⟩
              have x6 : SameX F H3 (upd H3 F (.lst ([] ++ [.ref ax]))) := (SameX.refl H3).upd
              have u6 : SameT H3 (upd H3 F (.lst ([] ++ [.ref ax]))) := SameX.tup x6 hF3
              refine ⟨_, rfl, k _ F ([] ++ [.ref ax]) (((Same.x s3).upd).same hF) hF upd_same ?_⟩
              rw [addT_new hout]
              exact (aF3.mono u6).app (AtL.one (at3.mono u6))
          · have eb : belowX b t = t.ks := by rw [hbf]; exact hnot hw
            refine ⟨_, rfl, ax, _, _, _, rfl, rfl, ex1, atI_nat (j := 0) rfl, rfl, _, rfl, ?_⟩
            have hne : (!decide (V.str (wordL t.lb) = V.str "some")) = true := by simp; exact fun z => hw z
            rw [hne]
            refine iteT ?_
            refine ⟨_, rfl, .ref ax, t, m, rfl, hat.mono (Same.tup s1), hc, fun H2 L us s2 L0 hL aL => ⟨L, rfl, ⟨_, SqL.of hL⟩, ?_⟩⟩
            have nLF : L ≠ F := fun e => by rw [e, e1] at L0; cases L0
            have hF2 := s2 _ _ e1
            rw [← eb] at aL
            have hul := aL.1
            refine for_list (K := K) (xs := us) (fun i σ H' => ∃ (z1 z2 : Option V) (fv : List V), σ = [some (.ref ax), some (.bl b), some (.ref F), z1, z2] ∧ Same H H' ∧ H' L = some (.lst us) ∧ AtL K m H' us (belowX b t) ∧ H' F = some (.lst fv) ∧ AtL K (m + 1) H' fv (addAll [] (((belowX b t).take i).map (pB b)).flatten)) ?_ ?_ ?_ ?_
            · exact ⟨_, _, [], rfl, s1.trans s2, hL, aL, hF2, by rw [List.take_zero]; exact AtL.nil⟩
            · rintro i σ H' hi ⟨z1, z2, fv, rfl, _, hL', _⟩
              exact SqL.of hL'
            · rintro i x σ H3 hx ⟨z1, z2, fv, rfl, s3, hL3, aL3, hF3, aF3⟩
              have hi : i < us.length := (List.getElem?_eq_some_iff.mp hx).1
              have hki : (belowX b t)[i]? = some (belowX b t)[i] := List.getElem?_eq_getElem (by omega)
              have atx := aL3.2 i x _ hx hki
              have kb : (belowX b t)[i] ∈ t.ks := by rw [← eb]; exact List.getElem_mem _
              have hck := isC_kids hc _ kb
              have hzk := psz_kid kb
              have hdk := dpt_kid kb
              have ext : (((belowX b t).take (i + 1)).map (pB b)).flatten = (((belowX b t).take i).map (pB b)).flatten ++ pB b (belowX b t)[i] := by
                rw [List.take_succ, hki, List.map_append, List.flatten_append]
                simp
              have lA := lenB (i + 1)
              rw [ext, List.length_append] at lA
              rw [ext, addAll_app]
              generalize (belowX b t)[i] = kd at atx kb hck hzk hdk lA
              have lA0 := addAll_len (((belowX b t).take i).map (pB b)).flatten []
              rw [List.length_nil] at lA0
              generalize addAll [] (((belowX b t).take i).map (pB b)).flatten = A at aF3 lA0
              have lA1 : A.length + (pB b kd).length ≤ 2000000 := by omega
              refine ⟨_, rfl, _, rfl, x, b, kd, m, rfl, by omega, atx, hck, by omega, by omega, fun H4 L2 us2 s4 L20 hL2 aL2 => ⟨L2, rfl, ⟨_, SqL.of hL2⟩, ?_⟩⟩
              have nL2F : L2 ≠ F := fun e => by rw [e, hF3] at L20; cases L20
              have u2l := aL2.1
              refine for_list (K := K) (xs := us2) (fun j σ H' => ∃ (z2 : Option V) (fv : List V), σ = [some (.ref ax), some (.bl b), some (.ref F), some x, z2] ∧ Same H H' ∧ H' L = some (.lst us) ∧ AtL K m H' us (belowX b t) ∧ H' L2 = some (.lst us2) ∧ AtL K m H' us2 (addAll [] (pB b kd)) ∧ H' F = some (.lst fv) ∧ AtL K (m + 1) H' fv (addAll A ((addAll [] (pB b kd)).take j))) ?_ ?_ ?_ ?_
              · exact ⟨_, fv, rfl, s3.trans s4, s4 _ _ hL3, aL3.mono (Same.tup s4), hL2, aL2, s4 _ _ hF3, by rw [List.take_zero]; exact aF3.mono (Same.tup s4)⟩
              · rintro j σ H' hj ⟨z2, fv, rfl, _, _, _, hL2', _⟩
                exact SqL.of hL2'
              · rintro j y σ H5 hy ⟨z2, fv, rfl, s5, hL5, aL5, hL25, aL25, hF5, aF5⟩
                have hj : j < us2.length := (List.getElem?_eq_some_iff.mp hy).1
                have hpj : (addAll [] (pB b kd))[j]? = some (addAll [] (pB b kd))[j] := List.getElem?_eq_getElem (by omega)
                have aty := aL25.2 j y _ hy hpj
                have qm : (addAll [] (pB b kd))[j] ∈ post kd := by
                  rcases mem_addAll.mp (List.getElem_mem (show j < (addAll [] (pB b kd)).length by omega)) with h | h
                  · cases h
                  · exact pB_sub h
                have hdq := dpt_post _ (Nat.le_refl _) qm
                have exj : addAll A ((addAll [] (pB b kd)).take (j + 1)) = addT (addAll A ((addAll [] (pB b kd)).take j)) (addAll [] (pB b kd))[j] := by
                  rw [List.take_succ, hpj, addAll_app]
                  rfl
                have lA2 := addAll_len ((addAll [] (pB b kd)).take j) A
                rw [List.length_take] at lA2
                have lA3 := addAll_len (pB b kd) []
                rw [List.length_nil] at lA3
                rw [exj]
                generalize (addAll [] (pB b kd))[j] = q at aty hdq
                generalize addAll A ((addAll [] (pB b kd)).take j) = B at aF5 lA2
                have hfl := aF5.1
                refine ⟨_, rfl, _, rfl, not_in hF5 aF5 aty (by omega) (fun hin => ?_) (fun hout => ?_)⟩
                · refine ⟨_, rfl, iteF ⟨_, fv, rfl, s5, hL5, aL5, hL25, aL25, hF5, by rw [addT_in hin]; exact aF5⟩⟩
                · refine ⟨_, rfl, iteT ⟨_, rfl, .inl ⟨rfl, _, SqL.of hF5⟩, _, rfl, F, _, _, rfl, rfl, hF5, by rw [sizeLine_eq]; omega, ?_⟩⟩
                  have x6 : SameX F H5 (upd H5 F (.lst (fv ++ [y]))) := (SameX.refl H5).upd
                  have u6 : SameT H5 (upd H5 F (.lst (fv ++ [y]))) := SameX.tup x6 hF5
                  refine ⟨_, fv ++ [y], rfl, ((Same.x s5).upd).same hF, updK hL5 nLF, aL5.mono u6, updK hL25 nL2F, aL25.mono u6, upd_same, ?_⟩
                  rw [addT_new hout]
                  exact (aF5.mono u6).app (AtL.one ((aty.le (Nat.le_succ m)).mono u6))
              rintro σ H5 ⟨z2', fv5, rfl, s5, hL5, aL5, hL25, aL25, hF5, aF5⟩
              rw [u2l, List.take_of_length_le (Nat.le_refl _), addAll_idem] at aF5
              exact ⟨_, _, fv5, rfl, s5, hL5, aL5, hF5, aF5⟩
            rintro σ H3 ⟨z1, z2, fv, rfl, s3, hL3, aL3, hF3, aF3⟩
            rw [hul, List.take_of_length_le (Nat.le_refl _)] at aF3
            generalize addAll [] ((belowX b t).map (pB b)).flatten = A at aF3 k lA
            have hfl := aF3.1
            have at3 := hat.mono (Same.tup s3)
            refine ⟨_, rfl, _, rfl, not_in hF3 aF3 at3 hdp (fun hin => ?_) (fun hout => ?_)⟩
            · refine ⟨_, rfl, iteF ⟨_, rfl, k H3 F fv s3 hF hF3 (by rw [addT_in hin]; exact aF3)⟩⟩
            · refine ⟨_, rfl, iteT ⟨_, rfl, .inl ⟨rfl, _, SqL.of hF3⟩, _, rfl, F, _, _, rfl, rfl, hF3, by rw [sizeLine_eq]; omega, ?_⟩⟩
              have x6 : SameX F H3 (upd H3 F (.lst (fv ++ [.ref ax]))) := (SameX.refl H3).upd
              have u6 : SameT H3 (upd H3 F (.lst (fv ++ [.ref ax]))) := SameX.tup x6 hF3
              refine ⟨_, rfl, k _ F (fv ++ [.ref ax]) (((Same.x s3).upd).same hF) hF upd_same ?_⟩
              rw [addT_new hout]
              exact (aF3.mono u6).app (AtL.one (at3.mono u6))
end KK

set_option Elab.async false
set_option linter.all false
set_option maxRecDepth 100000
set_option maxHeartbeats 8000000
namespace KK
open PySem PySem.Spec L2 L3
/-- two lists of the same sentences -/
theorem eq_lst {K : PySem.W.Frag} {H : Hp} {L1 L2 : Addr} {us vs : List V} {ts : List Tr} {n m : Nat} {neg : Bool} {Q : VK} (h1 : H L1 = some (.lst us)) (a1 : AtL K n H us ts) (h2 : H L2 = some (.lst vs)) (a2 : AtL K m H vs ts) (hm : ∀ s ∈ ts, dpt s ≤ 189) (q : Q (.bl !neg) H) : rEqB K neg (.ref L1) (.ref L2) H Q := by
  have fn : ∀ s ∈ ts, Fine 189 (dTr s) := fun s hs => by
    obtain ⟨o1, o⟩ := tl_ok a2 s hs
    have f := OkN.fine o
    exact ⟨f.1, by have := f.2; have := hm s hs; omega⟩
  have F : Fine 190 (.list (ts.map dTr)) := fineL fn
  refine ⟨_, _, .lst (SqL.of h1) (dpAll_at a1.1 fun i u k e1 e2 => (a1.2 i u k e1 e2).dp), .lst (SqL.of h2) (dpAll_at a2.1 fun i u k e1 e2 => (a2.2 i u k e1 e2).dp), F.1, F.1, F.2, ?_⟩
  rw [eqv_self F]
  cases neg
  · exact q
  · exact q
def sp__law_right (K : PySem.W.Frag) (a : Adr) : Sp := fun vs H Q _ => ∃ v t m, vs = [v] ∧ m < 160 ∧ At K m H v t ∧ isC t = true ∧ psz t ≤ 2000000 ∧ dpt t ≤ 189 ∧ (addAll [] (post t)).length < 4000 ∧ ∀ H', Same H H' → Q (.bl true) H'
theorem ok__law_right {P : Program} {w : World} {K : PySem.W.Frag} {mg : Str → Option Value} {base : Heap} {a : Adr} (T : Txt K mg a) (hw : w.params = a.Pm) : FnOk P w K mg base CX0 163 a._law_right a._law_right_fd ["_law_core"] (sp__law_right K a) := by
  have G_parts_of := ok_parts_of (P := P) (w := w) (base := base) T hw
  have G_inner_parts := ok_inner_parts (P := P) (w := w) (base := base) T hw
  have G__law_gone_through := ok__law_gone_through (P := P) (w := w) (base := base) T hw 160
  refine T.f__law_right.ok sc__law_right (fun vs H Q E h => ?_) (fun cdv A outer s H vs Q E hr h => ?_)
  · obtain ⟨v, t, m, rfl, _⟩ := h
    rfl
  · obtain ⟨v, t, m, rfl, hm, hat, hc, hz, hd, hfew, k⟩ := h
    refine ⟨_, (@pss_cons _ _ _ _ _ (@ps_set _ _ (1) _ _ _ _ sc__law_right.nd
      rfl
      (by first | exact Or.inl rfl | exact Or.inr rfl)
      (pe_call G__law_gone_through (hr.mono (by decide)) rfl T.g__law_gone_through T.f__law_gone_through.kp T.n__law_gone_through .nil pass0 (@pa_cons _ _ _ _ _ (pv 0)
      (@pa_cons _ _ _ _ _ pe_bl
      pa_nil
      (by rfl))
      (by rfl)))
      (by rfl)
      (by first | exact .inl rfl | exact .inr rfl | assumption))
      (@pss_cons _ _ _ _ _ (@ps_set _ _ (2) _ _ _ _ sc__law_right.nd
      rfl
      (by first | exact Or.inl rfl | exact Or.inr rfl)
      (pe_call G__law_gone_through (hr.mono (by decide)) rfl T.g__law_gone_through T.f__law_gone_through.kp T.n__law_gone_through .nil pass0 (@pa_cons _ _ _ _ _ (pv 0)
      (@pa_cons _ _ _ _ _ pe_bl
      pa_nil
      (by rfl))
      (by rfl)))
      (by rfl)
      (by first | exact .inl rfl | exact .inr rfl | assumption))
      (@pss_cons _ _ _ _ _ (@ps_set _ _ (3) _ _ _ _ sc__law_right.nd
      rfl
      (by first | exact Or.inl rfl | exact Or.inr rfl)
      (pe_call G_parts_of (hr.mono (by decide)) rfl T.g_parts_of T.f_parts_of.kp T.n_parts_of .nil pass0 (@pa_cons _ _ _ _ _ (pv 0)
      pa_nil
      (by rfl)))
      (by rfl)
      (by first | exact .inl rfl | exact .inr rfl | assumption))
      (@pss_cons _ _ _ _ _ (@ps_set _ _ (4) _ _ _ _ sc__law_right.nd
      rfl
      (by first | exact Or.inl rfl | exact Or.inr rfl)
      (pe_call G_inner_parts (hr.mono (by decide)) rfl T.g_inner_parts T.f_inner_parts.kp T.n_inner_parts .nil pass0 (@pa_cons _ _ _ _ _ (pv 0)
      pa_nil
      (by rfl)))
      (by rfl)
      (by first | exact .inl rfl | exact .inr rfl | assumption))
      (@pss_cons _ _ _ _ _ (@ps_if _ _ _ _ _ _ _ _ (PW.pt (pw_or (@pt_not _ _ _ _ (pt_val (pe_callB (call_isiK (K := K) rfl "list") rfl T.b_isinstance PyProof.Rows.Boot.«isinstance» (@pa_cons _ _ _ _ _ (pv 3)
      (@pa_cons _ _ _ _ _ (pe_bltn (v := .ty "list") rfl T.b_list PyProof.Rows.Boot.«list» rfl)
      pa_nil
      (by rfl))
      (by rfl))))) (pw_or (@pt_cmpR _ _ _ _ _ _ _ _ (op_neB (K := K) rfl (Room.units2 hr))
      (pv 3)
      (pv 1)
      (nomark _)) (pw_or (@pt_not _ _ _ _ (pt_val (pe_callB (call_isiK (K := K) rfl "list") rfl T.b_isinstance PyProof.Rows.Boot.«isinstance» (@pa_cons _ _ _ _ _ (pv 4)
      (@pa_cons _ _ _ _ _ (pe_bltn (v := .ty "list") rfl T.b_list PyProof.Rows.Boot.«list» rfl)
      pa_nil
      (by rfl))
      (by rfl))))) (pw_or1 (@pt_cmpR _ _ _ _ _ _ _ _ (op_neB (K := K) rfl (Room.units2 hr))
      (pv 4)
      (pv 2)
      (nomark _)))))))
      (@pss_one _ _ _ (@ps_ret _ _ _ _ pe_bl))
      pss_nil)
      (@pss_cons _ _ _ _ _ (@ps_expr _ _ _ _ (pe_bm0 PySem.F.plainAttrs_list PySem.F.slot_list_clear PySem.F.type_list_clear mt_clear (pv 3))
      (by rfl))
      (@pss_cons _ _ _ _ _ (@ps_expr _ _ _ _ (pe_bm PySem.F.plainAttrs_list PySem.F.slot_list_append PySem.F.type_list_append mt_append (pv 4) (@pa_cons _ _ _ _ _ (@pe_tup _ _ _ _ _ (@pa_cons _ _ _ _ _ pe_str
      pa_nil
      (by rfl)))
      pa_nil
      (by rfl)))
      (by rfl))
      (@pss_one _ _ _ (@ps_ret _ _ _ _ (pe_and (@pe_cmpR _ _ _ _ _ _ _ _ (op_eqB (K := K) rfl (Room.units2 hr))
      (pe_call G_parts_of (hr.mono (by decide)) rfl T.g_parts_of T.f_parts_of.kp T.n_parts_of .nil pass0 (@pa_cons _ _ _ _ _ (pv 0)
      pa_nil
      (by rfl)))
      (pv 1)
      (nomark _)) (pe_one (@pe_cmpR _ _ _ _ _ _ _ _ (op_eqB (K := K) rfl (Room.units2 hr))
      (pe_call G_inner_parts (hr.mono (by decide)) rfl T.g_inner_parts T.f_inner_parts.kp T.n_inner_parts .nil pass0 (@pa_cons _ _ _ _ _ (pv 0)
      pa_nil
      (by rfl)))
      (pv 2)
      (nomark _))))))))))))), ?_⟩
    have hdt : ∀ s ∈ addAll [] (post t), dpt s ≤ 189 := fun s hs => by
      rcases mem_addAll.mp hs with h | h
      · cases h
      · have := dpt_post _ (Nat.le_refl _) h; omega
    have hdb : ∀ s ∈ addAll [] (postB t), dpt s ≤ 189 := fun s hs => by
      rcases mem_addAll.mp hs with h | h
      · cases h
      · have := dpt_post _ (Nat.le_refl _) (postB_sub _ (Nat.le_refl _) h); omega
    refine ⟨_, rfl, v, true, t, m, rfl, hm, hat, hc, hz, by omega, fun H1 D1 ds1 s1 D10 hD1 aD1 => ?_⟩
    refine ⟨_, rfl, v, false, t, m, rfl, hm, hat.mono (Same.tup s1), hc, hz, by omega, fun H2 D2 ds2 s2 D20 hD2 aD2 => ?_⟩
    have aD1' : AtL K m H1 ds1 (addAll [] (post t)) := aD1
    have aD2' : AtL K m H2 ds2 (addAll [] (postB t)) := aD2
    have s02 := s1.trans s2
    refine ⟨_, rfl, v, t, m, rfl, hat.mono (Same.tup s02), hc, hz, hfew, fun H3 L us q s3 L0 hL aL => ?_⟩
    have s03 := s02.trans s3
    refine ⟨_, rfl, v, t, m, rfl, hat.mono (Same.tup s03), hc, hz, hfew, fun H4 M ms r s4 M0 hM aM => ?_⟩
    have s04 := s03.trans s4
    have hL4 := s4 _ _ hL
    have hD14 := (s2.trans (s3.trans s4)) _ _ hD1
    have hD24 := (s3.trans s4) _ _ hD2
    have aL4 := aL.mono (Same.tup s4)
    have aD14 := aD1'.mono (Same.tup (s2.trans (s3.trans s4)))
    have aD24 := aD2'.mono (Same.tup (s3.trans s4))
    have tyL : isTy H4 "list" (.ref L) = true := by simp only [isTy, hL4]; rfl
    have tyM : isTy H4 "list" (.ref M) = true := by simp only [isTy, hM]; rfl
    obtain ⟨ty1, q1, q2⟩ := isi_f K (T := "list") (by simp) (.lst hL4 : Kd H4 (.ref L)) tyL
    obtain ⟨ty2, q3, q4⟩ := isi_f K (T := "list") (by simp) (.lst hM : Kd H4 (.ref M)) tyM
    refine ⟨_, rfl, _, ty1, _, rfl, q1, q2, _, rfl, iteF ⟨_, rfl, _, rfl, eq_lst hL4 aL4 hD14 aD14 hdt ⟨_, rfl, iteF ?_⟩⟩⟩
    refine ⟨_, rfl, _, ty2, _, rfl, q3, q4, _, rfl, iteF ⟨_, rfl, _, rfl, eq_lst hM aM hD24 aD24 hdb ⟨_, rfl, iteF ?_⟩⟩⟩
    -- clear, append
    have n1 : D1 ≠ L := fun e => by rw [e] at hD1; rw [s2 _ _ hD1] at L0; cases L0
    have n2 : D2 ≠ L := fun e => by rw [e] at hD2; rw [hD2] at L0; cases L0
    have n3 : D1 ≠ M := fun e => by rw [e] at hD1; rw [s3 _ _ (s2 _ _ hD1)] at M0; cases M0
    have n4 : D2 ≠ M := fun e => by rw [e] at hD2; rw [s3 _ _ hD2] at M0; cases M0
    have n5 : M ≠ L := fun e => by rw [← e] at hL; rw [hL] at M0; cases M0
    refine ⟨_, rfl, .inl ⟨rfl, _, SqL.of hL4⟩, L, _, rfl, rfl, hL4, ?_⟩
    have x5 : SameX L H4 (upd H4 L (.lst [])) := (SameX.refl H4).upd
    have u5 : SameT H4 (upd H4 L (.lst [])) := SameX.tup x5 hL4
    have hM5 : (upd H4 L (.lst [])) M = some (.lst ms) := updK hM n5
    have hD15 : (upd H4 L (.lst [])) D1 = some (.lst ds1) := updK hD14 n1
    have hD25 : (upd H4 L (.lst [])) D2 = some (.lst ds2) := updK hD24 n2
    have s05 : Same H (upd H4 L (.lst [])) := ((Same.x s04).upd).same (s02.free L0)
    generalize upd H4 L (.lst []) = H5 at x5 u5 hM5 hD15 hD25 s05 ⊢
    refine ⟨_, rfl, .inl ⟨rfl, _, SqL.of hM5⟩, by rw [sizeLine_eq]; simp, fun y hy => ?_⟩
    have s6 := same_upd (o := .tup [.str "yes"]) hy
    generalize upd H5 y (.tup [.str "yes"]) = H6 at s6 ⊢
    have hM6 := s6 _ _ hM5
    have ml := aM.1
    have mfew := Nat.lt_of_le_of_lt (partsB_few t) hfew
    refine ⟨M, _, _, rfl, rfl, hM6, by rw [sizeLine_eq]; omega, ?_⟩
    have x7 : SameX M H6 (upd H6 M (.lst (ms ++ [.ref y]))) := (SameX.refl H6).upd
    have u7 : SameT H6 (upd H6 M (.lst (ms ++ [.ref y]))) := SameX.tup x7 hM6
    have hD17 : (upd H6 M (.lst (ms ++ [.ref y]))) D1 = some (.lst ds1) := updK (s6 _ _ hD15) n3
    have hD27 : (upd H6 M (.lst (ms ++ [.ref y]))) D2 = some (.lst ds2) := updK (s6 _ _ hD25) n4
    have s07 : Same H (upd H6 M (.lst (ms ++ [.ref y]))) := ((Same.x (s05.trans s6)).upd).same (s03.free M0)
    generalize upd H6 M (.lst (ms ++ [.ref y])) = H7 at x7 u7 hD17 hD27 s07 ⊢
    have u47 : SameT H4 H7 := u5.trans ((Same.tup s6).trans u7)
    refine ⟨_, rfl, v, t, m, rfl, hat.mono (Same.tup s07), hc, hz, hfew, fun H8 L8 us8 m8 s8 _ hL8 aL8 => ⟨_, rfl, eq_lst hL8 aL8 (s8 _ _ hD17) (aD14.mono (u47.trans (Same.tup s8))) hdt ⟨_, rfl, iteT ?_⟩⟩⟩
    refine ⟨_, rfl, v, t, m, rfl, hat.mono (Same.tup (s07.trans s8)), hc, hz, hfew, fun H9 L9 us9 m9 s9 _ hL9 aL9 => ⟨_, rfl, eq_lst hL9 aL9 ((s8.trans s9) _ _ hD27) (aD24.mono (u47.trans (Same.tup (s8.trans s9)))) hdb ?_⟩⟩
    exact k H9 (s07.trans (s8.trans s9))
end KK

set_option Elab.async false
set_option linter.all false
set_option maxRecDepth 100000
set_option maxHeartbeats 8000000
namespace KK
open PySem PySem.Spec L2 L3
theorem sum_cast : ∀ ks : List Tr, (ks.map fun k => ((psz k : Nat) : Int)).sum = (((ks.map psz).sum : Nat) : Int)
  | [] => rfl
  | k :: r => by rw [List.map_cons, List.sum_cons, sum_cast r, List.map_cons, List.sum_cons]; omega
def sp__law_sized (K : PySem.W.Frag) (a : Adr) : Sp := fun vs H Q _ => ∃ v t m, vs = [v] ∧ At K m H v t ∧ isC t = true ∧ psz t ≤ 2000000 ∧ ∀ H', Same H H' → Q (.bl true) H'
theorem ok__law_sized {P : Program} {w : World} {K : PySem.W.Frag} {mg : Str → Option Value} {base : Heap} {a : Adr} (T : Txt K mg a) (hw : w.params = a.Pm) : FnOk P w K mg base CX0 5 a._law_sized a._law_sized_fd ["_law_core"] (sp__law_sized K a) := by
  have G_size_of := ok_size_of (P := P) (w := w) (base := base) T hw
  have G__law_inner := ok__law_inner (P := P) (w := w) (base := base) T hw
  refine T.f__law_sized.ok sc__law_sized (fun vs H Q E h => ?_) (fun cdv A outer s H vs Q E hr h => ?_)
  · obtain ⟨v, t, m, rfl, _⟩ := h
    rfl
  · obtain ⟨v, t, m, rfl, hat, hc, hz, k⟩ := h
    refine ⟨_, (@pss_cons _ _ _ _ _ (@ps_set _ _ (1) _ _ _ _ sc__law_sized.nd
      rfl
      (by first | exact Or.inl rfl | exact Or.inr rfl)
      (pe_call G_size_of (hr.mono (by decide)) rfl T.g_size_of T.f_size_of.kp T.n_size_of .nil pass0 (@pa_cons _ _ _ _ _ (pv 0)
      pa_nil
      (by rfl)))
      (by rfl)
      (by first | exact .inl rfl | exact .inr rfl | assumption))
      (@pss_cons _ _ _ _ _ (@ps_if _ _ _ _ _ _ _ _ (PW.pt (pw_or (@pt_not _ _ _ _ (pt_val (pe_callB (call_isiK (K := K) rfl "int") rfl T.b_isinstance PyProof.Rows.Boot.«isinstance» (@pa_cons _ _ _ _ _ (pv 1)
      (@pa_cons _ _ _ _ _ (pe_bltn (v := .ty "int") rfl T.b_int PyProof.Rows.Boot.«int» rfl)
      pa_nil
      (by rfl))
      (by rfl))))) (pw_or1 (pt_val (pe_callB (call_isiK (K := K) rfl "bool") rfl T.b_isinstance PyProof.Rows.Boot.«isinstance» (@pa_cons _ _ _ _ _ (pv 1)
      (@pa_cons _ _ _ _ _ (pe_bltn (v := .ty "bool") rfl T.b_bool PyProof.Rows.Boot.«bool» rfl)
      pa_nil
      (by rfl))
      (by rfl)))))))
      (@pss_one _ _ _ (@ps_ret _ _ _ _ pe_bl))
      pss_nil)
      (@pss_one _ _ _ (@ps_ret _ _ _ _ (@pe_cmpR _ _ _ _ _ _ _ _ op_eq
      (pv 1)
      (@pe_op _ _ _ _ _ _ _ _ op_add
      pe_int
      (pe_callB (call_sumI (K := K) rfl rfl) rfl T.b_sum PyProof.Rows.Boot.«sum» (@pa_cons _ _ _ _ _ (pe_comp (Nc := ["_law_one"]) (ix := [none]) (CompOk.of (by decide +kernel : compChk (defScope s__law_sized) ["_law_core", "_law_size"] ["_law_one"] [none] _ = true)) rfl (pi_listK (K := K) rfl (pe_call G__law_inner (hr.mono (by decide)) rfl T.g__law_inner T.f__law_inner.kp T.n__law_inner .nil pass0 (@pa_cons _ _ _ _ _ (pv 0)
      pa_nil
      (by rfl)))) (fun _ _ _ _ _ => (pg_name (i := 0) (show List.Nodup (["_law_one"] : List Str) by decide +kernel) rfl (by first | exact Or.inl rfl | exact Or.inr rfl))) (fun _ _ _ _ _ => pts_nil) (fun _ _ _ _ _ => (pe_call G_size_of (hr.mono (by decide)) rfl T.g_size_of T.f_size_of.kp T.n_size_of .nil pass0 (@pa_cons _ _ _ _ _ (pv 0)
      pa_nil
      (by rfl)))))
      pa_nil
      (by rfl))))
      (nomark _)))))), ?_⟩
    cases m with
    | zero => exact hat.elim
    | succ m =>
      refine ⟨_, rfl, v, t, m + 1, rfl, hat, hz, fun H1 s1 => ?_⟩
      obtain ⟨ty1, q1, q2⟩ := isi_f K (T := "int") (by simp) (.int ((psz t : Nat) : Int) : Kd H1 (.int ((psz t : Nat) : Int))) (b := true) rfl
      obtain ⟨ty2, q3, q4⟩ := isi_f K (T := "bool") (by simp) (.int ((psz t : Nat) : Int) : Kd H1 (.int ((psz t : Nat) : Int))) (b := false) rfl
      refine ⟨_, rfl, _, ty1, _, rfl, q1, q2, _, rfl, iteF ⟨_, rfl, _, ty2, _, rfl, q3, q4, _, rfl, iteF ?_⟩⟩
      refine ⟨_, rfl, _, rfl, v, t, m, rfl, hat.mono (Same.tup s1), hc, fun H2 L us s2 L0 hL aL => ⟨L, rfl, ⟨_, SqL.of hL⟩, fun Dc hDc => ?_⟩⟩
      have ul := aL.1
      have h8 := lb8 (tat_ok hat)
      refine comp_map (K := K) hDc (SqL.of hL) (by rw [sizeLine_eq]; omega) (fun j u G => ∀ s, t.ks[j]? = some s → u = .int ((psz s : Nat) : Int)) (fun _ _ _ _ _ q => q) ?_ ?_
      · intro j y H4 N hy s4 hN
        have hj : j < t.ks.length := by rw [← ul]; exact (List.getElem?_eq_some_iff.mp hy).1
        have hk : t.ks[j]? = some t.ks[j] := List.getElem?_eq_getElem hj
        have aty := (aL.2 j y _ hy hk).mono (Same.tup s4)
        have hzk := psz_kid (List.getElem_mem hj)
        exact ⟨_, rfl, y, _, m, rfl, aty, by omega, fun H5 s5 => hN _ _ s5 fun s hs => by rw [hk] at hs; cases hs; rfl⟩
      intro H4 ys hys s4 yl r4
      have ey : ys = (t.ks.map fun k => ((psz k : Nat) : Int)).map V.int := by
        rw [List.map_map]
        refine list_of_pts (f := fun k => V.int ((psz k : Nat) : Int)) (by rw [yl, ul]) fun i v hv x hx => r4 i v hv x hx
      rw [ey] at hys
      refine ⟨Dc, _, rfl, SqL.of hys, _, _, rfl, rfl, rfl, ?_⟩
      rw [sum_cast]
      refine qD ?_ (k H4 (s1.trans (s2.trans s4)))
      congr 1
      rw [psz_eq t]
      omega
end KK

set_option Elab.async false
set_option linter.all false
set_option maxRecDepth 100000
set_option maxHeartbeats 8000000
namespace KK
open PySem PySem.Spec L2 L3
theorem c_op1 {w : Str} {k : Tr} (hw : w ∈ W6) (h : isC k = true) : isC (.node (.op w) [k]) = true := by
  rw [isC_node]; simp [isCF, h, hw]
theorem c_and {k r : Tr} (h : isC k = true) (g : isC r = true) : isC (.node (.many "and") [k, r]) = true := by
  rw [isC_node]; simp [isCF, h, g]
theorem z_1 (c : Lb) (k : Tr) : psz (.node c [k]) = psz k + 1 := by rw [psz_node]; simp
theorem z_2 (c : Lb) (k r : Tr) : psz (.node c [k, r]) = psz k + psz r + 1 := by rw [psz_node]; simp
theorem Bz_le {m : Nat} (h : m ≤ 5) : Bz m ≤ 724726 := by
  rcases (show m = 0 ∨ m = 1 ∨ m = 2 ∨ m = 3 ∨ m = 4 ∨ m = 5 by omega) with rfl | rfl | rfl | rfl | rfl | rfl <;> decide
theorem nm14_ok : ∀ x ∈ (["a", "b", "ab"] : List Str), isNameS x = true := by decide +kernel
theorem hgt_post : ∀ (n : Nat) {t x : Tr}, psz t ≤ n → x ∈ post t → hgt x ≤ hgt t
  | 0, t, x, h, _ => by have := psz_pos t; omega
  | n + 1, t, x, h, hx => by
    rw [post_eq, List.mem_append, mem_postL2] at hx
    rcases hx with ⟨k, hk, hx⟩ | hx
    · have h1 := hgt_post n (by have := psz_kid hk; omega) hx
      have h2 := hgt_kid hk
      omega
    · rw [List.mem_singleton.mp hx]; exact Nat.le_refl _
theorem psz_post : ∀ (n : Nat) {t x : Tr}, psz t ≤ n → x ∈ post t → psz x ≤ psz t
  | 0, t, x, h, _ => by have := psz_pos t; omega
  | n + 1, t, x, h, hx => by
    rw [post_eq, List.mem_append, mem_postL2] at hx
    rcases hx with ⟨k, hk, hx⟩ | hx
    · have h0 := psz_kid hk
      have h1 := psz_post n (by omega) hx
      omega
    · rw [List.mem_singleton.mp hx]; exact Nat.le_refl _
theorem few_node {c : Lb} {ks : List Tr} {t : Tr} (h : ∀ k ∈ ks, k = t) : (addAll [] (post (.node c ks))).length ≤ (addAll [] (post t)).length + 1 := by
  have := nodup_len (l₂ := .node c ks :: addAll [] (post t)) (nodup_addAll (L := post (.node c ks)) (A := []) (by simp)) fun x hx => by
    rcases mem_addAll.mp hx with hx | hx
    · cases hx
    · rw [post_eq, List.mem_append, mem_postL2] at hx
      rcases hx with ⟨k, hk, hx⟩ | hx
      · have e : k = t := h k hk
        rw [e] at hx
        exact List.mem_cons_of_mem _ (mem_addAll.mpr (.inr hx))
      · rw [List.mem_singleton.mp hx]; simp
  rw [List.length_cons] at this
  omega
def sp_law (K : PySem.W.Frag) (a : Adr) : Sp := fun vs H Q _ => ∃ (p : Addr) (ns : List Int), vs = [.ref p] ∧ SqL K H p (ns.map V.int) ∧ ns.length ≤ 63 ∧ ∀ H', Q (.bl true) H'
theorem ok_law {P : Program} {w : World} {K : PySem.W.Frag} {mg : Str → Option Value} {base : Heap} {a : Adr} (T : Txt K mg a) (hw : w.params = a.Pm) : FnOk P w K mg base CX0 164 a.law a.law_fd ["_law_script"] (sp_law K a) := by
  have G_core_of := ok_core_of (P := P) (w := w) (base := base) T hw
  have G_parts_of := ok_parts_of (P := P) (w := w) (base := base) T hw
  have G_size_of := ok_size_of (P := P) (w := w) (base := base) T hw
  have G__law_cell_at := ok__law_cell_at (P := P) (w := w) (base := base) T hw
  have G__law_stream := ok__law_stream (P := P) (w := w) (base := base) T hw
  have G__law_draw := ok__law_draw (P := P) (w := w) (base := base) T hw
  have G__law_sentence := ok__law_sentence (P := P) (w := w) (base := base) T hw 8
  have G__law_right := ok__law_right (P := P) (w := w) (base := base) T hw
  have G__law_sized := ok__law_sized (P := P) (w := w) (base := base) T hw
  refine T.f_law.ok sc_law (fun vs H Q E h => ?_) (fun cdv A outer s H vs Q E hr h => ?_)
  · obtain ⟨p, ns, rfl, _⟩ := h
    rfl
  · obtain ⟨p, ns, rfl, hq, hz, k⟩ := h
    refine ⟨_, (@pss_cons _ _ _ _ _ (@ps_set _ _ (1) _ _ _ _ sc_law.nd
      rfl
      (by first | exact Or.inl rfl | exact Or.inr rfl)
      (pe_call G__law_stream (hr.mono (by decide)) rfl T.g__law_stream T.f__law_stream.kp T.n__law_stream .nil pass0 (@pa_cons _ _ _ _ _ (pe_call G__law_cell_at (hr.mono (by decide)) rfl T.g__law_cell_at T.f__law_cell_at.kp T.n__law_cell_at .nil pass0 (@pa_cons _ _ _ _ _ (pv 0)
      (@pa_cons _ _ _ _ _ pe_int
      pa_nil
      (by rfl))
      (by rfl)))
      (@pa_cons _ _ _ _ _ pe_int
      pa_nil
      (by rfl))
      (by rfl)))
      (by rfl)
      (by first | exact .inl rfl | exact .inr rfl | assumption))
      (@pss_cons _ _ _ _ _ (@ps_set _ _ (2) _ _ _ _ sc_law.nd
      rfl
      (by first | exact Or.inl rfl | exact Or.inr rfl)
      (pe_call G_core_of (hr.mono (by decide)) rfl T.g_core_of T.f_core_of.kp T.n_core_of .nil pass0 (@pa_cons _ _ _ _ _ (pe_call G__law_sentence (hr.mono (by decide)) rfl T.g__law_sentence T.f__law_sentence.kp T.n__law_sentence .nil pass0 (@pa_c _ _ _ _ _ (pv 1)
      (@pa_c _ _ _ _ _ (@pe_op _ _ _ _ _ _ _ _ op_mod
      (pe_call G__law_draw (hr.mono (by decide)) rfl T.g__law_draw T.f__law_draw.kp T.n__law_draw .nil pass0 (@pa_cons _ _ _ _ _ (pv 1)
      pa_nil
      (by rfl)))
      pe_int)
      (@pa_c _ _ _ _ _ (@pe_lst _ _ _ _ (@pa_c _ _ _ _ _ pe_str
      (@pa_c _ _ _ _ _ pe_str
      (@pa_c _ _ _ _ _ pe_str
      pa_nil
      (by rfl))
      (by rfl))
      (by rfl)))
      pa_nil
      (by rfl))
      (by rfl))
      (by rfl)))
      pa_nil
      (by rfl)))
      (by rfl)
      (by first | exact .inl rfl | exact .inr rfl | assumption))
      (@pss_cons _ _ _ _ _ (@ps_set _ _ (3) _ _ _ _ sc_law.nd
      rfl
      (by first | exact Or.inl rfl | exact Or.inr rfl)
      (pe_call G_parts_of (hr.mono (by decide)) rfl T.g_parts_of T.f_parts_of.kp T.n_parts_of .nil pass0 (@pa_cons _ _ _ _ _ (pv 2)
      pa_nil
      (by rfl)))
      (by rfl)
      (by first | exact .inl rfl | exact .inr rfl | assumption))
      (@pss_cons _ _ _ _ _ (ps_for PassesOwn.never rfl (pi_listK (K := K) rfl (@pe_op _ _ _ _ _ _ _ _ op_cat
      (pe_step (K := K) rfl (pv 3) (po_some (@pe_op _ _ _ _ _ _ _ _ op_add
      pe_int
      (@pe_op _ _ _ _ _ _ _ _ op_fdiv
      (pe_callB (call_lenK (K := K) rfl) rfl T.b_len PyProof.Rows.Boot.«len» (@pa_cons _ _ _ _ _ (pv 3)
      pa_nil
      (by rfl)))
      pe_int))))
      (@pe_lst _ _ _ _ (@pa_cons _ _ _ _ _ (pv 2)
      pa_nil
      (by rfl))))) (pg_name (i := 4) sc_law.nd rfl (by first | exact Or.inl rfl | exact Or.inr rfl)) (@pss_one _ _ _ (@ps_if _ _ _ _ _ _ _ _ (PW.pt (pw_or (@pt_not _ _ _ _ (pt_val (pe_call G__law_right (hr.mono (by decide)) rfl T.g__law_right T.f__law_right.kp T.n__law_right .nil pass0 (@pa_cons _ _ _ _ _ (pv 4)
      pa_nil
      (by rfl))))) (pw_or1 (@pt_not _ _ _ _ (pt_val (pe_call G__law_sized (hr.mono (by decide)) rfl T.g__law_sized T.f__law_sized.kp T.n__law_sized .nil pass0 (@pa_cons _ _ _ _ _ (pv 4)
      pa_nil
      (by rfl))))))))
      (@pss_one _ _ _ (@ps_ret _ _ _ _ pe_bl))
      pss_nil)))
      (@pss_cons _ _ _ _ _ (@ps_set _ _ (5) _ _ _ _ sc_law.nd
      rfl
      (by first | exact Or.inl rfl | exact Or.inr rfl)
      (@pe_tup _ _ _ _ _ (@pa_cons _ _ _ _ _ pe_str
      (@pa_cons _ _ _ _ _ (@pe_tup _ _ _ _ _ (@pa_cons _ _ _ _ _ (pv 2)
      (@pa_cons _ _ _ _ _ (pv 2)
      pa_nil
      (by rfl))
      (by rfl)))
      pa_nil
      (by rfl))
      (by rfl)))
      (by rfl)
      (by first | exact .inl rfl | exact .inr rfl | assumption))
      (@pss_cons _ _ _ _ _ (@ps_if _ _ _ _ _ _ _ _ (PW.pt (pw_and (@pt_cmpR _ _ _ _ _ _ _ _ op_lt
      (@pe_op _ _ _ _ _ _ _ _ op_mul
      pe_int
      (pe_call G_size_of (hr.mono (by decide)) rfl T.g_size_of T.f_size_of.kp T.n_size_of .nil pass0 (@pa_cons _ _ _ _ _ (pv 2)
      pa_nil
      (by rfl))))
      pe_int
      (nomark _)) (pw_and1 (PW.pt (pw_or (@pt_not _ _ _ _ (pt_val (pe_call G__law_right (hr.mono (by decide)) rfl T.g__law_right T.f__law_right.kp T.n__law_right .nil pass0 (@pa_cons _ _ _ _ _ (pv 5)
      pa_nil
      (by rfl))))) (pw_or1 (@pt_cmpR _ _ _ _ _ _ _ _ op_ne
      (pe_call G_size_of (hr.mono (by decide)) rfl T.g_size_of T.f_size_of.kp T.n_size_of .nil pass0 (@pa_cons _ _ _ _ _ (pv 5)
      pa_nil
      (by rfl)))
      (@pe_op _ _ _ _ _ _ _ _ op_add
      pe_int
      (@pe_op _ _ _ _ _ _ _ _ op_mul
      pe_int
      (pe_call G_size_of (hr.mono (by decide)) rfl T.g_size_of T.f_size_of.kp T.n_size_of .nil pass0 (@pa_cons _ _ _ _ _ (pv 2)
      pa_nil
      (by rfl)))))
      (nomark _))))))))
      (@pss_one _ _ _ (@ps_ret _ _ _ _ pe_bl))
      pss_nil)
      (@pss_one _ _ _ (@ps_ret _ _ _ _ (pe_and (pe_call G__law_right (hr.mono (by decide)) rfl T.g__law_right T.f__law_right.kp T.n__law_right .nil pass0 (@pa_cons _ _ _ _ _ (@pe_tup _ _ _ _ _ (@pa_cons _ _ _ _ _ pe_str
      (@pa_cons _ _ _ _ _ (@pe_tup _ _ _ _ _ (@pa_cons _ _ _ _ _ pe_str
      (@pa_cons _ _ _ _ _ (pv 2)
      pa_nil
      (by rfl))
      (by rfl)))
      pa_nil
      (by rfl))
      (by rfl)))
      pa_nil
      (by rfl))) (pe_one (@pe_cmpR _ _ _ _ _ _ _ _ op_eq
      (pe_call G_size_of (hr.mono (by decide)) rfl T.g_size_of T.f_size_of.kp T.n_size_of .nil pass0 (@pa_cons _ _ _ _ _ (@pe_tup _ _ _ _ _ (@pa_cons _ _ _ _ _ pe_str
      pa_nil
      (by rfl)))
      pa_nil
      (by rfl)))
      pe_int
      (nomark _)))))))))))), ?_⟩
    refine ⟨_, rfl, p, ns, 0, rfl, hq, fun n0 => ⟨n0, 60, rfl, by decide, fun H1 y ns1 s1 y0 h1 yl => ?_⟩⟩
    refine ⟨_, rfl, _, rfl, y, ns1, rfl, h1, fun H2 d ns2 x2 h2 dr => ⟨_, _, rfl, rfl, by simp, by rw [sizeLine_eq]; simp, fun L hL => ?_⟩⟩
    have s3 := same_upd (o := .lst [.str "a", .str "b", .str "ab"]) hL
    have e3 : (upd H2 L (.lst [.str "a", .str "b", .str "ab"])) L = some (.lst [.str "a", .str "b", .str "ab"]) := upd_same
    have nL : L ≠ y := fun e => by rw [e, h2] at hL; cases hL
    generalize upd H2 L (.lst [.str "a", .str "b", .str "ab"]) = H3 at s3 e3 ⊢
    have w0 := Int.emod_nonneg d (show (5 : Int) ≠ 0 by decide)
    have w1 := Int.emod_lt_of_pos d (show (0 : Int) < 5 by decide)
    have l2 : ns2.length ≤ 60 := by rcases dr with ⟨a, _, b⟩ | h; rw [b]; simp; omega
    refine ⟨y, ns2, d % 5, L, ["a", "b", "ab"], rfl, by omega, s3 _ _ h2, e3, nL, by simp, nm14_ok, fun H4 v t ns4 x4 h4 at4 wt4 sz4 => ?_⟩
    have at5 : At K 5 H4 v t := at4.le (by omega)
    have sz5 : (post t).length ≤ 3125 := Nat.le_trans sz4 (Nat.le_trans (Nat.pow_le_pow_right (by decide) (show (d % 5).toNat + 1 ≤ 5 by omega)) (by decide))
    have wt5 : wgt t ≤ 2401 := by omega
    clear at4 sz4 wt4 x4 e3 s3 hL nL h2 x2 dr h1 w0 w1 h4 y0
    obtain ⟨c1, c2, c3, c4, c5⟩ := core_all _ _ at5.ok
    have c3' : psz (coreT t) ≤ 724726 := Nat.le_trans c3 (Bz_le (Nat.le_refl 5))
    have cf : (addAll [] (post (coreT t))).length ≤ 2402 := by have := parts_few at5.ok; omega
    refine ⟨v, t, 5, rfl, at5, by omega, fun H5 cv s5 atc => ?_⟩
    generalize coreT t = ct at c1 c2 c3 c3' c4 c5 cf atc
    have atc' : At K 140 H5 cv ct := atc.le (by decide)
    refine ⟨_, rfl, cv, ct, 140, rfl, atc', c4, by omega, by omega, fun H6 P us q s6 P0 hP aP => ?_⟩
    have at6 := atc'.mono (Same.tup s6)
    have ul := aP.1
    refine ⟨_, rfl, _, rfl, .inl ⟨P, us, rfl, .inl (SqL.of hP), _, _, rfl, rfl, ⟨by decide, by decide⟩, _, _, rfl, rfl, _, rfl, P, us, _, rfl, rfl, ?_, SqL.of hP, fun S ys hS yll ym => ?_⟩⟩
    · have := Int.ediv_nonneg (show (0 : Int) ≤ ((us.length : Nat) : Int) by omega) (show (0 : Int) ≤ 12 by decide)
      omega
    have s7 := same_upd (o := .lst ys) hS
    have e7 : (upd H6 S (.lst ys)) S = some (.lst ys) := upd_same
    generalize upd H6 S (.lst ys) = H7 at s7 e7 ⊢
    refine ⟨_, rfl, by rw [sizeLine_eq]; simp, fun O hO => ?_⟩
    have s8 := same_upd (o := .lst [cv]) hO
    have e8 : (upd H7 O (.lst [cv])) O = some (.lst [cv]) := upd_same
    generalize upd H7 O (.lst [cv]) = H8 at s8 e8 ⊢
    refine ⟨S, O, _, _, rfl, rfl, s8 _ _ e7, e8, by rw [sizeLine_eq]; simp; omega, fun W hW => ?_⟩
    have s9 := same_upd (o := .lst (ys ++ [cv])) hW
    have e9 : (upd H8 W (.lst (ys ++ [cv]))) W = some (.lst (ys ++ [cv])) := upd_same
    generalize upd H8 W (.lst (ys ++ [cv])) = H9 at s9 e9 ⊢
    have s69 := s7.trans (s8.trans s9)
    have at9 := at6.mono (Same.tup s69)
    have els : ∀ x ∈ ys ++ [cv], ∃ s, At K 140 H9 x s ∧ s ∈ post ct := fun x hx => by
      rcases List.mem_append.mp hx with hx | hx
      · obtain ⟨i, hi, e⟩ := List.getElem_of_mem (ym x hx)
        have hp2 : i < (addAll [] (post ct)).length := by omega
        have a1 := aP.2 i x (addAll [] (post ct))[i] (by rw [← e]; exact List.getElem?_eq_getElem hi) (List.getElem?_eq_getElem hp2)
        have hm : (addAll [] (post ct))[i] ∈ post ct := by
          rcases mem_addAll.mp (List.getElem_mem hp2) with h | h
          · cases h
          · exact h
        have hh := hgt_post _ (Nat.le_refl _) hm
        exact ⟨_, (a1.mono (Same.tup s69)).fit (by omega), hm⟩
      · rw [List.mem_singleton.mp hx]; exact ⟨ct, at9, post_mem ct⟩
    refine ⟨W, rfl, ⟨_, SqL.of e9⟩, ?_⟩
    refine for_list (K := K) (xs := ys ++ [cv]) (fun i σ H' => ∃ (z4 : Option V), σ = [some (.ref p), some (.ref y), some cv, some (.ref P), z4, none] ∧ Same H9 H') ?_ ?_ ?_ ?_
    · exact ⟨_, rfl, .refl _⟩
    · rintro i σ H' hi ⟨z4, rfl, s'⟩
      exact SqL.of (s' _ _ e9)
    · rintro i x σ HA hx ⟨z4, rfl, sA⟩
      obtain ⟨s, ats, hs⟩ := els x (List.mem_of_getElem? hx)
      have atA := ats.mono (Same.tup sA)
      have ics := isC_post _ (Nat.le_refl _) c4 hs
      have szs := psz_post _ (Nat.le_refl _) hs
      have dps := dpt_post _ (Nat.le_refl _) hs
      have fws := parts_sub hs
      refine ⟨_, rfl, x, s, 140, rfl, by decide, atA, ics, by omega, by omega, by omega, fun HB sB => ⟨_, rfl, iteF ⟨_, rfl, x, s, 140, rfl, atA.mono (Same.tup sB), ics, by omega, fun HC sC => ⟨_, rfl, iteF ?_⟩⟩⟩⟩
      exact ⟨_, rfl, sA.trans (sB.trans sC)⟩
    rintro σ HA ⟨z4, rfl, sA⟩
    have atA := at9.mono (Same.tup sA)
    refine ⟨_, rfl, _, rfl, by rw [sizeLine_eq]; simp, fun b hb => ?_⟩
    have sB := same_upd (o := .tup [cv, cv]) hb
    have eB : (upd HA b (.tup [cv, cv])) b = some (.tup [cv, cv]) := upd_same
    generalize upd HA b (.tup [cv, cv]) = HB at sB eB ⊢
    refine ⟨by rw [sizeLine_eq]; simp, fun w hw2 => ?_⟩
    have sC := same_upd (o := .tup [.str "and", .ref b]) hw2
    have eC : (upd HB w (.tup [.str "and", .ref b])) w = some (.tup [.str "and", .ref b]) := upd_same
    generalize upd HB w (.tup [.str "and", .ref b]) = HC at sC eC ⊢
    have atC := atA.mono (Same.tup (sB.trans sC))
    have atw : At K 141 HC (.ref w) (.node (.many "and") [ct, ct]) := at_mny (SqT.of eC) (SqT.of (sC _ _ eB)) (AtL.two atC atC) (.inl rfl) (by show 2 ≤ 8; decide)
    have icw : isC (.node (.many "and") [ct, ct]) = true := c_and c4 c4
    have szw : psz (.node (.many "and") [ct, ct]) = psz ct + psz ct + 1 := z_2 _ _ _
    have dpw : dpt (.node (.many "and") [ct, ct]) ≤ 182 := by
      rw [dpt_node]
      show mx [dpt ct, dpt ct] + 2 ≤ 182
      rw [mx2]
      omega
    have fww : (addAll [] (post (.node (.many "and") [ct, ct]))).length ≤ 2403 := by
      have := few_node (c := .many "and") (ks := [ct, ct]) (t := ct) (fun k hk => by simpa using hk)
      omega
    -- the rest
    have fin : ∀ HZ, Same HC HZ → tRet (tAndV (tCall (sp__law_right K a) [] E0 (tCons (tTup (tCons (tC (V.str "some")) (tCons (tTup (tCons (tC (V.str "some")) (tCons (tVar 2) tNil))) tNil))) tNil)) (tOp rEq (tCall (sp_size_of K a) [] E0 (tCons (tTup (tCons (tC (V.str "yes")) tNil)) tNil)) (tC (V.int 1)))) { nx := fun x H' => Q V.non H', rt := Q } [some (.ref p), some (.ref y), some cv, some (.ref P), z4, some (.ref w)] HZ := by
      intro HZ sZ
      refine ⟨_, rfl, by rw [sizeLine_eq]; simp, fun o1 ho1 => ?_⟩
      have t1 := same_upd (o := .tup [.str "some", cv]) ho1
      have f1 : (upd HZ o1 (.tup [.str "some", cv])) o1 = some (.tup [.str "some", cv]) := upd_same
      generalize upd HZ o1 (.tup [.str "some", cv]) = HX at t1 f1 ⊢
      refine ⟨by rw [sizeLine_eq]; simp, fun o2 ho2 => ?_⟩
      have t2 := same_upd (o := .tup [.str "some", .ref o1]) ho2
      have f2 : (upd HX o2 (.tup [.str "some", .ref o1])) o2 = some (.tup [.str "some", .ref o1]) := upd_same
      generalize upd HX o2 (.tup [.str "some", .ref o1]) = HY at t2 f2 ⊢
      have a1 : At K 141 HY (.ref o1) (.node (.op "some") [ct]) := at_op1 (SqT.of (t2 _ _ f1)) (by decide +kernel) (atC.mono (Same.tup (sZ.trans (t1.trans t2))))
      have a2 : At K 142 HY (.ref o2) (.node (.op "some") [.node (.op "some") [ct]]) := at_op1 (SqT.of f2) (by decide +kernel) a1
      have i1 : isC (.node (.op "some") [ct]) = true := c_op1 (by decide +kernel) c4
      have d1 : dpt (.node (.op "some") [ct]) ≤ 181 := by
        rw [dpt_node]
        show mx [dpt ct] + 1 ≤ 181
        rw [mx1]
        omega
      have d2 : dpt (.node (.op "some") [.node (.op "some") [ct]]) ≤ 182 := by
        rw [dpt_node]
        show mx [dpt (.node (.op "some") [ct])] + 1 ≤ 182
        rw [mx1]
        omega
      have g1 := few_node (c := .op "some") (ks := [ct]) (t := ct) (fun k hk => by simpa using hk)
      have g2 := few_node (c := .op "some") (ks := [.node (.op "some") [ct]]) (t := .node (.op "some") [ct]) (fun k hk => by simpa using hk)
      refine ⟨.ref o2, _, 142, rfl, by decide, a2, c_op1 (by decide +kernel) i1, by rw [z_1, z_1]; omega, by omega, by omega, fun HU sU => ⟨_, rfl, iteT ?_⟩⟩
      refine ⟨by rw [sizeLine_eq]; simp, fun yy hyy => ?_⟩
      have t3 := same_upd (o := .tup [.str "yes"]) hyy
      refine ⟨.ref yy, nYes, 1, rfl, at_yes (SqT.of upd_same), by decide, fun HV sV => ⟨rfl, qD rfl (k _)⟩⟩
    refine ⟨_, rfl, cv, ct, 140, rfl, atC, by omega, fun HD sD => ⟨_, _, rfl, rfl, .inl ⟨by decide, by decide⟩, _, _, rfl, rfl, _, rfl, ite2 (fun cc => ?lt) (fun cc => iteF (fin HD sD))⟩⟩
    case lt =>
      refine ⟨_, rfl, .ref w, _, 141, rfl, by decide, atw.mono (Same.tup sD), icw, by omega, by omega, by omega, fun HE sE => ⟨_, rfl, iteF ?_⟩⟩
      refine ⟨_, rfl, .ref w, _, 141, rfl, atw.mono (Same.tup (sD.trans sE)), by omega, fun HF sF => ?_⟩
      refine ⟨_, rfl, cv, ct, 140, rfl, atC.mono (Same.tup (sD.trans (sE.trans sF))), by omega, fun HG sG => ⟨_, _, rfl, rfl, .inl ⟨by decide, by decide⟩, _, _, rfl, rfl, rfl, _, rfl, ?_⟩⟩
      have en : (!decide (V.int ((psz (.node (.many "and") [ct, ct]) : Nat) : Int) = V.int (1 + 2 * ((psz ct : Nat) : Int)))) = false := by
        rw [decide_eq_true]
        · rfl
        · congr 1
          rw [szw]
          omega
      rw [en]
      exact iteF (fin HG (sD.trans (sE.trans (sF.trans sG))))
end KK

set_option Elab.async false
set_option linter.all false
set_option maxRecDepth 100000
set_option maxHeartbeats 4000000
namespace KK
open PySem PySem.Spec L2 L3
def spL (K : PySem.W.Frag) : Sp := fun vs H Q _ => ∃ (p : Addr) (ns : List Int), vs = [.ref p] ∧ SqL K H p (ns.map V.int) ∧ ns.length ≤ 63 ∧ ∀ H', Q (.bl true) H'
theorem all_mk {l : PySem.W.OpenLaw} {w : World} {K : PySem.W.Frag} {h : Heap} {mg : Str → Option Value} {fa : Addr} (X : K.In h) (G : h.Ns mainGlobals mg) (hfa : mg "law" = some (.ref fa))
    {f0 f1 f2 f3 f4 f5 f6 f7 f8 f9 f10 f11 f12 f13 f14 f15 f16 f17 f18 f19 f20 f21 f22 f23 f24 f25 f26 f27 f28 : Addr}
    {C_Table C_TimeError C_BadSentence : Addr}
    {od0 an0 od1 an1 od2 an2 od3 an3 od4 an4 od5 an5 od6 an6 od7 an7 od8 an8 od9 an9 od10 an10 od11 an11 od12 an12 od13 an13 od14 an14 od15 an15 od16 an16 od17 an17 od18 an18 od19 an19 od20 an20 od21 an21 od22 an22 od23 an23 od24 an24 od25 an25 od26 an26 od27 an27 od28 an28 : Option Addr}
    {sl0 sl1 sl2 sl3 sl4 sl5 sl6 sl7 sl8 sl9 sl10 sl11 sl12 sl13 sl14 sl15 sl16 sl17 sl18 sl19 sl20 sl21 sl22 sl23 sl24 sl25 sl26 sl27 sl28 : Array (Option Value)}
    {oc0 kV0 dc0 pm0 cd0 ct0 oc1 kV1 dc1 pm1 cd1 ct1 oc2 kV2 dc2 pm2 cd2 ct2 oc3 kV3 dc3 pm3 cd3 ct3 oc4 kV4 dc4 pm4 cd4 ct4 oc5 kV5 dc5 pm5 cd5 ct5 oc6 kV6 dc6 pm6 cd6 ct6 oc7 kV7 dc7 pm7 cd7 ct7 oc8 kV8 dc8 pm8 cd8 ct8 oc9 kV9 dc9 pm9 cd9 ct9 oc10 kV10 dc10 pm10 cd10 ct10 oc11 kV11 dc11 pm11 cd11 ct11 oc12 kV12 dc12 pm12 cd12 ct12 oc13 kV13 dc13 pm13 cd13 ct13 oc14 kV14 dc14 pm14 cd14 ct14 oc15 kV15 dc15 pm15 cd15 ct15 oc16 kV16 dc16 pm16 cd16 ct16 oc17 kV17 dc17 pm17 cd17 ct17 oc18 kV18 dc18 pm18 cd18 ct18 oc19 kV19 dc19 pm19 cd19 ct19 oc20 kV20 dc20 pm20 cd20 ct20 oc21 kV21 dc21 pm21 cd21 ct21 oc22 kV22 dc22 pm22 cd22 ct22 oc23 kV23 dc23 pm23 cd23 ct23 oc24 kV24 dc24 pm24 cd24 ct24 oc25 kV25 dc25 pm25 cd25 ct25 oc26 kV26 dc26 pm26 cd26 ct26 oc27 kV27 dc27 pm27 cd27 ct27 oc28 kV28 dc28 pm28 cd28 ct28 : Value}
    {D_LENGTHS : Addr} {es_LENGTHS : Array DictEntry} {nn_LENGTHS : Nat} {dt_LENGTHS_0 dt_LENGTHS_1 dt_LENGTHS_2 dt_LENGTHS_3 dt_LENGTHS_4 dt_LENGTHS_5 dt_LENGTHS_6 dt_LENGTHS_7 dt_LENGTHS_8 dt_LENGTHS_9 dt_LENGTHS_10 : Tok}
    {tk_LETTERS tk_MOST_LETTERS tk_MOST_WITHIN : Tok}
    {Y_YES : Addr} {yd_YES : Option Addr} {yl_YES : Array (Option Value)} {yn_YES : Nat} {yt_YES_0 : Tok}
    (aC_Table : PySem.W.nsIn K mainGlobals "Table" = some (some (.ref C_Table)))
    (aC_TimeError : PySem.W.nsIn K mainGlobals "TimeError" = some (some (.ref C_TimeError)))
    (aC_BadSentence : PySem.W.nsIn K mainGlobals "BadSentence" = some (some (.ref C_BadSentence)))
    (a0 : PySem.W.nsIn K mainGlobals "is_whole" = some (some (.ref f0)))
    (l0 : K.lookup f0 = some ⟨oc0, od0, .func (PySem.W.fnOf "is_whole" "is_whole" (defArgs s_is_whole) (defBody s_is_whole) (defScope s_is_whole) .none kV0 dc0 pm0 an0 cd0 ct0), sl0⟩)
    (c0 : PySem.W.codeIn K cd0 "is_whole" = true)
    (k0 : PySem.W.keepIn K (.ref f0) = true)
    (a1 : PySem.W.nsIn K mainGlobals "is_name" = some (some (.ref f1)))
    (l1 : K.lookup f1 = some ⟨oc1, od1, .func (PySem.W.fnOf "is_name" "is_name" (defArgs s_is_name) (defBody s_is_name) (defScope s_is_name) .none kV1 dc1 pm1 an1 cd1 ct1), sl1⟩)
    (c1 : PySem.W.codeIn K cd1 "is_name" = true)
    (k1 : PySem.W.keepIn K (.ref f1) = true)
    (a2 : PySem.W.nsIn K mainGlobals "last_ones" = some (some (.ref f2)))
    (l2 : K.lookup f2 = some ⟨oc2, od2, .func (PySem.W.fnOf "last_ones" "last_ones" (defArgs s_last_ones) (defBody s_last_ones) (defScope s_last_ones) .none kV2 dc2 pm2 an2 cd2 ct2), sl2⟩)
    (c2 : PySem.W.codeIn K cd2 "last_ones" = true)
    (k2 : PySem.W.keepIn K (.ref f2) = true)
    (a3 : PySem.W.nsIn K mainGlobals "is_formed" = some (some (.ref f3)))
    (l3 : K.lookup f3 = some ⟨oc3, od3, .func (PySem.W.fnOf "is_formed" "is_formed" (defArgs s_is_formed) (defBody s_is_formed) (defScope s_is_formed) .none kV3 dc3 pm3 an3 cd3 ct3), sl3⟩)
    (c3 : PySem.W.codeIn K cd3 "is_formed" = true)
    (k3 : PySem.W.keepIn K (.ref f3) = true)
    (a4 : PySem.W.nsIn K mainGlobals "inner_of" = some (some (.ref f4)))
    (l4 : K.lookup f4 = some ⟨oc4, od4, .func (PySem.W.fnOf "inner_of" "inner_of" (defArgs s_inner_of) (defBody s_inner_of) (defScope s_inner_of) .none kV4 dc4 pm4 an4 cd4 ct4), sl4⟩)
    (c4 : PySem.W.codeIn K cd4 "inner_of" = true)
    (k4 : PySem.W.keepIn K (.ref f4) = true)
    (a5 : PySem.W.nsIn K mainGlobals "inner_ahead" = some (some (.ref f5)))
    (l5 : K.lookup f5 = some ⟨oc5, od5, .func (PySem.W.fnOf "inner_ahead" "inner_ahead" (defArgs s_inner_ahead) (defBody s_inner_ahead) (defScope s_inner_ahead) .none kV5 dc5 pm5 an5 cd5 ct5), sl5⟩)
    (c5 : PySem.W.codeIn K cd5 "inner_ahead" = true)
    (k5 : PySem.W.keepIn K (.ref f5) = true)
    (a6 : PySem.W.nsIn K mainGlobals "core_of" = some (some (.ref f6)))
    (l6 : K.lookup f6 = some ⟨oc6, od6, .func (PySem.W.fnOf "core_of" "core_of" (defArgs s_core_of) (defBody s_core_of) (defScope s_core_of) .none kV6 dc6 pm6 an6 cd6 ct6), sl6⟩)
    (c6 : PySem.W.codeIn K cd6 "core_of" = true)
    (k6 : PySem.W.keepIn K (.ref f6) = true)
    (a7 : PySem.W.nsIn K mainGlobals "core_with" = some (some (.ref f7)))
    (l7 : K.lookup f7 = some ⟨oc7, od7, .func (PySem.W.fnOf "core_with" "core_with" (defArgs s_core_with) (defBody s_core_with) (defScope s_core_with) .none kV7 dc7 pm7 an7 cd7 ct7), sl7⟩)
    (c7 : PySem.W.codeIn K cd7 "core_with" = true)
    (k7 : PySem.W.keepIn K (.ref f7) = true)
    (a8 : PySem.W.nsIn K mainGlobals "and_of" = some (some (.ref f8)))
    (l8 : K.lookup f8 = some ⟨oc8, od8, .func (PySem.W.fnOf "and_of" "and_of" (defArgs s_and_of) (defBody s_and_of) (defScope s_and_of) .none kV8 dc8 pm8 an8 cd8 ct8), sl8⟩)
    (c8 : PySem.W.codeIn K cd8 "and_of" = true)
    (k8 : PySem.W.keepIn K (.ref f8) = true)
    (a9 : PySem.W.nsIn K mainGlobals "or_of" = some (some (.ref f9)))
    (l9 : K.lookup f9 = some ⟨oc9, od9, .func (PySem.W.fnOf "or_of" "or_of" (defArgs s_or_of) (defBody s_or_of) (defScope s_or_of) .none kV9 dc9 pm9 an9 cd9 ct9), sl9⟩)
    (c9 : PySem.W.codeIn K cd9 "or_of" = true)
    (k9 : PySem.W.keepIn K (.ref f9) = true)
    (a10 : PySem.W.nsIn K mainGlobals "within_of" = some (some (.ref f10)))
    (l10 : K.lookup f10 = some ⟨oc10, od10, .func (PySem.W.fnOf "within_of" "within_of" (defArgs s_within_of) (defBody s_within_of) (defScope s_within_of) .none kV10 dc10 pm10 an10 cd10 ct10), sl10⟩)
    (c10 : PySem.W.codeIn K cd10 "within_of" = true)
    (k10 : PySem.W.keepIn K (.ref f10) = true)
    (a11 : PySem.W.nsIn K mainGlobals "row_with" = some (some (.ref f11)))
    (l11 : K.lookup f11 = some ⟨oc11, od11, .func (PySem.W.fnOf "row_with" "row_with" (defArgs s_row_with) (defBody s_row_with) (defScope s_row_with) .none kV11 dc11 pm11 an11 cd11 ct11), sl11⟩)
    (c11 : PySem.W.codeIn K cd11 "row_with" = true)
    (k11 : PySem.W.keepIn K (.ref f11) = true)
    (a12 : PySem.W.findIn K (.ref C_Table) "__init__" = some (some (.ref f12)))
    (i12 : PySem.W.isFn K (.ref f12) = true)
    (l12 : K.lookup f12 = some ⟨oc12, od12, .func (PySem.W.fnOf "__init__" "Table.__init__" (defArgs s_Table_init) (defBody s_Table_init) (defScope s_Table_init) .none kV12 dc12 pm12 an12 cd12 ct12), sl12⟩)
    (c12 : PySem.W.codeIn K cd12 "Table.__init__" = true)
    (k12 : PySem.W.keepIn K (.ref f12) = true)
    (a13 : PySem.W.findIn K (.ref C_Table) "number_of" = some (some (.ref f13)))
    (i13 : PySem.W.isFn K (.ref f13) = true)
    (l13 : K.lookup f13 = some ⟨oc13, od13, .func (PySem.W.fnOf "number_of" "Table.number_of" (defArgs s_Table_number_of) (defBody s_Table_number_of) (defScope s_Table_number_of) .none kV13 dc13 pm13 an13 cd13 ct13), sl13⟩)
    (c13 : PySem.W.codeIn K cd13 "Table.number_of" = true)
    (k13 : PySem.W.keepIn K (.ref f13) = true)
    (a14 : PySem.W.findIn K (.ref C_Table) "taken_in" = some (some (.ref f14)))
    (i14 : PySem.W.isFn K (.ref f14) = true)
    (l14 : K.lookup f14 = some ⟨oc14, od14, .func (PySem.W.fnOf "taken_in" "Table.taken_in" (defArgs s_Table_taken_in) (defBody s_Table_taken_in) (defScope s_Table_taken_in) .none kV14 dc14 pm14 an14 cd14 ct14), sl14⟩)
    (c14 : PySem.W.codeIn K cd14 "Table.taken_in" = true)
    (k14 : PySem.W.keepIn K (.ref f14) = true)
    (a15 : PySem.W.findIn K (.ref C_Table) "inner_numbers" = some (some (.ref f15)))
    (i15 : PySem.W.isFn K (.ref f15) = true)
    (l15 : K.lookup f15 = some ⟨oc15, od15, .func (PySem.W.fnOf "inner_numbers" "Table.inner_numbers" (defArgs s_Table_inner_numbers) (defBody s_Table_inner_numbers) (defScope s_Table_inner_numbers) .none kV15 dc15 pm15 an15 cd15 ct15), sl15⟩)
    (c15 : PySem.W.codeIn K cd15 "Table.inner_numbers" = true)
    (k15 : PySem.W.keepIn K (.ref f15) = true)
    (a16 : PySem.W.nsIn K mainGlobals "below" = some (some (.ref f16)))
    (l16 : K.lookup f16 = some ⟨oc16, od16, .func (PySem.W.fnOf "below" "below" (defArgs s_below) (defBody s_below) (defScope s_below) .none kV16 dc16 pm16 an16 cd16 ct16), sl16⟩)
    (c16 : PySem.W.codeIn K cd16 "below" = true)
    (k16 : PySem.W.keepIn K (.ref f16) = true)
    (a17 : PySem.W.nsIn K mainGlobals "parts_of" = some (some (.ref f17)))
    (l17 : K.lookup f17 = some ⟨oc17, od17, .func (PySem.W.fnOf "parts_of" "parts_of" (defArgs s_parts_of) (defBody s_parts_of) (defScope s_parts_of) .none kV17 dc17 pm17 an17 cd17 ct17), sl17⟩)
    (c17 : PySem.W.codeIn K cd17 "parts_of" = true)
    (k17 : PySem.W.keepIn K (.ref f17) = true)
    (a18 : PySem.W.nsIn K mainGlobals "inner_parts" = some (some (.ref f18)))
    (l18 : K.lookup f18 = some ⟨oc18, od18, .func (PySem.W.fnOf "inner_parts" "inner_parts" (defArgs s_inner_parts) (defBody s_inner_parts) (defScope s_inner_parts) .none kV18 dc18 pm18 an18 cd18 ct18), sl18⟩)
    (c18 : PySem.W.codeIn K cd18 "inner_parts" = true)
    (k18 : PySem.W.keepIn K (.ref f18) = true)
    (a19 : PySem.W.nsIn K mainGlobals "size_of" = some (some (.ref f19)))
    (l19 : K.lookup f19 = some ⟨oc19, od19, .func (PySem.W.fnOf "size_of" "size_of" (defArgs s_size_of) (defBody s_size_of) (defScope s_size_of) .none kV19 dc19 pm19 an19 cd19 ct19), sl19⟩)
    (c19 : PySem.W.codeIn K cd19 "size_of" = true)
    (k19 : PySem.W.keepIn K (.ref f19) = true)
    (a20 : PySem.W.nsIn K mainGlobals "_law_cell_at" = some (some (.ref f20)))
    (l20 : K.lookup f20 = some ⟨oc20, od20, .func (PySem.W.fnOf "_law_cell_at" "_law_cell_at" (defArgs s__law_cell_at) (defBody s__law_cell_at) (defScope s__law_cell_at) .none kV20 dc20 pm20 an20 cd20 ct20), sl20⟩)
    (c20 : PySem.W.codeIn K cd20 "_law_cell_at" = true)
    (k20 : PySem.W.keepIn K (.ref f20) = true)
    (a21 : PySem.W.nsIn K mainGlobals "_law_stream" = some (some (.ref f21)))
    (l21 : K.lookup f21 = some ⟨oc21, od21, .func (PySem.W.fnOf "_law_stream" "_law_stream" (defArgs s__law_stream) (defBody s__law_stream) (defScope s__law_stream) .none kV21 dc21 pm21 an21 cd21 ct21), sl21⟩)
    (c21 : PySem.W.codeIn K cd21 "_law_stream" = true)
    (k21 : PySem.W.keepIn K (.ref f21) = true)
    (a22 : PySem.W.nsIn K mainGlobals "_law_draw" = some (some (.ref f22)))
    (l22 : K.lookup f22 = some ⟨oc22, od22, .func (PySem.W.fnOf "_law_draw" "_law_draw" (defArgs s__law_draw) (defBody s__law_draw) (defScope s__law_draw) .none kV22 dc22 pm22 an22 cd22 ct22), sl22⟩)
    (c22 : PySem.W.codeIn K cd22 "_law_draw" = true)
    (k22 : PySem.W.keepIn K (.ref f22) = true)
    (a23 : PySem.W.nsIn K mainGlobals "_law_sentence" = some (some (.ref f23)))
    (l23 : K.lookup f23 = some ⟨oc23, od23, .func (PySem.W.fnOf "_law_sentence" "_law_sentence" (defArgs s__law_sentence) (defBody s__law_sentence) (defScope s__law_sentence) .none kV23 dc23 pm23 an23 cd23 ct23), sl23⟩)
    (c23 : PySem.W.codeIn K cd23 "_law_sentence" = true)
    (k23 : PySem.W.keepIn K (.ref f23) = true)
    (a24 : PySem.W.nsIn K mainGlobals "_law_inner" = some (some (.ref f24)))
    (l24 : K.lookup f24 = some ⟨oc24, od24, .func (PySem.W.fnOf "_law_inner" "_law_inner" (defArgs s__law_inner) (defBody s__law_inner) (defScope s__law_inner) .none kV24 dc24 pm24 an24 cd24 ct24), sl24⟩)
    (c24 : PySem.W.codeIn K cd24 "_law_inner" = true)
    (k24 : PySem.W.keepIn K (.ref f24) = true)
    (a25 : PySem.W.nsIn K mainGlobals "_law_gone_through" = some (some (.ref f25)))
    (l25 : K.lookup f25 = some ⟨oc25, od25, .func (PySem.W.fnOf "_law_gone_through" "_law_gone_through" (defArgs s__law_gone_through) (defBody s__law_gone_through) (defScope s__law_gone_through) .none kV25 dc25 pm25 an25 cd25 ct25), sl25⟩)
    (c25 : PySem.W.codeIn K cd25 "_law_gone_through" = true)
    (k25 : PySem.W.keepIn K (.ref f25) = true)
    (a26 : PySem.W.nsIn K mainGlobals "_law_right" = some (some (.ref f26)))
    (l26 : K.lookup f26 = some ⟨oc26, od26, .func (PySem.W.fnOf "_law_right" "_law_right" (defArgs s__law_right) (defBody s__law_right) (defScope s__law_right) .none kV26 dc26 pm26 an26 cd26 ct26), sl26⟩)
    (c26 : PySem.W.codeIn K cd26 "_law_right" = true)
    (k26 : PySem.W.keepIn K (.ref f26) = true)
    (a27 : PySem.W.nsIn K mainGlobals "_law_sized" = some (some (.ref f27)))
    (l27 : K.lookup f27 = some ⟨oc27, od27, .func (PySem.W.fnOf "_law_sized" "_law_sized" (defArgs s__law_sized) (defBody s__law_sized) (defScope s__law_sized) .none kV27 dc27 pm27 an27 cd27 ct27), sl27⟩)
    (c27 : PySem.W.codeIn K cd27 "_law_sized" = true)
    (k27 : PySem.W.keepIn K (.ref f27) = true)
    (a28 : PySem.W.nsIn K mainGlobals "law" = some (some (.ref f28)))
    (l28 : K.lookup f28 = some ⟨oc28, od28, .func (PySem.W.fnOf "law" "law" (defArgs s_law) (defBody s_law) (defScope s_law) .none kV28 dc28 pm28 an28 cd28 ct28), sl28⟩)
    (c28 : PySem.W.codeIn K cd28 "law" = true)
    (k28 : PySem.W.keepIn K (.ref f28) = true)
    (pg_Table : PySem.W.plainGet K C_Table Str.empty = true)
    (hd_Table : PySem.W.hasDictIn K C_Table = true)
    (po_Table : PySem.W.plainOver K C_Table = true)
    (sa_Table : PySem.W.findIn K (.ref C_Table) "__setattr__" = some (some (.builtin "object.__setattr__")))
    (mk_Table : PySem.W.makesIn K C_Table = true)
    (kc_Table : PySem.W.keepIn K (.ref C_Table) = true)
    (n_Table_parts : PySem.W.findIn K (.ref C_Table) "parts" = some none)
    (n_Table_rows : PySem.W.findIn K (.ref C_Table) "rows" = some none)
    (n_Table_numbers : PySem.W.findIn K (.ref C_Table) "numbers" = some none)
    (z_ValueError : PySem.W.nsIn K mainGlobals "ValueError" = some none)
    (z_all : PySem.W.nsIn K mainGlobals "all" = some none)
    (z_reversed : PySem.W.nsIn K mainGlobals "reversed" = some none)
    (z_range : PySem.W.nsIn K mainGlobals "range" = some none)
    (z_len : PySem.W.nsIn K mainGlobals "len" = some none)
    (z_list : PySem.W.nsIn K mainGlobals "list" = some none)
    (z_isinstance : PySem.W.nsIn K mainGlobals "isinstance" = some none)
    (z_int : PySem.W.nsIn K mainGlobals "int" = some none)
    (z_tuple : PySem.W.nsIn K mainGlobals "tuple" = some none)
    (z_set : PySem.W.nsIn K mainGlobals "set" = some none)
    (z_bool : PySem.W.nsIn K mainGlobals "bool" = some none)
    (z_str : PySem.W.nsIn K mainGlobals "str" = some none)
    (z_sum : PySem.W.nsIn K mainGlobals "sum" = some none)
    (x_LETTERS : PySem.W.nsIn K mainGlobals "LETTERS" = some (some (.str "abcdefghijklmnopqrstuvwxyz" tk_LETTERS)))
    (x_MOST_LETTERS : PySem.W.nsIn K mainGlobals "MOST_LETTERS" = some (some (.int 8 tk_MOST_LETTERS)))
    (x_MOST_WITHIN : PySem.W.nsIn K mainGlobals "MOST_WITHIN" = some (some (.int 5 tk_MOST_WITHIN)))
    (aD_LENGTHS : PySem.W.nsIn K mainGlobals "LENGTHS" = some (some (.ref D_LENGTHS)))
    (lD_LENGTHS : K.lookup D_LENGTHS = some ⟨.type "dict", none, .dict es_LENGTHS nn_LENGTHS, #[]⟩)
    (kD_LENGTHS : PySem.W.KeysLit w.params es_LENGTHS.toList)
    (e_LENGTHS_0 : PySem.W.nsIn K D_LENGTHS "all" = some (some (.int 2 dt_LENGTHS_0)))
    (e_LENGTHS_1 : PySem.W.nsIn K D_LENGTHS "some" = some (some (.int 2 dt_LENGTHS_1)))
    (e_LENGTHS_2 : PySem.W.nsIn K D_LENGTHS "not" = some (some (.int 2 dt_LENGTHS_2)))
    (e_LENGTHS_3 : PySem.W.nsIn K D_LENGTHS "next" = some (some (.int 2 dt_LENGTHS_3)))
    (e_LENGTHS_4 : PySem.W.nsIn K D_LENGTHS "always" = some (some (.int 2 dt_LENGTHS_4)))
    (e_LENGTHS_5 : PySem.W.nsIn K D_LENGTHS "ever" = some (some (.int 2 dt_LENGTHS_5)))
    (e_LENGTHS_6 : PySem.W.nsIn K D_LENGTHS "before" = some (some (.int 2 dt_LENGTHS_6)))
    (e_LENGTHS_7 : PySem.W.nsIn K D_LENGTHS "once" = some (some (.int 2 dt_LENGTHS_7)))
    (e_LENGTHS_8 : PySem.W.nsIn K D_LENGTHS "sofar" = some (some (.int 2 dt_LENGTHS_8)))
    (e_LENGTHS_9 : PySem.W.nsIn K D_LENGTHS "until" = some (some (.int 3 dt_LENGTHS_9)))
    (e_LENGTHS_10 : PySem.W.nsIn K D_LENGTHS "since" = some (some (.int 3 dt_LENGTHS_10)))
    (oD_LENGTHS : (D_LENGTHS == sysModules) = false)
    (aY_YES : PySem.W.nsIn K mainGlobals "YES" = some (some (.ref Y_YES)))
    (lY_YES : K.lookup Y_YES = some ⟨.type "tuple", yd_YES, .seq #[.str "yes" yt_YES_0] yn_YES, yl_YES⟩)
    (xc_TimeError : PySem.W.excIn K C_TimeError [.type "ValueError", .type "Exception", .type "BaseException", .type "object"] "ValueError.__new__" = true)
    (xc_BadSentence : PySem.W.excIn K C_BadSentence [.type "ValueError", .type "Exception", .type "BaseException", .type "object"] "ValueError.__new__" = true)
    (nk_signs : PySem.W.nsIn K D_LENGTHS "signs" = some none)
    (nk_Next : PySem.W.nsIn K D_LENGTHS "Next" = some none) :
    ∃ fd : FuncData, (∀ (s : Shared) (v : Value), BindsTo s fd ⟨[v], []⟩ [("_law_script", v)]) ∧ ∀ base : Heap, K.In base → base.Ns mainGlobals mg → FnOk l.prog w K mg base CX0 164 fa fd ["_law_script"] (spL K) := by
  have e := hfa.symm.trans (PySem.W.mg_of X G a28)
  cases e
  have T : Txt K mg { is_whole := f0, is_whole_fd := PySem.W.fnOf "is_whole" "is_whole" (defArgs s_is_whole) (defBody s_is_whole) (defScope s_is_whole) .none kV0 dc0 pm0 an0 cd0 ct0, is_name := f1, is_name_fd := PySem.W.fnOf "is_name" "is_name" (defArgs s_is_name) (defBody s_is_name) (defScope s_is_name) .none kV1 dc1 pm1 an1 cd1 ct1, last_ones := f2, last_ones_fd := PySem.W.fnOf "last_ones" "last_ones" (defArgs s_last_ones) (defBody s_last_ones) (defScope s_last_ones) .none kV2 dc2 pm2 an2 cd2 ct2, is_formed := f3, is_formed_fd := PySem.W.fnOf "is_formed" "is_formed" (defArgs s_is_formed) (defBody s_is_formed) (defScope s_is_formed) .none kV3 dc3 pm3 an3 cd3 ct3, inner_of := f4, inner_of_fd := PySem.W.fnOf "inner_of" "inner_of" (defArgs s_inner_of) (defBody s_inner_of) (defScope s_inner_of) .none kV4 dc4 pm4 an4 cd4 ct4, inner_ahead := f5, inner_ahead_fd := PySem.W.fnOf "inner_ahead" "inner_ahead" (defArgs s_inner_ahead) (defBody s_inner_ahead) (defScope s_inner_ahead) .none kV5 dc5 pm5 an5 cd5 ct5, core_of := f6, core_of_fd := PySem.W.fnOf "core_of" "core_of" (defArgs s_core_of) (defBody s_core_of) (defScope s_core_of) .none kV6 dc6 pm6 an6 cd6 ct6, core_with := f7, core_with_fd := PySem.W.fnOf "core_with" "core_with" (defArgs s_core_with) (defBody s_core_with) (defScope s_core_with) .none kV7 dc7 pm7 an7 cd7 ct7, and_of := f8, and_of_fd := PySem.W.fnOf "and_of" "and_of" (defArgs s_and_of) (defBody s_and_of) (defScope s_and_of) .none kV8 dc8 pm8 an8 cd8 ct8, or_of := f9, or_of_fd := PySem.W.fnOf "or_of" "or_of" (defArgs s_or_of) (defBody s_or_of) (defScope s_or_of) .none kV9 dc9 pm9 an9 cd9 ct9, within_of := f10, within_of_fd := PySem.W.fnOf "within_of" "within_of" (defArgs s_within_of) (defBody s_within_of) (defScope s_within_of) .none kV10 dc10 pm10 an10 cd10 ct10, row_with := f11, row_with_fd := PySem.W.fnOf "row_with" "row_with" (defArgs s_row_with) (defBody s_row_with) (defScope s_row_with) .none kV11 dc11 pm11 an11 cd11 ct11, Table_init := f12, Table_init_fd := PySem.W.fnOf "__init__" "Table.__init__" (defArgs s_Table_init) (defBody s_Table_init) (defScope s_Table_init) .none kV12 dc12 pm12 an12 cd12 ct12, Table_number_of := f13, Table_number_of_fd := PySem.W.fnOf "number_of" "Table.number_of" (defArgs s_Table_number_of) (defBody s_Table_number_of) (defScope s_Table_number_of) .none kV13 dc13 pm13 an13 cd13 ct13, Table_taken_in := f14, Table_taken_in_fd := PySem.W.fnOf "taken_in" "Table.taken_in" (defArgs s_Table_taken_in) (defBody s_Table_taken_in) (defScope s_Table_taken_in) .none kV14 dc14 pm14 an14 cd14 ct14, Table_inner_numbers := f15, Table_inner_numbers_fd := PySem.W.fnOf "inner_numbers" "Table.inner_numbers" (defArgs s_Table_inner_numbers) (defBody s_Table_inner_numbers) (defScope s_Table_inner_numbers) .none kV15 dc15 pm15 an15 cd15 ct15, below := f16, below_fd := PySem.W.fnOf "below" "below" (defArgs s_below) (defBody s_below) (defScope s_below) .none kV16 dc16 pm16 an16 cd16 ct16, parts_of := f17, parts_of_fd := PySem.W.fnOf "parts_of" "parts_of" (defArgs s_parts_of) (defBody s_parts_of) (defScope s_parts_of) .none kV17 dc17 pm17 an17 cd17 ct17, inner_parts := f18, inner_parts_fd := PySem.W.fnOf "inner_parts" "inner_parts" (defArgs s_inner_parts) (defBody s_inner_parts) (defScope s_inner_parts) .none kV18 dc18 pm18 an18 cd18 ct18, size_of := f19, size_of_fd := PySem.W.fnOf "size_of" "size_of" (defArgs s_size_of) (defBody s_size_of) (defScope s_size_of) .none kV19 dc19 pm19 an19 cd19 ct19, _law_cell_at := f20, _law_cell_at_fd := PySem.W.fnOf "_law_cell_at" "_law_cell_at" (defArgs s__law_cell_at) (defBody s__law_cell_at) (defScope s__law_cell_at) .none kV20 dc20 pm20 an20 cd20 ct20, _law_stream := f21, _law_stream_fd := PySem.W.fnOf "_law_stream" "_law_stream" (defArgs s__law_stream) (defBody s__law_stream) (defScope s__law_stream) .none kV21 dc21 pm21 an21 cd21 ct21, _law_draw := f22, _law_draw_fd := PySem.W.fnOf "_law_draw" "_law_draw" (defArgs s__law_draw) (defBody s__law_draw) (defScope s__law_draw) .none kV22 dc22 pm22 an22 cd22 ct22, _law_sentence := f23, _law_sentence_fd := PySem.W.fnOf "_law_sentence" "_law_sentence" (defArgs s__law_sentence) (defBody s__law_sentence) (defScope s__law_sentence) .none kV23 dc23 pm23 an23 cd23 ct23, _law_inner := f24, _law_inner_fd := PySem.W.fnOf "_law_inner" "_law_inner" (defArgs s__law_inner) (defBody s__law_inner) (defScope s__law_inner) .none kV24 dc24 pm24 an24 cd24 ct24, _law_gone_through := f25, _law_gone_through_fd := PySem.W.fnOf "_law_gone_through" "_law_gone_through" (defArgs s__law_gone_through) (defBody s__law_gone_through) (defScope s__law_gone_through) .none kV25 dc25 pm25 an25 cd25 ct25, _law_right := f26, _law_right_fd := PySem.W.fnOf "_law_right" "_law_right" (defArgs s__law_right) (defBody s__law_right) (defScope s__law_right) .none kV26 dc26 pm26 an26 cd26 ct26, _law_sized := f27, _law_sized_fd := PySem.W.fnOf "_law_sized" "_law_sized" (defArgs s__law_sized) (defBody s__law_sized) (defScope s__law_sized) .none kV27 dc27 pm27 an27 cd27 ct27, law := fa, law_fd := PySem.W.fnOf "law" "law" (defArgs s_law) (defBody s_law) (defScope s_law) .none kV28 dc28 pm28 an28 cd28 ct28, C_TimeError := C_TimeError, C_BadSentence := C_BadSentence, C_Table := C_Table, D_LENGTHS := D_LENGTHS, Pm := w.params, Y_YES := Y_YES } := {
    g_YES := PySem.W.mg_of X G aY_YES,
    y_YES := fun H => .inr ⟨_, _, _, lY_YES, rfl, rfl, (by rw [sizeLine_eq]; simp), .cons ⟨_, rfl⟩ (.nil)⟩,
    g_LENGTHS := PySem.W.mg_of X G aD_LENGTHS,
    d_LENGTHS := ⟨⟨_, _, lD_LENGTHS, kD_LENGTHS⟩, fun p hp => by
      simp only [List.mem_cons, List.not_mem_nil, or_false] at hp
      rcases hp with rfl | rfl | rfl | rfl | rfl | rfl | rfl | rfl | rfl | rfl | rfl
      · exact ⟨_, e_LENGTHS_0⟩
      · exact ⟨_, e_LENGTHS_1⟩
      · exact ⟨_, e_LENGTHS_2⟩
      · exact ⟨_, e_LENGTHS_3⟩
      · exact ⟨_, e_LENGTHS_4⟩
      · exact ⟨_, e_LENGTHS_5⟩
      · exact ⟨_, e_LENGTHS_6⟩
      · exact ⟨_, e_LENGTHS_7⟩
      · exact ⟨_, e_LENGTHS_8⟩
      · exact ⟨_, e_LENGTHS_9⟩
      · exact ⟨_, e_LENGTHS_10⟩, oD_LENGTHS⟩,
    f_is_whole := fun_mk (st := s_is_whole) l0 c0 k0,
    n_is_whole := (fun_mk (st := s_is_whole) l0 c0 k0).binds (ps := ["thing"]) (fun _ _ _ _ _ _ us hl => match us, hl with | [_], _ => rfl),
    g_is_whole := PySem.W.mg_of X G a0,
    f_is_name := fun_mk (st := s_is_name) l1 c1 k1,
    n_is_name := (fun_mk (st := s_is_name) l1 c1 k1).binds (ps := ["thing"]) (fun _ _ _ _ _ _ us hl => match us, hl with | [_], _ => rfl),
    g_is_name := PySem.W.mg_of X G a1,
    f_last_ones := fun_mk (st := s_last_ones) l2 c2 k2,
    n_last_ones := (fun_mk (st := s_last_ones) l2 c2 k2).binds (ps := ["things", "many"]) (fun _ _ _ _ _ _ us hl => match us, hl with | [_, _], _ => rfl),
    g_last_ones := PySem.W.mg_of X G a2,
    f_is_formed := fun_mk (st := s_is_formed) l3 c3 k3,
    n_is_formed := (fun_mk (st := s_is_formed) l3 c3 k3).binds (ps := ["thing"]) (fun _ _ _ _ _ _ us hl => match us, hl with | [_], _ => rfl),
    g_is_formed := PySem.W.mg_of X G a3,
    f_inner_of := fun_mk (st := s_inner_of) l4 c4 k4,
    n_inner_of := (fun_mk (st := s_inner_of) l4 c4 k4).binds (ps := ["sentence"]) (fun _ _ _ _ _ _ us hl => match us, hl with | [_], _ => rfl),
    g_inner_of := PySem.W.mg_of X G a4,
    f_inner_ahead := fun_mk (st := s_inner_ahead) l5 c5 k5,
    n_inner_ahead := (fun_mk (st := s_inner_ahead) l5 c5 k5).binds (ps := ["sentence"]) (fun _ _ _ _ _ _ us hl => match us, hl with | [_], _ => rfl),
    g_inner_ahead := PySem.W.mg_of X G a5,
    f_core_of := fun_mk (st := s_core_of) l6 c6 k6,
    n_core_of := (fun_mk (st := s_core_of) l6 c6 k6).binds (ps := ["sentence"]) (fun _ _ _ _ _ _ us hl => match us, hl with | [_], _ => rfl),
    g_core_of := PySem.W.mg_of X G a6,
    f_core_with := fun_mk (st := s_core_with) l7 c7 k7,
    n_core_with := (fun_mk (st := s_core_with) l7 c7 k7).binds (ps := ["sentence", "inner"]) (fun _ _ _ _ _ _ us hl => match us, hl with | [_, _], _ => rfl),
    g_core_with := PySem.W.mg_of X G a7,
    f_and_of := fun_mk (st := s_and_of) l8 c8 k8,
    n_and_of := (fun_mk (st := s_and_of) l8 c8 k8).binds (ps := ["cores"]) (fun _ _ _ _ _ _ us hl => match us, hl with | [_], _ => rfl),
    g_and_of := PySem.W.mg_of X G a8,
    f_or_of := fun_mk (st := s_or_of) l9 c9 k9,
    n_or_of := (fun_mk (st := s_or_of) l9 c9 k9).binds (ps := ["cores"]) (fun _ _ _ _ _ _ us hl => match us, hl with | [_], _ => rfl),
    g_or_of := PySem.W.mg_of X G a9,
    f_within_of := fun_mk (st := s_within_of) l10 c10 k10,
    n_within_of := (fun_mk (st := s_within_of) l10 c10 k10).binds (ps := ["turns", "first", "second"]) (fun _ _ _ _ _ _ us hl => match us, hl with | [_, _, _], _ => rfl),
    g_within_of := PySem.W.mg_of X G a10,
    f_row_with := fun_mk (st := s_row_with) l11 c11 k11,
    n_row_with := (fun_mk (st := s_row_with) l11 c11 k11).binds (ps := ["sentence", "inner"]) (fun _ _ _ _ _ _ us hl => match us, hl with | [_, _], _ => rfl),
    g_row_with := PySem.W.mg_of X G a11,
    f_Table_init := fun_mk (st := s_Table_init) l12 c12 k12,
    n_Table_init := (fun_mk (st := s_Table_init) l12 c12 k12).binds (ps := ["self"]) (fun _ _ _ _ _ _ us hl => match us, hl with | [_], _ => rfl),
    m_Table_init := ⟨a12, i12, k12⟩,
    f_Table_number_of := fun_mk (st := s_Table_number_of) l13 c13 k13,
    n_Table_number_of := (fun_mk (st := s_Table_number_of) l13 c13 k13).binds (ps := ["self", "core"]) (fun _ _ _ _ _ _ us hl => match us, hl with | [_, _], _ => rfl),
    m_Table_number_of := ⟨a13, i13, k13⟩,
    f_Table_taken_in := fun_mk (st := s_Table_taken_in) l14 c14 k14,
    n_Table_taken_in := (fun_mk (st := s_Table_taken_in) l14 c14 k14).binds (ps := ["self", "part", "row"]) (fun _ _ _ _ _ _ us hl => match us, hl with | [_, _, _], _ => rfl),
    m_Table_taken_in := ⟨a14, i14, k14⟩,
    f_Table_inner_numbers := fun_mk (st := s_Table_inner_numbers) l15 c15 k15,
    n_Table_inner_numbers := (fun_mk (st := s_Table_inner_numbers) l15 c15 k15).binds (ps := ["self", "number"]) (fun _ _ _ _ _ _ us hl => match us, hl with | [_, _], _ => rfl),
    m_Table_inner_numbers := ⟨a15, i15, k15⟩,
    f_below := fun_mk (st := s_below) l16 c16 k16,
    n_below := (fun_mk (st := s_below) l16 c16 k16).binds (ps := ["row"]) (fun _ _ _ _ _ _ us hl => match us, hl with | [_], _ => rfl),
    g_below := PySem.W.mg_of X G a16,
    f_parts_of := fun_mk (st := s_parts_of) l17 c17 k17,
    n_parts_of := (fun_mk (st := s_parts_of) l17 c17 k17).binds (ps := ["core"]) (fun _ _ _ _ _ _ us hl => match us, hl with | [_], _ => rfl),
    g_parts_of := PySem.W.mg_of X G a17,
    f_inner_parts := fun_mk (st := s_inner_parts) l18 c18 k18,
    n_inner_parts := (fun_mk (st := s_inner_parts) l18 c18 k18).binds (ps := ["core"]) (fun _ _ _ _ _ _ us hl => match us, hl with | [_], _ => rfl),
    g_inner_parts := PySem.W.mg_of X G a18,
    f_size_of := fun_mk (st := s_size_of) l19 c19 k19,
    n_size_of := (fun_mk (st := s_size_of) l19 c19 k19).binds (ps := ["core"]) (fun _ _ _ _ _ _ us hl => match us, hl with | [_], _ => rfl),
    g_size_of := PySem.W.mg_of X G a19,
    f__law_cell_at := fun_mk (st := s__law_cell_at) l20 c20 k20,
    n__law_cell_at := (fun_mk (st := s__law_cell_at) l20 c20 k20).binds (ps := ["_law_script", "_law_k"]) (fun _ _ _ _ _ _ us hl => match us, hl with | [_, _], _ => rfl),
    g__law_cell_at := PySem.W.mg_of X G a20,
    f__law_stream := fun_mk (st := s__law_stream) l21 c21 k21,
    n__law_stream := (fun_mk (st := s__law_stream) l21 c21 k21).binds (ps := ["_law_cell", "_law_many"]) (fun _ _ _ _ _ _ us hl => match us, hl with | [_, _], _ => rfl),
    g__law_stream := PySem.W.mg_of X G a21,
    f__law_draw := fun_mk (st := s__law_draw) l22 c22 k22,
    n__law_draw := (fun_mk (st := s__law_draw) l22 c22 k22).binds (ps := ["_law_xs"]) (fun _ _ _ _ _ _ us hl => match us, hl with | [_], _ => rfl),
    g__law_draw := PySem.W.mg_of X G a22,
    f__law_sentence := fun_mk (st := s__law_sentence) l23 c23 k23,
    n__law_sentence := (fun_mk (st := s__law_sentence) l23 c23 k23).binds (ps := ["_law_xs", "_law_deep", "_law_names"]) (fun _ _ _ _ _ _ us hl => match us, hl with | [_, _, _], _ => rfl),
    g__law_sentence := PySem.W.mg_of X G a23,
    f__law_inner := fun_mk (st := s__law_inner) l24 c24 k24,
    n__law_inner := (fun_mk (st := s__law_inner) l24 c24 k24).binds (ps := ["_law_core"]) (fun _ _ _ _ _ _ us hl => match us, hl with | [_], _ => rfl),
    g__law_inner := PySem.W.mg_of X G a24,
    f__law_gone_through := fun_mk (st := s__law_gone_through) l25 c25 k25,
    n__law_gone_through := (fun_mk (st := s__law_gone_through) l25 c25 k25).binds (ps := ["_law_core", "_law_into_somes"]) (fun _ _ _ _ _ _ us hl => match us, hl with | [_, _], _ => rfl),
    g__law_gone_through := PySem.W.mg_of X G a25,
    f__law_right := fun_mk (st := s__law_right) l26 c26 k26,
    n__law_right := (fun_mk (st := s__law_right) l26 c26 k26).binds (ps := ["_law_core"]) (fun _ _ _ _ _ _ us hl => match us, hl with | [_], _ => rfl),
    g__law_right := PySem.W.mg_of X G a26,
    f__law_sized := fun_mk (st := s__law_sized) l27 c27 k27,
    n__law_sized := (fun_mk (st := s__law_sized) l27 c27 k27).binds (ps := ["_law_core"]) (fun _ _ _ _ _ _ us hl => match us, hl with | [_], _ => rfl),
    g__law_sized := PySem.W.mg_of X G a27,
    f_law := fun_mk (st := s_law) l28 c28 k28,
    n_law := (fun_mk (st := s_law) l28 c28 k28).binds (ps := ["_law_script"]) (fun _ _ _ _ _ _ us hl => match us, hl with | [_], _ => rfl),
    g_law := PySem.W.mg_of X G a28,
    b_ValueError := PySem.W.mg_none_of X G z_ValueError,
    b_all := PySem.W.mg_none_of X G z_all,
    b_reversed := PySem.W.mg_none_of X G z_reversed,
    b_range := PySem.W.mg_none_of X G z_range,
    b_len := PySem.W.mg_none_of X G z_len,
    b_list := PySem.W.mg_none_of X G z_list,
    b_isinstance := PySem.W.mg_none_of X G z_isinstance,
    b_int := PySem.W.mg_none_of X G z_int,
    b_tuple := PySem.W.mg_none_of X G z_tuple,
    b_set := PySem.W.mg_none_of X G z_set,
    b_bool := PySem.W.mg_none_of X G z_bool,
    b_str := PySem.W.mg_none_of X G z_str,
    b_sum := PySem.W.mg_none_of X G z_sum,
    c_LETTERS := ⟨_, PySem.W.mg_of X G x_LETTERS, ⟨_, rfl⟩⟩,
    c_MOST_LETTERS := ⟨_, PySem.W.mg_of X G x_MOST_LETTERS, ⟨_, rfl⟩⟩,
    c_MOST_WITHIN := ⟨_, PySem.W.mg_of X G x_MOST_WITHIN, ⟨_, rfl⟩⟩,
    cl_Table := ⟨pg_Table, hd_Table, po_Table, sa_Table⟩,
    g_Table := PySem.W.mg_of X G aC_Table,
    mk_Table := ⟨mk_Table, a12, i12, kc_Table⟩,
    na_Table_parts := n_Table_parts,
    na_Table_rows := n_Table_rows,
    na_Table_numbers := n_Table_numbers,
    g_TimeError := PySem.W.mg_of X G aC_TimeError,
    x_TimeError := xc_TimeError,
    g_BadSentence := PySem.W.mg_of X G aC_BadSentence,
    x_BadSentence := xc_BadSentence,
    nk_signs := nk_signs,
    nk_Next := nk_Next }
  exact ⟨PySem.W.fnOf "law" "law" (defArgs s_law) (defBody s_law) (defScope s_law) .none kV28 dc28 pm28 an28 cd28 ct28, fun s v => .of_eq rfl, fun base _ _ => ok_law T rfl⟩
theorem walk {l : PySem.W.OpenLaw} {q : Program} {loose : List Str} {XP : (Str → Option Value) → Heap → Prop} {YP : World → Heap → Prop} {d : DefRec} {K : Params → PySem.W.Frag} (hn : l.most = some 63) (hdf : d.params.defaults = [])
    (hY : ∀ (w : World) (h : Heap), YP w h → (K w.params).In h)
    (F : ∀ (w : World) (mg : Str → Option Value) (fa : Addr) (h : Heap), (K w.params).In h → h.Ns mainGlobals mg → mg d.name = some (.ref fa) →
      ∃ fd : FuncData, (∀ (s : Shared) (u : Value), BindsTo s fd ⟨[u], []⟩ [("_law_script", u)]) ∧ ∀ base : Heap, (K w.params).In base → base.Ns mainGlobals mg → FnOk l.prog w (K w.params) mg base CX0 164 fa fd ["_law_script"] (spL (K w.params))) :
    PySem.W.WalkO q loose XP YP l.row.toRowW d [] (fun f vs => PySem.call f vs) :=
  L2.walk_of (n := 63) (k := 164) (x := "_law_script") (CX := fun _ => CX0) (sp := fun w => spL (K w.params)) hn (by decide) hdf ⟨rfl, by decide, by decide⟩ hY F (fun _ _ a ns hl _ hS => ⟨a, ns, rfl, hS, hl, fun _ => rfl⟩) fun _ _ _ _ _ z => z
end KK
open PySem PySem.W PyProof.Rows
set_option maxRecDepth 100000 in
set_option maxHeartbeats 0 in
theorem PySem.Challenge.cw_timecourt_k14_parts_and_sizes_holds : PySem.Challenge.rw_timecourt_k14_parts_and_sizes.Holds := by
  w_on; o_law; k_head; (case hw => w_witness2)
  k_fill
  refine KK.walk (l := PySem.Challenge.rw_timecourt_k14_parts_and_sizes) rfl rfl (fun w h Y => PySem.W.kIn_of Y) ?F
  case F =>
    intro w mg fa h KX G hmg
    have hmg2 : mg "law" = some (.ref fa) := hmg
    clear hmg
    refine' KK.all_mk KX G hmg2 ?aC_Table ?aC_TimeError ?aC_BadSentence ?a0 ?l0 ?c0 ?k0 ?a1 ?l1 ?c1 ?k1 ?a2 ?l2 ?c2 ?k2 ?a3 ?l3 ?c3 ?k3 ?a4 ?l4 ?c4 ?k4 ?a5 ?l5 ?c5 ?k5 ?a6 ?l6 ?c6 ?k6 ?a7 ?l7 ?c7 ?k7 ?a8 ?l8 ?c8 ?k8 ?a9 ?l9 ?c9 ?k9 ?a10 ?l10 ?c10 ?k10 ?a11 ?l11 ?c11 ?k11 ?a12 ?i12 ?l12 ?c12 ?k12 ?a13 ?i13 ?l13 ?c13 ?k13 ?a14 ?i14 ?l14 ?c14 ?k14 ?a15 ?i15 ?l15 ?c15 ?k15 ?a16 ?l16 ?c16 ?k16 ?a17 ?l17 ?c17 ?k17 ?a18 ?l18 ?c18 ?k18 ?a19 ?l19 ?c19 ?k19 ?a20 ?l20 ?c20 ?k20 ?a21 ?l21 ?c21 ?k21 ?a22 ?l22 ?c22 ?k22 ?a23 ?l23 ?c23 ?k23 ?a24 ?l24 ?c24 ?k24 ?a25 ?l25 ?c25 ?k25 ?a26 ?l26 ?c26 ?k26 ?a27 ?l27 ?c27 ?k27 ?a28 ?l28 ?c28 ?k28 ?pg_Table ?hd_Table ?po_Table ?sa_Table ?mk_Table ?kc_Table ?n_Table_parts ?n_Table_rows ?n_Table_numbers ?z_ValueError ?z_all ?z_reversed ?z_range ?z_len ?z_list ?z_isinstance ?z_int ?z_tuple ?z_set ?z_bool ?z_str ?z_sum ?x_LETTERS ?x_MOST_LETTERS ?x_MOST_WITHIN ?aD_LENGTHS ?lD_LENGTHS ?kD_LENGTHS ?e_LENGTHS_0 ?e_LENGTHS_1 ?e_LENGTHS_2 ?e_LENGTHS_3 ?e_LENGTHS_4 ?e_LENGTHS_5 ?e_LENGTHS_6 ?e_LENGTHS_7 ?e_LENGTHS_8 ?e_LENGTHS_9 ?e_LENGTHS_10 ?oD_LENGTHS ?aY_YES ?lY_YES ?xc_TimeError ?xc_BadSentence ?nk_signs ?nk_Next
    (case aC_Table => k_is)
    (case aC_TimeError => k_is)
    (case aC_BadSentence => k_is)
    (case a0 => k_is)
    (case l0 => k_is)
    (case c0 => k_is)
    (case k0 => k_is)
    (case a1 => k_is)
    (case l1 => k_is)
    (case c1 => k_is)
    (case k1 => k_is)
    (case a2 => k_is)
    (case l2 => k_is)
    (case c2 => k_is)
    (case k2 => k_is)
    (case a3 => k_is)
    (case l3 => k_is)
    (case c3 => k_is)
    (case k3 => k_is)
    (case a4 => k_is)
    (case l4 => k_is)
    (case c4 => k_is)
    (case k4 => k_is)
    (case a5 => k_is)
    (case l5 => k_is)
    (case c5 => k_is)
    (case k5 => k_is)
    (case a6 => k_is)
    (case l6 => k_is)
    (case c6 => k_is)
    (case k6 => k_is)
    (case a7 => k_is)
    (case l7 => k_is)
    (case c7 => k_is)
    (case k7 => k_is)
    (case a8 => k_is)
    (case l8 => k_is)
    (case c8 => k_is)
    (case k8 => k_is)
    (case a9 => k_is)
    (case l9 => k_is)
    (case c9 => k_is)
    (case k9 => k_is)
    (case a10 => k_is)
    (case l10 => k_is)
    (case c10 => k_is)
    (case k10 => k_is)
    (case a11 => k_is)
    (case l11 => k_is)
    (case c11 => k_is)
    (case k11 => k_is)
    (case a12 => k_is)
    (case i12 => k_is)
    (case l12 => k_is)
    (case c12 => k_is)
    (case k12 => k_is)
    (case a13 => k_is)
    (case i13 => k_is)
    (case l13 => k_is)
    (case c13 => k_is)
    (case k13 => k_is)
    (case a14 => k_is)
    (case i14 => k_is)
    (case l14 => k_is)
    (case c14 => k_is)
    (case k14 => k_is)
    (case a15 => k_is)
    (case i15 => k_is)
    (case l15 => k_is)
    (case c15 => k_is)
    (case k15 => k_is)
    (case a16 => k_is)
    (case l16 => k_is)
    (case c16 => k_is)
    (case k16 => k_is)
    (case a17 => k_is)
    (case l17 => k_is)
    (case c17 => k_is)
    (case k17 => k_is)
    (case a18 => k_is)
    (case l18 => k_is)
    (case c18 => k_is)
    (case k18 => k_is)
    (case a19 => k_is)
    (case l19 => k_is)
    (case c19 => k_is)
    (case k19 => k_is)
    (case a20 => k_is)
    (case l20 => k_is)
    (case c20 => k_is)
    (case k20 => k_is)
    (case a21 => k_is)
    (case l21 => k_is)
    (case c21 => k_is)
    (case k21 => k_is)
    (case a22 => k_is)
    (case l22 => k_is)
    (case c22 => k_is)
    (case k22 => k_is)
    (case a23 => k_is)
    (case l23 => k_is)
    (case c23 => k_is)
    (case k23 => k_is)
    (case a24 => k_is)
    (case l24 => k_is)
    (case c24 => k_is)
    (case k24 => k_is)
    (case a25 => k_is)
    (case l25 => k_is)
    (case c25 => k_is)
    (case k25 => k_is)
    (case a26 => k_is)
    (case l26 => k_is)
    (case c26 => k_is)
    (case k26 => k_is)
    (case a27 => k_is)
    (case l27 => k_is)
    (case c27 => k_is)
    (case k27 => k_is)
    (case a28 => k_is)
    (case l28 => k_is)
    (case c28 => k_is)
    (case k28 => k_is)
    (case pg_Table => k_is)
    (case hd_Table => k_is)
    (case po_Table => k_is)
    (case sa_Table => k_is)
    (case mk_Table => k_is)
    (case kc_Table => k_is)
    (case n_Table_parts => k_is)
    (case n_Table_rows => k_is)
    (case n_Table_numbers => k_is)
    (case z_ValueError => k_is)
    (case z_all => k_is)
    (case z_reversed => k_is)
    (case z_range => k_is)
    (case z_len => k_is)
    (case z_list => k_is)
    (case z_isinstance => k_is)
    (case z_int => k_is)
    (case z_tuple => k_is)
    (case z_set => k_is)
    (case z_bool => k_is)
    (case z_str => k_is)
    (case z_sum => k_is)
    (case x_LETTERS => k_is)
    (case x_MOST_LETTERS => k_is)
    (case x_MOST_WITHIN => k_is)
    (case aD_LENGTHS => k_is)
    (case lD_LENGTHS => k_is)
    (case kD_LENGTHS => exact ⟨⟨_, _, rfl, rfl⟩, ⟨_, _, rfl, rfl⟩, ⟨_, _, rfl, rfl⟩, ⟨_, _, rfl, rfl⟩, ⟨_, _, rfl, rfl⟩, ⟨_, _, rfl, rfl⟩, ⟨_, _, rfl, rfl⟩, ⟨_, _, rfl, rfl⟩, ⟨_, _, rfl, rfl⟩, ⟨_, _, rfl, rfl⟩, ⟨_, _, rfl, rfl⟩, trivial⟩)
    (case e_LENGTHS_0 => k_is)
    (case e_LENGTHS_1 => k_is)
    (case e_LENGTHS_2 => k_is)
    (case e_LENGTHS_3 => k_is)
    (case e_LENGTHS_4 => k_is)
    (case e_LENGTHS_5 => k_is)
    (case e_LENGTHS_6 => k_is)
    (case e_LENGTHS_7 => k_is)
    (case e_LENGTHS_8 => k_is)
    (case e_LENGTHS_9 => k_is)
    (case e_LENGTHS_10 => k_is)
    (case oD_LENGTHS => rfl)
    (case aY_YES => k_is)
    (case lY_YES => k_is)
    (case xc_TimeError => k_exc)
    (case xc_BadSentence => k_exc)
    (case nk_signs => k_is)
    (case nk_Next => k_is)
#print axioms PySem.Challenge.cw_timecourt_k14_parts_and_sizes_holds

