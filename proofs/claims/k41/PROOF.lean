import PyProof.Rows.All
import Wide.All
import OpenK.AllK
import Wide.FinOn
import Lean
import PyProof.EqAt
import PyProof.EqKinds
import PyProof.TupleCall
import KE.KRevIter
import PySem.Challenge.RW_timecourt_k41_full_loops
set_option Elab.async false
set_option linter.all false
set_option maxRecDepth 100000
/-! THE HAND LAYER, for ints, bools, texts, own classes, LISTS and tuples (index, slices, in, append, pop ..), calls, loops. Paste it whole ahead of your own text; what your proof does not reach may be deleted. -/
namespace L2
open PySem PySem.Spec PyProof.Rows

/-- a key: an int or a str -/
abbrev Key := Sum Int Str
def keyIs : Key → Value → Bool
  | .inl k, v => Value.isInt k v
  | .inr x, v => Value.isStrOf x v
def keyH (w : World) : Key → Int
  | .inl k => hashInt k
  | .inr x => hashStr w x
theorem keyIs_shape : ∀ {k : Key} {v : Value}, keyIs k v = true → (∃ i t, k = Sum.inl i ∧ v = Value.int i t) ∨ (∃ x t, k = Sum.inr x ∧ v = Value.str x t)
  | .inl i, v, h => by
    obtain ⟨t, e⟩ := Value.isInt_shape (k := i) (v := v) h
    exact .inl ⟨i, t, rfl, e⟩
  | .inr x, v, h => by
    obtain ⟨t, e⟩ := Value.isStrOf_shape (x := x) (v := v) h
    exact .inr ⟨x, t, rfl, e⟩
theorem keyIs_int (i : Int) (t : Tok) : keyIs (.inl i) (.int i t) = true := by simp [keyIs, Value.isInt]
theorem keyIs_str (x : Str) (t : Tok) : keyIs (.inr x) (.str x t) = true := by simp [keyIs, Value.isStrOf]
theorem key_ll (a b : Int) : decide ((Sum.inl a : Key) = Sum.inl b) = (a == b) := by
  by_cases e : a = b
  · subst e; simp
  · have h : ¬ (Sum.inl a : Key) = Sum.inl b := fun q => e (Sum.inl.inj q)
    rw [decide_eq_false h]
    exact (beq_eq_false_iff_ne.mpr e).symm
theorem key_rr (a b : Str) : decide ((Sum.inr a : Key) = Sum.inr b) = decide (a = b) := by
  by_cases e : a = b
  · subst e; simp
  · have h : ¬ (Sum.inr a : Key) = Sum.inr b := fun q => e (Sum.inr.inj q)
    rw [decide_eq_false h, decide_eq_false e]
theorem key_lr (a : Int) (b : Str) : decide ((Sum.inl a : Key) = Sum.inr b) = false := decide_eq_false (fun q => nomatch q)
theorem key_rl (a : Str) (b : Int) : decide ((Sum.inr a : Key) = Sum.inl b) = false := decide_eq_false (fun q => nomatch q)

def mixKind (prog : Program) (w : World) : PySem.KeyKind prog w Key where
  is := keyIs
  hash := keyH w
  inj := fun v a b ha hb => by
    rcases keyIs_shape ha with ⟨i, t, rfl, rfl⟩ | ⟨x, t, rfl, rfl⟩
    · rcases keyIs_shape hb with ⟨j, u, rfl, e⟩ | ⟨y, u, rfl, e⟩
      · injection e with e1 _; rw [e1]
      · exact nomatch e
    · rcases keyIs_shape hb with ⟨j, u, rfl, e⟩ | ⟨y, u, rfl, e⟩
      · exact nomatch e
      · injection e with e1 _; rw [e1]
  byValue := fun k v h => by
    rcases keyIs_shape h with ⟨i, t, rfl, rfl⟩ | ⟨x, t, rfl, rfl⟩ <;> rfl
  pyHash := fun hv h => by
    rcases keyIs_shape hv with ⟨i, t, rfl, rfl⟩ | ⟨x, t, rfl, rfl⟩
    · exact wpAny_pyHash_int h
    · exact wpAny_pyHash_str h
  eqBool := fun hu hv h => by
    rcases keyIs_shape hu with ⟨i, t, rfl, rfl⟩ | ⟨x, t, rfl, rfl⟩
    · rcases keyIs_shape hv with ⟨j, u, rfl, rfl⟩ | ⟨y, u, rfl, rfl⟩
      · rw [key_ll] at h; exact wpAny_eqBool_int h
      · rw [key_lr] at h; exact SeqAt.EqAt.int_str i t y u _ _ _ _ h
    · rcases keyIs_shape hv with ⟨j, u, rfl, rfl⟩ | ⟨y, u, rfl, rfl⟩
      · rw [key_rl] at h; exact SeqAt.EqAt.str_int x t j u _ _ _ _ h
      · rw [key_rr] at h; exact wpAny_eqBool_str h
  «strs» := fun k x t v h => by
    rcases keyIs_shape h with ⟨i, u, rfl, e⟩ | ⟨y, u, rfl, e⟩
    · exact nomatch e
    · injection e with e1 _
      subst e1
      cases v <;> rfl

theorem mixKind_int (prog : Program) (w : World) (i : Int) (t : Tok) : (mixKind prog w).is (.inl i) (.int i t) = true := keyIs_int i t
theorem mixKind_str (prog : Program) (w : World) (x : Str) (t : Tok) : (mixKind prog w).is (.inr x) (.str x t) = true := keyIs_str x t
end L2

namespace L2
open PySem PySem.Spec PyProof.Rows

/-- a value, without the heap -/
inductive V where
  | non | bl (b : Bool) | int (i : Int) | str (x : Str) | byt (b : Array UInt8) | flt (b : UInt64) | ref (a : Addr) | ty (n : String)
  deriving DecidableEq

def RelV : V → Value → Prop
  | .non, u => u = Value.none
  | .bl b, u => u = Value.bool b
  | .int i, u => ∃ t, u = Value.int i t
  | .str x, u => ∃ t, u = Value.str x t
  | .byt b, u => ∃ t, u = Value.bytes b t
  | .flt b, u => ∃ t, u = Value.float b t
  | .ref a, u => u = Value.ref a
  | .ty n, u => u = Value.type n

abbrev Vals : List V → List Value → Prop := Paired RelV
theorem Vals.length {xs : List V} {us : List Value} (r : Vals xs us) : xs.length = us.length := Paired.length r
theorem Vals.get : ∀ {xs : List V} {us : List Value} {i : Nat} {x : V}, Vals xs us → xs[i]? = some x → ∃ u, us[i]? = some u ∧ RelV x u
  | _, _, _, _, .nil, e => by simp at e
  | _, _, 0, _, .cons r _, e => by simp at e; subst e; exact ⟨_, rfl, r⟩
  | _, _, i + 1, x, .cons _ t, e => by
    obtain ⟨u, h1, h2⟩ := Vals.get (i := i) (x := x) t (by simpa using e)
    exact ⟨u, by simpa using h1, h2⟩
theorem Vals.set {x : V} {u : Value} (r : RelV x u) : ∀ {xs : List V} {us : List Value} (i : Nat), Vals xs us → Vals (xs.set i x) (us.set i u)
  | _, _, _, .nil => .nil
  | _, _, 0, .cons _ t => .cons r t
  | _, _, i + 1, .cons q t => .cons q (Vals.set r i t)
theorem Vals.append : ∀ {xs ys : List V} {us ws : List Value}, Vals xs us → Vals ys ws → Vals (xs ++ ys) (us ++ ws)
  | _, _, _, _, .nil, s => s
  | _, _, _, _, .cons r t, s => .cons r (Vals.append t s)
theorem Vals.take : ∀ {xs : List V} {us : List Value} (n : Nat), Vals xs us → Vals (xs.take n) (us.take n)
  | _, _, 0, _ => .nil
  | _, _, _ + 1, .nil => .nil
  | _, _, n + 1, .cons r t => .cons r (Vals.take n t)
theorem Vals.drop : ∀ {xs : List V} {us : List Value} (n : Nat), Vals xs us → Vals (xs.drop n) (us.drop n)
  | _, _, 0, r => r
  | _, _, _ + 1, .nil => .nil
  | _, _, n + 1, .cons _ t => Vals.drop n t
def RelO : Option V → Option Value → Prop
  | some v, some u => RelV v u
  | none, none => True
  | _, _ => False
def KV {κ : Type} : List (κ × V) → List (κ × Value) → Prop := Paired fun (p : κ × V) (q : κ × Value) => p.1 = q.1 ∧ RelV p.2 q.2

/-- a key of a dict (00_mix): an int or a text -/
def kV : Key → V
  | .inl i => .int i
  | .inr x => .str x

/-- what stands at a tracked address -/
inductive HO where
  /-- a list -/
  | lst (xs : List V)
  /-- a tuple (never changes) -/
  | tup (xs : List V)
  /-- a dict whose keys are ints and texts; one whose keys are tuples of ints and texts (the empty one is both) -/
  | dK (kvs : List (Key × V)) | dT (kvs : List (List Key × V))
  /-- a set of ints: its members, its size -/
  | set (S : Int → Bool) (n : Nat)
  /-- an instance of the class at C, its dict at dx, its attributes -/
  | ins (C dx : Addr) (fs : List (Str × V))
  /-- the dict of the instance at x -/
  | own (x : Addr)
  /-- the dict of an exception -/
  | xd (fs : List (Str × V))
  /-- a bound method, f of x -/
  | met (f x : Addr)
  /-- a range object lo, lo + 1, .. below hi -/
  | rng (lo hi : Int)
  /-- a thing that is known to the object (the script; a dict while a loop walks it): read, never written while it is so -/
  | frz (o : Obj) (u : HO)
  /-- a code object's table -/
  | tbl (ps : Array Value)
  /-- any other thing, by what is true of its one object (a def of one's own: SetO a S n := HO.ext fun h => ..) -/
  | ext (φ : Heap → Prop)

abbrev Hp := Addr → Option HO
def upd (H : Hp) (a : Addr) (o : HO) : Hp := fun b => if b = a then some o else H b
theorem upd_same {H : Hp} {a : Addr} {o : HO} : upd H a o a = some o := by unfold upd; rw [if_pos rfl]
theorem upd_ne {H : Hp} {a b : Addr} {o : HO} (h : b ≠ a) : upd H a o b = H b := by unfold upd; rw [if_neg h]
theorem ne_of_none {H : Hp} {a b : Addr} {o : HO} (h : H a = some o) (h' : H b = none) : a ≠ b := by
  intro e; subst e; rw [h] at h'; cases h'

section
variable (P : Program) (w : World)
def ObjOk (H : Hp) (h : Heap) (a : Addr) : HO → Prop
  | .lst xs => xs.length ≤ sizeLine ∧ ∃ (its : List Value) (n : Nat), Vals xs its ∧ h.get? a = some { cls := .type "list", data := .seq its.toArray n }
  | .tup xs => xs.length ≤ sizeLine ∧ ∃ its : List Value, Vals xs its ∧ IsTup h a its.toArray
  | .dK kvs => kvs.length ≤ sizeLine ∧ (a == sysModules) = false ∧ ∃ vs, KV kvs vs ∧ h.DictOf (mixKind P w) a vs
  | .dT kvs => kvs.length ≤ sizeLine ∧ (a == sysModules) = false ∧ ∃ xs : List (List Key × Addr × Value),
      Paired (fun (p : List Key × V) (q : List Key × Addr × Value) => p.1 = q.1 ∧ H q.2.1 = some (.tup (p.1.map kV)) ∧ RelV p.2 q.2.2) kvs xs ∧
      ∃ o es ep, h.get? a = some o ∧ o.ExactDict ∧ o.data = .dict es ep ∧ es.toList = xs.map (entryOfKey (tupleKind (mixKind P w))) ∧ (xs.map (·.1)).Nodup
  | .set S n => h.SetOf (intKind P w) a S n
  | .ins C dx fs => H dx = some (.own a) ∧ fs.length ≤ 1000 ∧ dx ≠ a ∧ h.get? a = some (PySem.W.instObj C dx) ∧
      ∃ mA, h.Ns1 dx mA ∧ (∀ f, RelO (fs.lookup f) (mA f)) ∧ PySem.Within mA (fs.map (·.1))
  | .own _ => ∃ o, h.get? a = some o
  | .xd fs => ∃ mA, h.Ns1 a mA ∧ ∀ f, RelO (fs.lookup f) (mA f)
  | .rng lo hi => ∃ t u v, h.get? a = some { cls := .type "range", data := .fields #[.int lo t, .int hi u, .int 1 v] }
  | .frz o u => h.get? a = some o ∧ ObjOk H h a u
  | .tbl ps => h.get? a = some { cls := .none, data := .fields ps }
  | .met f x => h.get? a = some (PySem.W.methodObj (.ref f) (.ref x))
  | .ext φ => φ h ∧ (∃ o, h.get? a = some o) ∧ ∀ h1 h2 : Heap, φ h1 → (∀ o, h1.get? a = some o → h2.get? a = some o) → φ h2
/-- the abstract heap is held -/
def HOk (H : Hp) (h : Heap) : Prop := ∀ a o, H a = some o → ObjOk P w H h a o
end

section
variable {P : Program} {w : World} {H H' : Hp} {h h' : Heap} {a : Addr} {o : HO}
theorem ObjOk.lt (x : ObjOk P w H h a o) : a < h.objs.size := by
  cases o with
  | lst xs => obtain ⟨_, _, _, _, e⟩ := x; exact Heap.lt_size e
  | tup xs => obtain ⟨_, _, _, p⟩ := x; exact p.lt
  | dK kvs => obtain ⟨_, _, _, _, o, _, _, e, _⟩ := x; exact Heap.lt_size e
  | dT kvs => obtain ⟨_, _, _, _, o, _, _, e, _⟩ := x; exact Heap.lt_size e
  | set S n => obtain ⟨o, _, _, _, e, _⟩ := x; exact Heap.lt_size e
  | ins C dx fs => obtain ⟨_, _, _, e, _⟩ := x; exact Heap.lt_size e
  | own y => obtain ⟨_, e⟩ := x; exact Heap.lt_size e
  | xd fs => obtain ⟨_, ⟨_, _, _, e, _⟩, _⟩ := x; exact Heap.lt_size e
  | rng lo hi => obtain ⟨_, _, _, e⟩ := x; exact Heap.lt_size e
  | frz ob u => obtain ⟨e, _⟩ := x; exact Heap.lt_size e
  | tbl ps => exact Heap.lt_size (show h.get? a = some _ from x)
  | met f y => exact Heap.lt_size (show h.get? a = some _ from x)
  | ext φ => obtain ⟨_, ⟨_, e⟩, _⟩ := x; exact Heap.lt_size e
theorem Paired.mapP {α β : Type} {F G : α → β → Prop} : ∀ {l₁ : List α} {l₂ : List β}, Paired F l₁ l₂ → (∀ a b, F a b → G a b) → Paired G l₁ l₂
  | _, _, .nil, _ => .nil
  | _, _, .cons r t, f => .cons (f _ _ r) (Paired.mapP t f)
/-- what an object's description leans on: its own object, its own dict, the tuples -/
theorem ObjOk.stay (x : ObjOk P w H h a o) (k : ∀ b u, (b = a ∨ H b = some (.own a)) → h.get? b = some u → h'.get? b = some u)
    (ho : ∀ b, H b = some (.own a) → H' b = some (.own a)) (ht : ∀ b xs, H b = some (.tup xs) → H' b = some (.tup xs)) : ObjOk P w H' h' a o := by
  induction o with
  | lst xs => obtain ⟨z, its, n, r, e⟩ := x; exact ⟨z, its, n, r, k _ _ (.inl rfl) e⟩
  | tup xs => obtain ⟨z, its, r, ob, e, c⟩ := x; exact ⟨z, its, r, ob, k _ _ (.inl rfl) e, c⟩
  | dK kvs => obtain ⟨z, y, vs, r, ob, es, ep, e, c⟩ := x; exact ⟨z, y, vs, r, ob, es, ep, k _ _ (.inl rfl) e, c⟩
  | dT kvs =>
    obtain ⟨z, y, xs, r, ob, es, ep, e, c⟩ := x
    exact ⟨z, y, xs, Paired.mapP r fun p q z => ⟨z.1, ht _ _ z.2.1, z.2.2⟩, ob, es, ep, k _ _ (.inl rfl) e, c⟩
  | set S n => obtain ⟨ob, es, ep, t, e, c⟩ := x; exact ⟨ob, es, ep, t, k _ _ (.inl rfl) e, c⟩
  | ins C dx fs =>
    obtain ⟨d, z, ne, e, mA, ⟨od, es, ep, e2, c⟩, r⟩ := x
    exact ⟨ho _ d, z, ne, k _ _ (.inl rfl) e, mA, ⟨od, es, ep, k _ _ (.inr d) e2, c⟩, r⟩
  | own y => obtain ⟨ob, e⟩ := x; exact ⟨ob, k _ _ (.inl rfl) e⟩
  | xd fs => obtain ⟨mA, ⟨od, es, ep, e, c⟩, r⟩ := x; exact ⟨mA, ⟨od, es, ep, k _ _ (.inl rfl) e, c⟩, r⟩
  | rng lo hi => obtain ⟨t, u, v, e⟩ := x; exact ⟨t, u, v, k _ _ (.inl rfl) e⟩
  | frz ob u ih => obtain ⟨e, q⟩ := x; exact ⟨k _ _ (.inl rfl) e, ih q⟩
  | tbl ps =>
    have e : h.get? a = some { cls := .none, data := .fields ps } := x
    show h'.get? a = some { cls := .none, data := .fields ps }
    exact k a _ (.inl rfl) e
  | met f y =>
    have e : h.get? a = some (PySem.W.methodObj (.ref f) (.ref y)) := x
    show h'.get? a = some (PySem.W.methodObj (.ref f) (.ref y))
    exact k a _ (.inl rfl) e
  | ext φ => obtain ⟨p, ⟨o, e⟩, st⟩ := x; exact ⟨st _ _ p fun o q => k _ _ (.inl rfl) q, ⟨o, k _ _ (.inl rfl) e⟩, st⟩
theorem HOk.lt (x : HOk P w H h) (e : H a = some o) : a < h.objs.size := (x a o e).lt
theorem HOk.fresh (x : HOk P w H h) (e : h.objs.size ≤ a) : H a = none := by
  cases q : H a with
  | none => rfl
  | some u => exact absurd (Nat.lt_of_lt_of_le (x.lt q) e) (Nat.lt_irrefl _)
/-- every object of the heap is kept -/
theorem HOk.kept (x : HOk P w H h) (k : ∀ b u, h.get? b = some u → h'.get? b = some u) : HOk P w H h' := fun a o e =>
  (x a o e).stay (fun b u _ q => k b u q) (fun _ q => q) fun _ _ q => q
/-- a new object is laid and tracked -/
theorem HOk.laid (x : HOk P w H h) (k : ∀ b u, h.get? b = some u → h'.get? b = some u) (hp : h.objs.size ≤ a) (new : ObjOk P w (upd H a o) h' a o) : HOk P w (upd H a o) h' := fun b u e => by
  have hn := x.fresh hp
  by_cases hb : b = a
  · subst hb; rw [upd_same] at e; cases e; exact new
  · rw [upd_ne hb] at e
    exact (x b u e).stay (fun c v _ q => k c v q) (fun c q => by rw [upd_ne (ne_of_none q hn)]; exact q) fun c xs q => by rw [upd_ne (ne_of_none q hn)]; exact q
end

/-- what may be read as u: it is u, or a known u -/
def Rd (H : Hp) (a : Addr) (u : HO) : Prop := H a = some u ∨ ∃ o, H a = some (.frz o u)
theorem Rd.ok {P : Program} {w : World} {H : Hp} {h : Heap} {a : Addr} {u : HO} (r : Rd H a u) (x : HOk P w H h) : ObjOk P w H h a u := by
  rcases r with r | ⟨o, r⟩
  · exact x a u r
  · obtain ⟨_, q⟩ := x a _ r
    exact q
/-- what may be written -/
def Mut : Option HO → Prop
  | some (.lst _) => True
  | some (.dK _) => True
  | some (.dT _) => True
  | some (.set _ _) => True
  | some (.ins _ _ _) => True
  | some (.ext _) => True
  | _ => False
section
variable {P : Program} {w : World} {H : Hp} {h h' : Heap} {x e : Addr} {o' : HO}
/-- the object at e is changed: x itself, or the dict of the instance x -/
theorem HOk.write (ok : HOk P w H h) (mu : Mut (H x)) (he : e = x ∨ H e = some (.own x)) (k : ∀ b u, b ≠ e → h.get? b = some u → h'.get? b = some u) (heo : ∃ u, h'.get? e = some u)
    (new : ObjOk P w (upd H x o') h' x o') : HOk P w (upd H x o') h' := fun b u q => by
  have nown : ∀ c y, H c = some (.own y) → c ≠ x := fun c y r z => by subst z; rw [r] at mu; exact mu
  have ntup : ∀ c xs, H c = some (.tup xs) → c ≠ x := fun c xs r z => by subst z; rw [r] at mu; exact mu
  by_cases hb : b = x
  · subst hb; rw [upd_same] at q; cases q; exact new
  · rw [upd_ne hb] at q
    by_cases hbe : b = e
    · have q' : H b = some (.own x) := by
        rcases he with z | z
        · exact absurd (hbe.trans z) hb
        · rw [hbe]; exact z
      rw [q] at q'; cases q'
      obtain ⟨v, hv⟩ := heo
      exact ⟨v, by rw [hbe]; exact hv⟩
    · refine (ok b u q).stay (fun c v hc r => k c v ?_ r) (fun c r => by rw [upd_ne (nown c b r)]; exact r) fun c xs r => by rw [upd_ne (ntup c xs r)]; exact r
      rcases hc with rfl | hc
      · exact hbe
      · rintro rfl
        rcases he with z | z
        · exact nown c b hc z
        · rw [hc] at z; cases z; exact hb rfl
end

/-! ### kept unless tracked; of the frames at fs (the callers') the slots may change (an exception that passes writes there); of the records at ex (iterators) nothing is said -/
structure Un (fs ex : List Addr) (H H' : Hp) (h h' : Heap) : Prop where
  keep : ∀ b o, h.get? b = some o → H b = none → b ∉ fs → b ∉ ex → h'.get? b = some o
  slot : ∀ b o, h.get? b = some o → H b = none → b ∈ fs → b ∉ ex → ∃ sl, h'.get? b = some { o with slots := sl }
  free : ∀ b o, h.get? b = some o → H b = none → b ∉ ex → H' b = none
  there : ∀ b o, h.get? b = some o → b ∉ ex → ∃ o', h'.get? b = some o'
  tups : ∀ b xs, H b = some (.tup xs) → H' b = some (.tup xs)
  frzs : ∀ b o u, H b = some (.frz o u) → H' b = some (.frz o u)
  tbls : ∀ b ps, H b = some (.tbl ps) → ∃ more, H' b = some (.tbl (ps ++ more))
section
variable {fs fs' ex ex' : List Addr} {H H1 H2 : Hp} {h h1 h2 h' : Heap} {a x e : Addr} {o : HO}
theorem Un.any (u : Un fs ex H H1 h h1) {b : Addr} {ob : Obj} (q : h.get? b = some ob) (n : H b = none) (hx : b ∉ ex) : ∃ sl, h1.get? b = some { ob with slots := sl } := by
  by_cases hb : b ∈ fs
  · exact u.slot b ob q n hb hx
  · exact ⟨ob.slots, u.keep b ob q n hb hx⟩
theorem Un.kept (k : ∀ b u, h.get? b = some u → h'.get? b = some u) : Un fs ex H H h h' :=
  ⟨fun b ob q _ _ _ => k b ob q, fun b ob q _ _ _ => ⟨ob.slots, k b ob q⟩, fun _ _ _ n _ => n, fun b ob q _ => ⟨ob, k b ob q⟩, fun _ _ q => q, fun _ _ _ q => q, fun _ ps q => ⟨#[], by rw [q]; simp⟩⟩
theorem Un.refl : Un fs ex H H h h := Un.kept fun _ _ q => q
theorem Un.laid (k : ∀ b u, h.get? b = some u → h'.get? b = some u) (hp : h.objs.size ≤ a) (hn : H a = none) : Un fs ex H (upd H a o) h h' where
  keep := fun b u q _ _ _ => k b u q
  slot := fun b u q _ _ _ => ⟨u.slots, k b u q⟩
  free := fun b u q n _ => by rw [upd_ne (Nat.ne_of_lt (Nat.lt_of_lt_of_le (Heap.lt_size q) hp))]; exact n
  there := fun b u q _ => ⟨u, k b u q⟩
  tups := fun b xs q => by rw [upd_ne (ne_of_none q hn)]; exact q
  frzs := fun b u xs q => by rw [upd_ne (ne_of_none q hn)]; exact q
  tbls := fun b ps q => ⟨#[], by rw [upd_ne (ne_of_none q hn), q]; simp⟩
theorem Un.write (mu : Mut (H x)) (he : e = x ∨ H e = some (.own x)) (k : ∀ b u, b ≠ e → h.get? b = some u → h'.get? b = some u) (heo : ∃ u, h'.get? e = some u) : Un fs ex H (upd H x o) h h' := by
  have hx : ∀ b, H b = none → b ≠ x := fun b n z => by subst z; rw [n] at mu; exact mu
  have hb : ∀ b, H b = none → b ≠ e := fun b n z => by
    subst z
    rcases he with r | r
    · exact hx b n r
    · rw [n] at r; cases r
  have hm : ∀ b u, H b = some u → ¬ Mut (some u) → b ≠ x := fun b u q nm z => by subst z; rw [q] at mu; exact nm mu
  refine ⟨fun b u q n _ _ => k b u (hb b n) q, fun b u q n _ _ => ⟨u.slots, k b u (hb b n) q⟩, fun b u q n _ => by rw [upd_ne (hx b n)]; exact n, fun b u q _ => ?_,
    fun b xs q => by rw [upd_ne (hm b _ q fun z => z)]; exact q, fun b u xs q => by rw [upd_ne (hm b _ q fun z => z)]; exact q, fun b ps q => ⟨#[], by rw [upd_ne (hm b _ q fun z => z), q]; simp⟩⟩
  by_cases hbe : b = e
  · subst hbe; exact heo
  · exact ⟨u, k b u hbe q⟩
end

/-! ### the heap without what is tracked -/
def trk (h : Heap) (H : Hp) : List Addr := (List.range h.objs.size).filter fun a => (H a).isSome
def hidT (h : Heap) (H : Hp) : Heap := PySem.W.hideAll h (trk h H)
theorem hidT_size (h : Heap) (H : Hp) : (hidT h H).objs.size = h.objs.size := PySem.W.hideAll_size _ _
theorem hidT_get {h : Heap} {H : Hp} {b : Addr} {o : Obj} (e : h.get? b = some o) (n : H b = none) : (hidT h H).get? b = some o :=
  PySem.W.hideAll_get _ e fun hm => by
    have q : (H b).isSome = true := (List.mem_filter.mp hm).2
    rw [n] at q; simp at q
theorem of_hidT {h : Heap} {H : Hp} {b : Addr} {o : Obj} (e : (hidT h H).get? b = some o) : h.get? b = some o ∧ H b = none := by
  have e' : h.get? b = some o := PySem.W.of_hideAll (trk h H) e
  refine ⟨e', ?_⟩
  cases q : H b with
  | none => rfl
  | some x =>
    have hm : b ∈ trk h H := List.mem_filter.mpr ⟨List.mem_range.mpr (Heap.lt_size e'), by simp [q]⟩
    have z : (hidT h H).get? b = none := PySem.W.hideAll_none (trk h H) hm
    rw [z] at e; cases e

/-! ### OpenK's ledger, filled with every new object but one -/
def allNews (g h : Heap) (L : Addr) : List (Addr × Obj) := (List.range h.objs.size).filterMap fun a => if a = L ∨ (g.get? a).isSome = true then none else (h.get? a).map fun o => (a, o)
def rest (g h : Heap) (L d : Addr) : List (Addr × Obj) := (allNews g h L).filter fun p => decide (p.1 ≠ d)
end L2

namespace L2
open PySem PySem.Spec PyProof.Rows

/-- the module's facts, over the base: the heap at the law's entry without what is tracked there -/
structure Mod (K : PySem.W.Frag) (mg : Str → Option Value) (base : Heap) : Prop where
  kin : K.In base
  glob : base.Ns mainGlobals mg
  blt : ∃ mb, base.Ns builtinsNs mb ∧ ∀ x : Str, x ≠ "__name__" → mb x = bootBuiltins x
  nolimit : base.NoLimit

/-- the context: a def's body (or a comprehension's block) running. base: fixed through the whole law; s₀, H₀: the entry; outer: the frames whose slots others may change (a def's callers); stack: all frames that run;
   ex: iterators that were made ahead of the entry and are walked here (a comprehension's); fn: the names whose cells were made at the entry (a def: all; a comprehension's block: its own); calm: not within an except suite; pn: pins that every state bears; xe: what is wanted of an exception that leaves the code -/
structure Cx where
  prog : Program
  w : World
  K : PySem.W.Frag
  mg : Str → Option Value
  base : Heap
  A : Around
  N : List Str
  s₀ : Shared
  H₀ : Hp
  env : Env
  outer : List Env
  stack : List Env
  ex : List Addr
  fn : Str → Bool
  calm : Bool
  pn : List (Addr × Obj)
  xe : Value → Shared → Prop
/-- the callers' frames -/
def frs (l : List Env) : List Addr := l.filterMap (·.frame)
abbrev Cx.fs (X : Cx) : List Addr := frs X.outer

def Vis (sc : Scope) (x : Str) : Prop := sc.names.lookup x = some .local ∨ sc.names.lookup x = some .cell ∨ sc.names.lookup x = some .free
def Loc (sc : Scope) (x : Str) : Prop := sc.names.lookup x = some .local ∨ sc.names.lookup x = some .cell
def Look (env : Env) (h : Heap) (m : Str → Option Value) (x : Str) (u : Value) : Prop :=
  (env.kindOf x = some .local ∧ m x = some u) ∨ ((env.kindOf x = some .cell ∨ env.kindOf x = some .free) ∧ ∃ c, env.cells.lookup x = some c ∧ h.IsCell c (some u))

structure Cx.Ok (X : Cx) : Prop where
  mod : Mod X.K X.mg X.base
  kind : X.env.scope.kind = .function
  glob : X.env.globals = mainGlobals
  blt : X.env.builtins = builtinsNs
  above : X.s₀.heap.objs.size ≤ X.env.locals
  inj : ∀ x y c, X.env.cells.lookup x = some c → X.env.cells.lookup y = some c → x = y
  has : ∀ x, (X.env.kindOf x = some .cell ∨ X.env.kindOf x = some .free) → ∃ c, X.env.cells.lookup x = some c
  cab : ∀ x c, X.fn x = true → X.env.cells.lookup x = some c → X.s₀.heap.objs.size ≤ c
  hd : X.calm = true → X.A.handled = none
  frames : X.A.frames = some X.stack
  stk : X.stack = X.outer ∨ (X.stack = X.env :: X.outer ∧ X.env.frame = some X.env.locals)
  exf : ∀ b ∈ X.ex, b ≠ X.env.locals ∧ ∀ x c, X.env.cells.lookup x = some c → c ≠ b
  bs : ∀ b o, X.base.get? b = some o → X.s₀.heap.get? b = some o ∧ X.H₀ b = none
  bsz : X.base.objs.size ≤ X.s₀.heap.objs.size
  noex : ∀ b o, X.base.get? b = some o → b ∉ X.ex
  exfs : ∀ b ∈ X.ex, b ∉ X.fs
  funs : X.s₀.heap.FunFrames X.base X.outer
  frf : ∀ b ∈ X.fs, X.H₀ b = none

structure Inv (X : Cx) (pins : List (Addr × Obj)) (σ : List (Option V)) (H : Hp) (s : Shared) : Prop where
  ok : X.Ok
  os : s.os = X.s₀.os
  bare : AllBare s.gens
  base : Un X.fs X.ex X.H₀ H X.s₀.heap s.heap
  loc : ∃ m, s.heap.Ns X.env.locals m ∧ ∀ (i : Nat) (x : Str) (v : V), X.N[i]? = some x → σ[i]? = some (some v) → Vis X.env.scope x → ∃ u, RelV v u ∧ Look X.env s.heap m x u
  cell : ∀ x c, X.env.cells.lookup x = some c → ∃ v, s.heap.IsCell c v
  free : H X.env.locals = none
  freeC : ∀ x c, X.env.cells.lookup x = some c → H c = none
  pin : ∀ p ∈ X.pn ++ pins, s.heap.get? p.1 = some p.2 ∧ H p.1 = none ∧ p.1 ≠ X.env.locals ∧ p.1 ∉ X.fs ∧ ∀ v, p.2.data ≠ .cell v
  hok : HOk X.prog X.w H s.heap
  len : σ.length = X.N.length

section
variable {X : Cx} {pins : List (Addr × Obj)} {σ : List (Option V)} {H H' : Hp} {s : Shared} {h' : Heap}

theorem Cx.Ok.nofr (ok : X.Ok) {b : Addr} {o : Obj} (e : X.base.get? b = some o) : b ∉ X.fs := fun hb => by
  have := (ok.funs.mem hb).1
  rw [e] at this; cases this
theorem Inv.bs (I : Inv X pins σ H s) : ∀ b o, X.base.get? b = some o → s.heap.get? b = some o ∧ H b = none := fun b o e =>
  ⟨I.base.keep b o (I.ok.bs b o e).1 (I.ok.bs b o e).2 (I.ok.nofr e) (I.ok.noex b o e), I.base.free b o (I.ok.bs b o e).1 (I.ok.bs b o e).2 (I.ok.noex b o e)⟩
theorem Inv.bk (I : Inv X pins σ H s) : ∀ b o, X.base.get? b = some o → s.heap.get? b = some o := fun b o e => (I.bs b o e).1
theorem Inv.mod (I : Inv X pins σ H s) : Mod X.K X.mg X.base := I.ok.mod
theorem Inv.kIn (I : Inv X pins σ H s) : X.K.In s.heap := I.ok.mod.kin.keeps I.bk
theorem Inv.lt (I : Inv X pins σ H s) : X.env.locals < s.heap.objs.size := let ⟨_, hn, _⟩ := I.loc; hn.lt
theorem Inv.sz (I : Inv X pins σ H s) : X.s₀.heap.objs.size ≤ s.heap.objs.size := Nat.le_trans I.ok.above (Nat.le_of_lt I.lt)
theorem Inv.nofs (I : Inv X pins σ H s) {a : Addr} (h : s.heap.objs.size ≤ a) : a ∉ X.fs := fun hb => by
  obtain ⟨_, o, ho, _⟩ := I.ok.funs.mem hb
  exact absurd (Nat.lt_of_lt_of_le (Heap.lt_size ho) (Nat.le_trans I.sz h)) (Nat.lt_irrefl _)
theorem Inv.cne (I : Inv X pins σ H s) : ∀ x c, X.env.cells.lookup x = some c → c ≠ X.env.locals := fun x c e z => by
  obtain ⟨v, o, ho, hd⟩ := I.cell x c e
  obtain ⟨m, ⟨o', es, ep, ho', hd', _⟩, _⟩ := I.loc
  rw [z, ho'] at ho; cases ho; rw [hd'] at hd; cases hd
theorem Inv.funs (I : Inv X pins σ H s) : s.heap.FunFrames X.base X.outer := by
  have all : ∀ (l : List Env), (∀ b ∈ frs l, b ∈ X.fs) → X.s₀.heap.FunFrames X.base l → s.heap.FunFrames X.base l := by
    intro l
    induction l with
    | nil => intro _ _; trivial
    | cons env r ih =>
      intro hs hl
      obtain ⟨hk, ⟨L, o, hf, hn, ho, hd⟩, hr⟩ := hl
      have hL : L ∈ X.fs := hs L (by unfold frs; rw [List.filterMap_cons, hf]; exact List.mem_cons_self)
      obtain ⟨sl, e⟩ := I.base.slot L o ho (I.ok.frf L hL) hL fun z => I.ok.exfs L z hL
      exact ⟨hk, ⟨L, _, hf, hn, e, hd⟩, ih (fun b hb => hs b (by unfold frs; rw [List.filterMap_cons, hf]; exact List.mem_cons_of_mem _ hb)) hr⟩
  exact all X.outer (fun _ hb => hb) I.ok.funs

/-- the frames that run, for a call -/
theorem Inv.stack (I : Inv X pins σ H s) : s.heap.FunFrames X.base X.stack := by
  rcases I.ok.stk with e | ⟨e, hf⟩
  · rw [e]; exact I.funs
  · rw [e]
    obtain ⟨m, hn, _⟩ := I.loc
    refine .cons (by rw [I.ok.kind]; decide) hf hn ?_ I.funs
    exact Heap.get?_none_of_le (Nat.le_trans I.ok.bsz I.ok.above)
theorem Inv.stkSub (I : Inv X pins σ H s) : ∀ b ∈ frs X.stack, b ∈ X.env.locals :: X.fs := fun b hb => by
  rcases I.ok.stk with e | ⟨e, hf⟩
  · rw [e] at hb; exact List.mem_cons_of_mem _ hb
  · rw [e] at hb
    unfold frs at hb
    rw [List.filterMap_cons, hf] at hb
    exact hb
theorem Inv.stkFree (I : Inv X pins σ H s) : ∀ b ∈ frs X.stack, H b = none := fun b hb => by
  rcases List.mem_cons.mp (I.stkSub b hb) with e | hb
  · rw [e]; exact I.free
  · obtain ⟨_, o, ho, _⟩ := I.ok.funs.mem hb
    exact I.base.free b o ho (I.ok.frf b hb) fun z => I.ok.exfs b z hb

/-- THE STEP: the untracked objects but the frame and the records at ch are kept (the callers' frames up to slots), the frame's map is kept, the new abstract heap is held -/
theorem Inv.step {g' : Array GenState} {t' : Nat} {d' : Drawn} {ch : List Addr} (I : Inv X pins σ H s)
    (hch : ∀ b ∈ ch, (b ∈ X.ex ∨ X.s₀.heap.objs.size ≤ b) ∧ b ≠ X.env.locals ∧ (∀ x c, X.env.cells.lookup x = some c → c ≠ b) ∧ ∀ p ∈ X.pn ++ pins, p.1 ≠ b)
    (keep : ∀ b o, b ≠ X.env.locals → b ∉ X.fs → b ∉ ch → s.heap.get? b = some o → H b = none → h'.get? b = some o)
    (slot : ∀ b o, b ≠ X.env.locals → b ∈ X.fs → b ∉ ch → s.heap.get? b = some o → H b = none → ∃ sl, h'.get? b = some { o with slots := sl }) (free : ∀ b o, b ∉ ch → s.heap.get? b = some o → H b = none → H' b = none)
    (there : ∀ b o, b ∉ ch → s.heap.get? b = some o → ∃ o', h'.get? b = some o')
    (tups : ∀ b xs, H b = some (.tup xs) → H' b = some (.tup xs)) (frzs : ∀ b o u, H b = some (.frz o u) → H' b = some (.frz o u)) (tbls : ∀ b ps, H b = some (.tbl ps) → ∃ more, H' b = some (.tbl (ps ++ more)))
    (ns : ∀ m, s.heap.Ns X.env.locals m → h'.Ns X.env.locals m) (hok : HOk X.prog X.w H' h') (hg : AllBare g') :
    Inv X pins σ H' { s with heap := h', gens := g', drawn := d', toks := t' } := by
  have neL : ∀ b o, X.s₀.heap.get? b = some o → b ≠ X.env.locals := fun b o e => Nat.ne_of_lt (Nat.lt_of_lt_of_le (Heap.lt_size e) I.ok.above)
  have neC : ∀ b o, X.s₀.heap.get? b = some o → b ∉ X.ex → b ∉ ch := fun b o e hx hb => by
    rcases (hch b hb).1 with z | z
    · exact hx z
    · exact absurd (Nat.lt_of_lt_of_le (Heap.lt_size e) z) (Nat.lt_irrefl _)
  have cellK : ∀ x c, X.env.cells.lookup x = some c → ∀ v, s.heap.IsCell c v → h'.IsCell c v := fun x c e v ⟨o, ho, hd⟩ => by
    have nch : c ∉ ch := fun z => (hch c z).2.2.1 x c e rfl
    by_cases hc : c ∈ X.fs
    · obtain ⟨sl, q⟩ := slot c o (I.cne x c e) hc nch ho (I.freeC x c e)
      exact ⟨_, q, hd⟩
    · exact ⟨o, keep c o (I.cne x c e) hc nch ho (I.freeC x c e), hd⟩
  refine ⟨I.ok, I.os, hg, ⟨fun b o e n hb hx => ?_, fun b o e n hb hx => ?_, fun b o e n hx => ?_, fun b o e hx => ?_, fun b xs e => tups b xs (I.base.tups b xs e), fun b o xs e => frzs b o xs (I.base.frzs b o xs e), fun b ps e => ?_⟩, ?_, fun x c e => ?_, ?_, fun x c e => ?_, fun p hp => ?_, hok, I.len⟩
  · exact keep b o (neL b o e) hb (neC b o e hx) (I.base.keep b o e n hb hx) (I.base.free b o e n hx)
  · obtain ⟨sl, e1⟩ := I.base.slot b o e n hb hx
    obtain ⟨sl', e2⟩ := slot b _ (neL b o e) hb (neC b o e hx) e1 (I.base.free b o e n hx)
    exact ⟨sl', e2⟩
  · obtain ⟨o', e1⟩ := I.base.there b o e hx
    exact free b o' (neC b o e hx) e1 (I.base.free b o e n hx)
  · obtain ⟨o', e1⟩ := I.base.there b o e hx
    exact there b o' (neC b o e hx) e1
  · obtain ⟨m1, e1⟩ := I.base.tbls b ps e
    obtain ⟨m2, e2⟩ := tbls b _ e1
    exact ⟨m1 ++ m2, by rw [e2, Array.append_assoc]⟩
  · obtain ⟨m, hn, hl⟩ := I.loc
    refine ⟨m, ns m hn, fun i x v e1 e2 e3 => ?_⟩
    obtain ⟨u, r, l⟩ := hl i x v e1 e2 e3
    refine ⟨u, r, ?_⟩
    rcases l with l | ⟨k, c, e, z⟩
    · exact .inl l
    · exact .inr ⟨k, c, e, cellK x c e _ z⟩
  · obtain ⟨v, z⟩ := I.cell x c e
    exact ⟨v, cellK x c e v z⟩
  · obtain ⟨m, ⟨o, _, _, ho, _⟩, _⟩ := I.loc
    exact free _ o (fun z => (hch _ z).2.1 rfl) ho I.free
  · obtain ⟨v, o, ho, hd⟩ := I.cell x c e
    exact free c o (fun z => (hch c z).2.2.1 x c e rfl) ho (I.freeC x c e)
  · obtain ⟨e, n, ne, nf, d⟩ := I.pin p hp
    have nch : p.1 ∉ ch := fun z => (hch p.1 z).2.2.2 p hp rfl
    exact ⟨keep p.1 p.2 ne nf nch e n, free p.1 p.2 nch e n, ne, nf, d⟩
/-- .. where the frame's own object is kept too -/
theorem Inv.un {t' : Nat} (I : Inv X pins σ H s) (u : Un X.fs [] H H' s.heap h') (hok : HOk X.prog X.w H' h') : Inv X pins σ H' { s with heap := h', toks := t' } := by
  obtain ⟨m, ⟨o, es, ep, ho, r⟩, _⟩ := id I.loc
  obtain ⟨sl, hL⟩ := u.any ho I.free (by simp)
  exact I.step (g' := s.gens) (d' := s.drawn) (ch := []) (fun _ z => nomatch z) (fun b o _ hb _ e n => u.keep b o e n hb (by simp)) (fun b o _ hb _ e n => u.slot b o e n hb (by simp)) (fun b o _ e n => u.free b o e n (by simp)) (fun b o _ e => u.there b o e (by simp)) u.tups u.frzs u.tbls (fun m' hm => by
    obtain ⟨o', es', ep', ho', r'⟩ := hm
    rw [ho] at ho'; cases ho'
    exact ⟨_, es', ep', hL, r'⟩) hok I.bare
/-- behind a call (or a comprehension's block): the slots of this frame may have changed too, the records at ch may have turned -/
theorem Inv.call {g' : Array GenState} {t' : Nat} {d' : Drawn} {ch : List Addr} (I : Inv X pins σ H s) (u : Un (frs X.stack) ch H H' s.heap h') (hok : HOk X.prog X.w H' h') (hg : AllBare g')
    (hch : ∀ b ∈ ch, (b ∈ X.ex ∨ X.s₀.heap.objs.size ≤ b) ∧ b ≠ X.env.locals ∧ (∀ x c, X.env.cells.lookup x = some c → c ≠ b) ∧ ∀ p ∈ X.pn ++ pins, p.1 ≠ b) :
    Inv X pins σ H' { s with heap := h', gens := g', drawn := d', toks := t' } := by
  obtain ⟨m, ⟨o, es, ep, ho, r⟩, _⟩ := id I.loc
  obtain ⟨sl, hL⟩ := u.any ho I.free fun z => (hch _ z).2.1 rfl
  exact I.step (ch := ch) hch (fun b o hL hb hc e n => u.keep b o e n (fun z => (List.mem_cons.mp (I.stkSub b z)).elim hL hb) hc) (fun b o _ _ hc e n => u.any e n hc) (fun b o hc e n => u.free b o e n hc) (fun b o hc e => u.there b o e hc) u.tups u.frzs u.tbls (fun m' hm => by
    obtain ⟨o', es', ep', ho', r'⟩ := hm
    rw [ho] at ho'; cases ho'
    exact ⟨_, es', ep', hL, r'⟩) hok hg
/-- an untracked record of ours (an iterator) has turned -/
theorem Inv.turned {t' : Nat} {it : Addr} (I : Inv X pins σ H s) (k : ∀ b o, b ≠ it → s.heap.get? b = some o → h'.get? b = some o) (hn : H it = none) (hL : it ≠ X.env.locals)
    (h1 : it ∈ X.ex ∨ X.s₀.heap.objs.size ≤ it) (h2 : ∀ x c, X.env.cells.lookup x = some c → c ≠ it) (h3 : ∀ p ∈ X.pn ++ pins, p.1 ≠ it) : Inv X pins σ H { s with heap := h', toks := t' } := by
  have nit : ∀ b u, H b = some u → b ≠ it := fun b u e z => by rw [z, hn] at e; cases e
  refine I.step (g' := s.gens) (d' := s.drawn) (ch := [it]) (fun b hb => ?_) (fun b o _ _ hc e _ => k b o (fun z => hc (by simp [z])) e) (fun b o _ _ hc e _ => ⟨o.slots, k b o (fun z => hc (by simp [z])) e⟩) (fun _ _ _ _ n => n)
    (fun b o hc e => ⟨o, k b o (fun z => hc (by simp [z])) e⟩) (fun _ _ e => e) (fun _ _ _ e => e) (fun b ps e => ⟨#[], by rw [e]; simp⟩) (fun m hm => ?_) (fun b u e => ?_) I.bare
  · have e : b = it := by simpa using hb
    subst e
    exact ⟨h1, hL, h2, h3⟩
  · obtain ⟨o, es, ep, ho, r⟩ := hm
    exact ⟨o, es, ep, k _ o (Ne.symm hL) ho, r⟩
  · refine (I.hok b u e).stay (fun c v hc q => k c v ?_ q) (fun _ q => q) fun _ _ q => q
    rcases hc with z | z
    · rw [z]; exact nit b u e
    · exact nit c _ z
theorem Inv.tok (I : Inv X pins σ H s) (t : Nat) : Inv X pins σ H { s with toks := t } := I.un (h' := s.heap) (t' := t) Un.refl I.hok
/-- all objects kept -/
theorem Inv.kept {t' : Nat} (I : Inv X pins σ H s) (k : ∀ b u, s.heap.get? b = some u → h'.get? b = some u) : Inv X pins σ H { s with heap := h', toks := t' } := I.un (Un.kept k) (I.hok.kept k)
/-- a new object laid and tracked -/
theorem Inv.laid {a : Addr} {o : HO} {t' : Nat} (I : Inv X pins σ H s) (k : ∀ b u, s.heap.get? b = some u → h'.get? b = some u) (hp : s.heap.objs.size ≤ a) (new : ObjOk X.prog X.w (upd H a o) h' a o) :
    Inv X pins σ (upd H a o) { s with heap := h', toks := t' } := I.un (Un.laid k hp (I.hok.fresh hp)) (I.hok.laid k hp new)
/-- an object written -/
theorem Inv.write {x e : Addr} {o : HO} {t' : Nat} (I : Inv X pins σ H s) (mu : Mut (H x)) (he : e = x ∨ H e = some (.own x)) (k : ∀ b u, b ≠ e → s.heap.get? b = some u → h'.get? b = some u) (heo : ∃ u, h'.get? e = some u)
    (new : ObjOk X.prog X.w (upd H x o) h' x o) : Inv X pins σ (upd H x o) { s with heap := h', toks := t' } := I.un (Un.write mu he k heo) (I.hok.write mu he k heo new)
theorem Inv.pins_of {pins' : List (Addr × Obj)} (I : Inv X pins σ H s) (h : ∀ p ∈ pins', s.heap.get? p.1 = some p.2 ∧ H p.1 = none ∧ p.1 ≠ X.env.locals ∧ p.1 ∉ X.fs ∧ ∀ v, p.2.data ≠ .cell v) : Inv X pins' σ H s :=
  ⟨I.ok, I.os, I.bare, I.base, I.loc, I.cell, I.free, I.freeC, fun p hp => (List.mem_append.mp hp).elim (fun z => I.pin p (List.mem_append_left _ z)) (h p), I.hok, I.len⟩

theorem nodup_ix {N : List Str} (hN : N.Nodup) {i j : Nat} {x : Str} (a : N[i]? = some x) (b : N[j]? = some x) : i = j := by
  obtain ⟨h1, e1⟩ := List.getElem?_eq_some_iff.mp a
  obtain ⟨h2, e2⟩ := List.getElem?_eq_some_iff.mp b
  exact (List.getElem_inj hN).mp (e1.trans e2.symm)

/-- a name is stored; what changed -/
theorem store_ok2 {M : Model} {A : Around} {E : Value → Shared → Prop} {i : Nat} {x : Str} {v : V} {u : Value} {Q : Unit → Shared → Prop} (I : Inv X pins σ H s) (hN : X.N.Nodup) (hi : X.N[i]? = some x) (hx : Loc X.env.scope x) (r : RelV v u)
    (h : ∀ s', Inv X pins (σ.set i (some v)) H s' → (∃ a, Heap.SameBut a s.heap s'.heap ∧ (a = X.env.locals ∨ X.env.cells.lookup x = some a)) → Q () s') (hf : X.fn x = true ∨ X.env.scope.names.lookup x = some .local := by first | exact .inl rfl | exact .inr rfl | assumption) : wpAny M A (storeName X.env x u) Q E s := by
  obtain ⟨m, hn, hl⟩ := id I.loc
  have hcls : (X.env.scope.kind == .class || (X.env.scope.kind == .module && X.env.locals != X.env.globals)) = false := by rw [I.ok.kind]; rfl
  have hiσ : i < σ.length := by rw [I.len]; exact (List.getElem?_eq_some_iff.mp hi).1
  have cne := I.cne
  have tracked : ∀ {a : Addr} {h' : Heap}, (∃ o, s.heap.get? a = some o ∧ H a = none) → Heap.SameBut a s.heap h' → HOk X.prog X.w H h' := fun {a h'} ha hs b ob e => by
    obtain ⟨_, _, hfree⟩ := ha
    refine (I.hok b ob e).stay (fun c w' hc q => (hs.2 c ?_).trans q) (fun _ q => q) fun _ _ q => q
    rintro rfl
    rcases hc with rfl | hc
    · rw [hfree] at e; cases e
    · rw [hfree] at hc; cases hc
  rcases hx with hk | hk
  · refine wpAny_storeName_local hk hn (fun h' hn' hs => ?_) hcls
    obtain ⟨oL, _, _, hoL, _⟩ := id hn
    refine h _ ⟨I.ok, I.os, I.bare, ⟨fun b o e n hb hx => ?_, fun b o e n hb hx => ?_, I.base.free, fun b o e hx => ?_, I.base.tups, I.base.frzs, I.base.tbls⟩, ⟨_, hn', fun j y v' e1 e2 e3 => ?_⟩, fun y c e => ?_, I.free, I.freeC, fun p hp => ?_, tracked ⟨oL, hoL, I.free⟩ hs, by simpa using I.len⟩ ⟨_, hs, .inl rfl⟩
    · exact (hs.2 b (Nat.ne_of_lt (Nat.lt_of_lt_of_le (Heap.lt_size e) I.ok.above))).trans (I.base.keep b o e n hb hx)
    · obtain ⟨sl, e1⟩ := I.base.slot b o e n hb hx
      exact ⟨sl, (hs.2 b (Nat.ne_of_lt (Nat.lt_of_lt_of_le (Heap.lt_size e) I.ok.above))).trans e1⟩
    · obtain ⟨o', e1⟩ := I.base.there b o e hx
      exact ⟨o', (hs.2 b (Nat.ne_of_lt (Nat.lt_of_lt_of_le (Heap.lt_size e) I.ok.above))).trans e1⟩
    · by_cases hj : j = i
      · subst hj
        rw [hi] at e1; cases e1
        rw [List.getElem?_set_self hiσ] at e2
        cases e2
        exact ⟨u, r, .inl ⟨hk, by simp⟩⟩
      · rw [List.getElem?_set_ne (Ne.symm hj)] at e2
        obtain ⟨u', r', q⟩ := hl j y v' e1 e2 e3
        refine ⟨u', r', ?_⟩
        rcases q with ⟨k, e⟩ | ⟨k, c, e, z⟩
        · refine .inl ⟨k, ?_⟩
          have : y ≠ x := fun e => hj (nodup_ix hN e1 (e ▸ hi))
          simp [this, e]
        · exact .inr ⟨k, c, e, z.sameBut hs (cne y c e)⟩
    · obtain ⟨w', z⟩ := I.cell y c e
      exact ⟨w', z.sameBut hs (cne y c e)⟩
    · obtain ⟨e, n, ne, nf, d⟩ := I.pin p hp
      exact ⟨(hs.2 p.1 ne).trans e, n, ne, nf, d⟩
  · have hfn : X.fn x = true := by
      rcases hf with z | z
      · exact z
      · rw [z] at hk; cases hk
    obtain ⟨c, hc⟩ := I.ok.has x (.inl hk)
    obtain ⟨w', z⟩ := I.cell x c hc
    refine wpAny_storeName_cell I.ok.kind hk hc z (fun h' hc' hs => ?_)
    obtain ⟨oc, hoc, hocd⟩ := id z
    refine h { s with heap := h' } ⟨I.ok, I.os, I.bare, ⟨fun b o e n hb hx => ?_, fun b o e n hb hx => ?_, I.base.free, fun b o e hx => ?_, I.base.tups, I.base.frzs, I.base.tbls⟩, ⟨m, hn.sameBut hs (Ne.symm (cne x c hc)), fun j y v' e1 e2 e3 => ?_⟩, fun y c' e => ?_, I.free, I.freeC, fun p hp => ?_, tracked ⟨oc, hoc, I.freeC x c hc⟩ hs, by simpa using I.len⟩ ⟨c, hs, .inr hc⟩
    · exact (hs.2 b (Nat.ne_of_lt (Nat.lt_of_lt_of_le (Heap.lt_size e) (I.ok.cab x c hfn hc)))).trans (I.base.keep b o e n hb hx)
    · obtain ⟨sl, e1⟩ := I.base.slot b o e n hb hx
      exact ⟨sl, (hs.2 b (Nat.ne_of_lt (Nat.lt_of_lt_of_le (Heap.lt_size e) (I.ok.cab x c hfn hc)))).trans e1⟩
    · obtain ⟨o', e1⟩ := I.base.there b o e hx
      exact ⟨o', (hs.2 b (Nat.ne_of_lt (Nat.lt_of_lt_of_le (Heap.lt_size e) (I.ok.cab x c hfn hc)))).trans e1⟩
    · by_cases hj : j = i
      · subst hj
        rw [hi] at e1; cases e1
        rw [List.getElem?_set_self hiσ] at e2
        cases e2
        exact ⟨u, r, .inr ⟨.inl hk, c, hc, hc'⟩⟩
      · rw [List.getElem?_set_ne (Ne.symm hj)] at e2
        obtain ⟨u', r', q⟩ := hl j y v' e1 e2 e3
        refine ⟨u', r', ?_⟩
        rcases q with q | ⟨k, c', e, z'⟩
        · exact .inl q
        · refine .inr ⟨k, c', e, z'.sameBut hs ?_⟩
          rintro rfl
          exact hj (nodup_ix hN e1 (I.ok.inj _ _ _ e hc ▸ hi))
    · by_cases hcc : c' = c
      · subst hcc; exact ⟨_, hc'⟩
      · obtain ⟨w2, z2⟩ := I.cell y c' e
        exact ⟨w2, z2.sameBut hs hcc⟩
    · obtain ⟨e, n, ne, nf, d⟩ := I.pin p hp
      refine ⟨(hs.2 p.1 ?_).trans e, n, ne, nf, d⟩
      intro q
      rw [q, hoc] at e
      have q' : oc = p.2 := Option.some.inj e
      exact d w' (by rw [← q']; exact hocd)
theorem store_ok {M : Model} {A : Around} {E : Value → Shared → Prop} {i : Nat} {x : Str} {v : V} {u : Value} {Q : Unit → Shared → Prop} (I : Inv X pins σ H s) (hN : X.N.Nodup) (hi : X.N[i]? = some x) (hx : Loc X.env.scope x) (r : RelV v u)
    (h : ∀ s', Inv X pins (σ.set i (some v)) H s' → Q () s') (hf : X.fn x = true ∨ X.env.scope.names.lookup x = some .local := by first | exact .inl rfl | exact .inr rfl | assumption) : wpAny M A (storeName X.env x u) Q E s :=
  store_ok2 I hN hi hx r (fun s' I' _ => h s' I') hf
/-- behind a call or a block, the state as it is -/
theorem Inv.call' {s' : Shared} {ch : List Addr} (I : Inv X pins σ H s) (ho : s'.os = s.os) (u : Un (frs X.stack) ch H H' s.heap s'.heap) (hok : HOk X.prog X.w H' s'.heap) (hg : AllBare s'.gens)
    (hch : ∀ b ∈ ch, (b ∈ X.ex ∨ X.s₀.heap.objs.size ≤ b) ∧ b ≠ X.env.locals ∧ (∀ x c, X.env.cells.lookup x = some c → c ≠ b) ∧ ∀ p ∈ X.pn ++ pins, p.1 ≠ b) : Inv X pins σ H' s' := by
  obtain ⟨h', g', d', t', o'⟩ := s'
  have e : o' = s.os := ho
  subst e
  exact I.call (g' := g') (t' := t') (d' := d') u hok hg hch
end

/-! ### the judgements -/
/-- an exception: its class, its own dict's address (where it has one), the abstract heap behind it -/
abbrev XK := Value → Option Addr → Hp → Prop
abbrev St := List (Option V)
abbrev VK := V → Hp → Prop
/-- an expression's reading; a test's; an argument list's -/
abbrev TE := St → Hp → VK → Prop
abbrev TT := St → Hp → (Bool → Hp → Prop) → Prop
abbrev TA := St → Hp → (List V → Hp → Prop) → Prop
/-- what is wanted behind a statement -/
structure Ends where
  nx : St → Hp → Prop
  rt : VK
  bk : St → Hp → Prop := fun _ _ => False
  ct : St → Hp → Prop := fun _ _ => False
abbrev TS := Ends → St → Hp → Prop

def EP (X : Cx) (pins : List (Addr × Obj)) (σ : St) (Q : VK) (u : Value) (s' : Shared) : Prop := ∃ v H', Inv X pins σ H' s' ∧ RelV v u ∧ Q v H'
def TP (X : Cx) (pins : List (Addr × Obj)) (σ : St) (Q : Bool → Hp → Prop) (b : Bool) (s' : Shared) : Prop := ∃ H', Inv X pins σ H' s' ∧ Q b H'
def AP (X : Cx) (pins : List (Addr × Obj)) (σ : St) (Q : List V → Hp → Prop) (us : List Value) (s' : Shared) : Prop := ∃ vs H', Inv X pins σ H' s' ∧ Vals vs us ∧ Q vs H'
def SP (X : Cx) (pins : List (Addr × Obj)) (D : Ends) (f : Flow) (s' : Shared) : Prop :=
  match f with
  | .next => ∃ σ' H', Inv X pins σ' H' s' ∧ D.nx σ' H'
  | .brk => ∃ σ' H', Inv X pins σ' H' s' ∧ D.bk σ' H'
  | .cont => ∃ σ' H', Inv X pins σ' H' s' ∧ D.ct σ' H'
  | .ret u => ∃ v σ' H', Inv X pins σ' H' s' ∧ RelV v u ∧ D.rt v H'

def PE (X : Cx) (e : Expr) (t : TE) : Prop :=
  ∀ (pins : List (Addr × Obj)) (s : Shared) (σ : St) (H : Hp) (Q : VK), Inv X pins σ H s → t σ H Q → wpAny (model X.prog X.w) X.A (eval e X.env) (EP X pins σ Q) X.xe s
def PT (X : Cx) (e : Expr) (t : TT) : Prop :=
  ∀ (pins : List (Addr × Obj)) (s : Shared) (σ : St) (H : Hp) (Q : Bool → Hp → Prop), Inv X pins σ H s → t σ H Q → wpAny (model X.prog X.w) X.A (isTrue e X.env (eval e X.env)) (TP X pins σ Q) X.xe s
/-- a test whatever its 'whole' is (and, or) -/
def PW (X : Cx) (e : Expr) (t : TT) : Prop :=
  ∀ (whole : Sem Value) (pins : List (Addr × Obj)) (s : Shared) (σ : St) (H : Hp) (Q : Bool → Hp → Prop), Inv X pins σ H s → t σ H Q → wpAny (model X.prog X.w) X.A (isTrue e X.env whole) (TP X pins σ Q) X.xe s
theorem PW.pt {X : Cx} {e : Expr} {t : TT} (h : PW X e t) : PT X e t := h _
/-- an argument list (no star), from the left -/
def PA (X : Cx) (es : List Expr) (t : TA) : Prop :=
  ∀ (pos : Pos) (pins : List (Addr × Obj)) (s : Shared) (σ : St) (H : Hp) (Q : List V → Hp → Prop), Inv X pins σ H s → t σ H Q → wpAny (model X.prog X.w) X.A (spliced (backTo pos (starEach es X.env))) (AP X pins σ Q) X.xe s
def PS (X : Cx) (st : Stmt) (t : TS) : Prop :=
  ∀ (pins : List (Addr × Obj)) (s : Shared) (σ : St) (H : Hp) (D : Ends), Inv X pins σ H s → t D σ H → wpAny (model X.prog X.w) X.A (exec st X.env) (SP X pins D) X.xe s
def PSs (X : Cx) (st : List Stmt) (t : TS) : Prop :=
  ∀ (pins : List (Addr × Obj)) (s : Shared) (σ : St) (H : Hp) (D : Ends), Inv X pins σ H s → t D σ H → wpAny (model X.prog X.w) X.A (execs st X.env) (SP X pins D) X.xe s
/-- weaken the end -/
theorem thn {α : Type} {t : Sem α} {Q Q' : α → Shared → Prop} {M : Model} {A : Around} {E : Value → Shared → Prop} {s : Shared} (h : wpAny M A t Q E s) (hQ : ∀ a s, Q a s → Q' a s) : wpAny M A t Q' E s := wpAny_mono h hQ fun _ _ x => x
end L2

namespace L2
open PySem PySem.Spec PyProof.Rows
section
variable {X : Cx}

/-- two expressions in a row -/
theorem bin {a b : Expr} {ta tb : TE} (ha : PE X a ta) (hb : PE X b tb) {pins : List (Addr × Obj)} {s : Shared} {σ : St} {H : Hp} {R : V → V → Hp → Prop} (I : Inv X pins σ H s) (h : ta σ H fun x H1 => tb σ H1 fun y H2 => R x y H2)
    {α : Type} {Q : α → Shared → Prop} {f : Value → Value → Sem α}
    (hf : ∀ v u s2 x y H2, Inv X pins σ H2 s2 → RelV x v → RelV y u → R x y H2 → wpAny (model X.prog X.w) X.A (f v u) Q X.xe s2) :
    wpAny (model X.prog X.w) X.A (eval a X.env) (fun v s₁ => wpAny (model X.prog X.w) X.A (eval b X.env) (fun u s₂ => wpAny (model X.prog X.w) X.A (f v u) Q X.xe s₂) X.xe s₁) X.xe s := by
  refine thn (ha pins s σ H _ I h) fun v s1 ⟨x, H1, I1, r1, q1⟩ => ?_
  refine thn (hb pins s1 σ H1 _ I1 q1) fun u s2 ⟨y, H2, I2, r2, q2⟩ => ?_
  exact hf v u s2 x y H2 I2 r1 r2 q2

/-! ### names and constants -/
def tVar (i : Nat) : TE := fun σ H Q => ∃ v, σ[i]? = some (some v) ∧ Q v H
def tC (v : V) : TE := fun _ H Q => Q v H
theorem pe_var {i : Nat} {x : Str} {pos : Pos} (hN : X.N[i]? = some x) (hv : Vis X.env.scope x) (hd : (x == ("__debug__" : Str)) = false := by decide) (hcd : (x == ("__classdict__" : Str)) = false := by decide) : PE X (.Name x pos) (tVar i) := by
  intro pins s σ H Q I h
  obtain ⟨v, e, h⟩ := h
  obtain ⟨m, hn, hl⟩ := I.loc
  obtain ⟨u, r, l⟩ := hl i x v hN e hv
  have fin : EP X pins σ Q u s := ⟨v, H, I, r, h⟩
  rcases l with ⟨hk, hm⟩ | ⟨hk, c, hc, hcell⟩
  · exact wpAny_Name (wpAny_loadName_local I.ok.kind hk hn hm fin) hd
  · rcases hk with hk | hk
    · exact wpAny_Name (wpAny_loadName_cell I.ok.kind hk hc hcell fin) hd
    · exact wpAny_Name (wpAny_loadName_free I.ok.kind hk hc hcell fin hcd) hd
theorem pe_int {i j pos} : PE X (.Constant (.int i) j pos) (tC (.int i)) := fun _ _ _ H _ I h => wpAny_Constant_int ⟨.int i, H, I.tok _, ⟨_, rfl⟩, h⟩
theorem pe_bl {b j pos} : PE X (.Constant (.bool b) j pos) (tC (.bl b)) := fun _ _ _ H _ I h => Constant_bool ⟨.bl b, H, I, rfl, h⟩
theorem pe_non {j pos} : PE X (.Constant .none j pos) (tC .non) := fun _ _ _ H _ I h => Constant_none ⟨.non, H, I, rfl, h⟩
theorem pe_str {x j pos} : PE X (.Constant (.str x) j pos) (tC (.str x)) := fun _ _ _ H _ I h => Calls.Constant_str ⟨.str x, H, I.tok _, ⟨_, rfl⟩, h⟩

/-- a global name of the def -/
def Gl (X : Cx) (x : Str) : Prop := X.env.kindOf x = some .globalImplicit
theorem ld_glob {E : Value → Shared → Prop} {pins : List (Addr × Obj)} {s : Shared} {σ : St} {H : Hp} {x : Str} {u : Value} {pos : Pos} {Q : Value → Shared → Prop} (I : Inv X pins σ H s) (hg : Gl X x) (hm : X.mg x = some u) (h : Q u s)
    (hd : (x == ("__debug__" : Str)) = false := by decide) : wpAny (model X.prog X.w) X.A (eval (.Name x pos) X.env) Q E s :=
  Calls.Name_function_global I.ok.kind hg (Calls.loadGlobal_global (by rw [I.ok.glob]; exact I.mod.glob.keeps I.bk) hm h) hd
theorem ld_blt {E : Value → Shared → Prop} {pins : List (Addr × Obj)} {s : Shared} {σ : St} {H : Hp} {x : Str} {u : Value} {pos : Pos} {Q : Value → Shared → Prop} (I : Inv X pins σ H s) (hg : Gl X x) (hm : X.mg x = none) (hv : bootBuiltins x = some u) (h : Q u s)
    (hn : x ≠ "__name__" := by decide) (hd : (x == ("__debug__" : Str)) = false := by decide) : wpAny (model X.prog X.w) X.A (eval (.Name x pos) X.env) Q E s := by
  obtain ⟨mb, h1, h2⟩ := I.mod.blt
  exact Calls.Name_function_global I.ok.kind hg (Calls.loadGlobal_builtin (by rw [I.ok.glob]; exact I.mod.glob.keeps I.bk) hm (by rw [I.ok.blt]; exact h1.keeps I.bk) ((h2 x hn).trans hv) h) hd
theorem pe_bltn {x : Str} {v : V} {u : Value} {pos : Pos} (hg : Gl X x) (hm : X.mg x = none) (hv : bootBuiltins x = some u) (r : RelV v u) (hn : x ≠ "__name__" := by decide) (hd : (x == ("__debug__" : Str)) = false := by decide) : PE X (.Name x pos) (tC v) :=
  fun _ _ _ H _ I h => ld_blt I hg hm hv ⟨v, H, I, r, h⟩ hn hd

/-! ### arithmetic -/
variable {a b : Expr} {ta tb : TE} {pos : Pos}
/-! ### comparisons -/
def PC (X : Cx) (op : CmpOp) (a b : Expr) (t : TE) : Prop :=
  ∀ (pins : List (Addr × Obj)) (s : Shared) (σ : St) (H : Hp) (Q : VK), Inv X pins σ H s → t σ H Q →
    wpAny (model X.prog X.w) X.A (eval a X.env) (fun v s₁ => wpAny (model X.prog X.w) X.A (eval b X.env) (fun u s₂ => wpAny (model X.prog X.w) X.A (compareOp op v u) (EP X pins σ Q) X.xe s₂) X.xe s₁) X.xe s
theorem nobehind (b : Expr) {op : CmpOp} (h : op ≠ .In) (h2 : op ≠ .NotIn) : behindInMarks op b = false := by
  have e1 : (op == CmpOp.In) = false := by cases op <;> first | rfl | exact absurd rfl h
  have e2 : (op == CmpOp.NotIn) = false := by cases op <;> first | rfl | exact absurd rfl h2
  cases b <;> simp [behindInMarks, e1, e2]
/-- a comparison as a value, as a test -/
def tB (t : TE) : TT := fun σ H Q => t σ H fun x H1 => ∃ c, x = .bl c ∧ Q c H1
theorem pt_cmp {op : CmpOp} {t : TE} (h : PC X op a b t) (h1 : behindInMarks op b = false := by first | exact nobehind _ (by decide) (by decide) | rfl) : PT X (.Compare a [op] [b] pos) (tB t) := by
  intro pins s σ H Q I hw
  refine wpAny_isTrue_Compare1 (thn (h pins s σ H _ I hw) fun v s1 h1 => thn h1 fun u s2 h2 => thn h2 fun c s3 ⟨x, H1, I1, r1, q1⟩ => ?_) h1
  obtain ⟨d, rfl, q⟩ := q1
  cases r1
  exact wpAny_truthy_bool ⟨H1, I1, q⟩
/-- an expression whose value is a bool, as a test -/
theorem pt_val {e : Expr} {t : TE} (h : PE X e t) (he : ∀ whole, isTrue e X.env whole = (do let v ← whole; standAt e.pos; holding [v] (truthy v)) := by intro _; rfl) : PT X e (tB t) := by
  intro pins s σ H Q I hw
  refine isTrue_plain (thn (h pins s σ H _ I hw) fun v s1 ⟨x, H1, I1, r1, q1⟩ => ?_) (he _)
  obtain ⟨d, rfl, q⟩ := q1
  cases r1
  exact wpAny_truthy_bool ⟨H1, I1, q⟩

/-! ### and, or, not -/
variable {tA tB' : TT} {rest : List Expr}
def tAnd (t u : TT) : TT := fun σ H Q => t σ H fun c H1 => if c = true then u σ H1 Q else Q false H1
def tOr (t u : TT) : TT := fun σ H Q => t σ H fun c H1 => if c = true then Q true H1 else u σ H1 Q
def tNot (t : TT) : TT := fun σ H Q => t σ H fun c H1 => Q (!c) H1
theorem pw_and1 (ha : PT X a tA) : PW X (.BoolOp .And [a] pos) tA := by
  intro wh pins s σ H Q I h
  refine isTrue_and (thn (ha pins s σ H Q I h) fun c s1 e => ?_)
  cases c with
  | true => exact isTrue_and_nil e
  | false => exact e
theorem pw_or1 (ha : PT X a tA) : PW X (.BoolOp .Or [a] pos) tA := by
  intro wh pins s σ H Q I h
  refine isTrue_or (thn (ha pins s σ H Q I h) fun c s1 e => ?_)
  cases c with
  | false => exact isTrue_or_nil e
  | true => exact e
theorem pw_and (ha : PT X a tA) (hb : PW X (.BoolOp .And (b :: rest) pos) tB') : PW X (.BoolOp .And (a :: b :: rest) pos) (tAnd tA tB') := by
  intro wh pins s σ H Q I h
  refine isTrue_and (thn (ha pins s σ H _ I h) fun c s1 ⟨H1, I1, q1⟩ => ?_)
  cases c with
  | true => exact hb wh pins s1 σ H1 Q I1 q1
  | false => exact ⟨H1, I1, q1⟩
theorem pw_or (ha : PT X a tA) (hb : PW X (.BoolOp .Or (b :: rest) pos) tB') : PW X (.BoolOp .Or (a :: b :: rest) pos) (tOr tA tB') := by
  intro wh pins s σ H Q I h
  refine isTrue_or (thn (ha pins s σ H _ I h) fun c s1 ⟨H1, I1, q1⟩ => ?_)
  cases c with
  | true => exact ⟨H1, I1, q1⟩
  | false => exact hb wh pins s1 σ H1 Q I1 q1
theorem pt_not (ha : PT X a tA) : PT X (.UnaryOp .Not a pos) (tNot tA) := by
  intro pins s σ H Q I h
  exact isTrue_not (ha pins s σ H (fun c H1 => Q (!c) H1) I h)
/-- .. as values (bools) -/
def tAndV (ta tb : TE) : TE := fun σ H Q => ta σ H fun x H1 => ∃ c, x = .bl c ∧ if c = true then tb σ H1 Q else Q (.bl false) H1
theorem pe_one {op} {t : TE} (h : PE X a t) : PE X (.BoolOp op [a] pos) t := fun pins s σ H Q I hw => BoolOp_one (h pins s σ H Q I hw)
theorem pe_and (ha : PE X a ta) (hb : PE X (.BoolOp .And (b :: rest) pos) tb) : PE X (.BoolOp .And (a :: b :: rest) pos) (tAndV ta tb) := by
  intro pins s σ H Q I h
  refine BoolOp_and (thn (ha pins s σ H _ I h) fun v s1 ⟨x, H1, I1, r1, q1⟩ => ?_)
  obtain ⟨c, rfl, q1⟩ := q1
  cases r1
  refine wpAny_truthy_bool ?_
  cases c with
  | true => exact hb pins s1 σ H1 Q I1 q1
  | false => exact ⟨.bl false, H1, I1, rfl, q1⟩
end
end L2

namespace L2
open PySem PySem.Spec PyProof.Rows

/-! ### a list, a tuple that is read: tracked, frozen, or an object of the module -/
def SqL (K : PySem.W.Frag) (H : Hp) (a : Addr) (xs : List V) : Prop :=
  Rd H a (.lst xs) ∨
    ∃ (o : Obj) (its : Array Value) (n : Nat), K.lookup a = some o ∧ o.cls = .type "list" ∧ o.dict = none ∧ o.data = .seq its n ∧ its.size ≤ sizeLine ∧ Vals xs its.toList
def SqT (K : PySem.W.Frag) (H : Hp) (a : Addr) (xs : List V) : Prop :=
  Rd H a (.tup xs) ∨
    ∃ (o : Obj) (its : Array Value) (n : Nat), K.lookup a = some o ∧ o.cls = .type "tuple" ∧ o.data = .seq its n ∧ its.size ≤ sizeLine ∧ Vals xs its.toList
def absV : Value → Option V
  | .none => some .non
  | .bool b => some (.bl b)
  | .int i _ => some (.int i)
  | .str x _ => some (.str x)
  | .bytes b _ => some (.byt b)
  | .float b _ => some (.flt b)
  | .ref a => some (.ref a)
  | .type n => some (.ty n)
  | _ => none
theorem RelV.abs {x : V} {u : Value} (r : RelV x u) : absV u = some x := by
  cases x with
  | non => cases r; rfl
  | bl _ => cases r; rfl
  | int _ => obtain ⟨t, rfl⟩ := r; rfl
  | str _ => obtain ⟨t, rfl⟩ := r; rfl
  | byt _ => obtain ⟨t, rfl⟩ := r; rfl
  | flt _ => obtain ⟨t, rfl⟩ := r; rfl
  | ref _ => cases r; rfl
  | ty _ => cases r; rfl
theorem RelV.inj {x y : V} {u : Value} (r : RelV x u) (q : RelV y u) : x = y := Option.some.inj (r.abs.symm.trans q.abs)
theorem Vals.inj : ∀ {xs ys : List V} {us : List Value}, Vals xs us → Vals ys us → xs = ys
  | _, _, _, .nil, .nil => rfl
  | _, _, _, .cons r t, .cons r' t' => by rw [r.inj r', Vals.inj t t']
section
variable {X : Cx} {pins : List (Addr × Obj)} {σ : St} {H : Hp} {s : Shared} {a : Addr} {xs ys : List V}
theorem SqL.of {K : PySem.W.Frag} (h : H a = some (.lst xs)) : SqL K H a xs := .inl (.inl h)
theorem SqT.of {K : PySem.W.Frag} (h : H a = some (.tup xs)) : SqT K H a xs := .inl (.inl h)
theorem Inv.list (I : Inv X pins σ H s) (h : SqL X.K H a xs) : ∃ its : List Value, Vals xs its ∧ PlainL s.heap a its.toArray ∧ xs.length ≤ sizeLine := by
  rcases h with h | ⟨o, its, n, hk, hc, hd, hs, hz, r⟩
  · obtain ⟨z, its, n, r, e⟩ := h.ok I.hok
    exact ⟨its, r, ⟨_, n, e, rfl, rfl, rfl⟩, z⟩
  · refine ⟨its.toList, r, ⟨o, n, I.kIn a o hk, hc, hd, by simpa using hs⟩, ?_⟩
    have e := r.length
    simp only [Array.length_toList] at e
    omega
theorem Inv.tuple (I : Inv X pins σ H s) (h : SqT X.K H a xs) : ∃ its : List Value, Vals xs its ∧ IsTup s.heap a its.toArray ∧ xs.length ≤ sizeLine := by
  rcases h with h | ⟨o, its, n, hk, hc, hs, hz, r⟩
  · obtain ⟨z, its, r, p⟩ := h.ok I.hok
    exact ⟨its, r, p, z⟩
  · refine ⟨its.toList, r, ⟨o, I.kIn a o hk, hc, n, by simpa using hs⟩, ?_⟩
    have e := r.length
    simp only [Array.length_toList] at e
    omega
theorem Inv.list_inj (I : Inv X pins σ H s) (h : SqL X.K H a xs) (h' : SqL X.K H a ys) : xs = ys := by
  obtain ⟨its, r, ⟨o, n, e, _, _, d⟩, _⟩ := I.list h
  obtain ⟨its', r', ⟨o', n', e', _, _, d'⟩, _⟩ := I.list h'
  rw [e] at e'; cases e'
  rw [d] at d'
  injection d' with d1 _
  have : its = its' := by simpa using congrArg Array.toList d1
  subst this
  exact r.inj r'
theorem Inv.tuple_inj (I : Inv X pins σ H s) (h : SqT X.K H a xs) (h' : SqT X.K H a ys) : xs = ys := by
  obtain ⟨its, r, ⟨o, e, _, n, d⟩, _⟩ := I.tuple h
  obtain ⟨its', r', ⟨o', e', _, n', d'⟩, _⟩ := I.tuple h'
  rw [e] at e'; cases e'
  rw [d] at d'
  injection d' with d1 _
  have : its = its' := by simpa using congrArg Array.toList d1
  subst this
  exact r.inj r'
end

/-! ### another wish about exceptions -/
abbrev Cx.wish (X : Cx) (E : Value → Shared → Prop) : Cx := { X with xe := E }
/-- no exception leaves -/
abbrev Cx.nox (X : Cx) : Cx := X.wish fun _ _ => False
theorem Cx.Ok.wish {X : Cx} (ok : X.Ok) (E : Value → Shared → Prop) : (X.wish E).Ok :=
  ⟨ok.mod, ok.kind, ok.glob, ok.blt, ok.above, ok.inj, ok.has, ok.cab, ok.hd, ok.frames, ok.stk, ok.exf, ok.bs, ok.bsz, ok.noex, ok.exfs, ok.funs, ok.frf⟩
theorem Cx.Ok.unwish {X : Cx} {E : Value → Shared → Prop} (ok : (X.wish E).Ok) : X.Ok :=
  ⟨ok.mod, ok.kind, ok.glob, ok.blt, ok.above, ok.inj, ok.has, ok.cab, ok.hd, ok.frames, ok.stk, ok.exf, ok.bs, ok.bsz, ok.noex, ok.exfs, ok.funs, ok.frf⟩
section
variable {X : Cx} {pins : List (Addr × Obj)} {σ : St} {H : Hp} {s : Shared} {E : Value → Shared → Prop}
theorem Inv.wish (I : Inv X pins σ H s) (E : Value → Shared → Prop) : Inv (X.wish E) pins σ H s := ⟨I.ok.wish E, I.os, I.bare, I.base, I.loc, I.cell, I.free, I.freeC, I.pin, I.hok, I.len⟩
theorem Inv.unwish (I : Inv (X.wish E) pins σ H s) : Inv X pins σ H s := ⟨I.ok.unwish, I.os, I.bare, I.base, I.loc, I.cell, I.free, I.freeC, I.pin, I.hok, I.len⟩
theorem SP.unwish {D : Ends} {f : Flow} {s' : Shared} (h : SP (X.wish E) pins D f s') : SP X pins D f s' := by
  cases f with
  | next => obtain ⟨σ', H', I, q⟩ := h; exact ⟨σ', H', I.unwish, q⟩
  | brk => obtain ⟨σ', H', I, q⟩ := h; exact ⟨σ', H', I.unwish, q⟩
  | cont => obtain ⟨σ', H', I, q⟩ := h; exact ⟨σ', H', I.unwish, q⟩
  | ret u => obtain ⟨v, σ', H', I, r, q⟩ := h; exact ⟨v, σ', H', I.unwish, r, q⟩
theorem PSs.nox {st : List Stmt} {t : TS} (h : PSs X.nox st t) : PSs X st t := fun pins s σ H D I hw =>
  wpAny_mono (h pins s σ H D (I.wish _) hw) (fun _ _ q => q.unwish) fun _ _ z => False.elim z
end

/-! ### blocks and small statements -/
section
variable {X : Cx} {st : Stmt} {rest : List Stmt} {t u : TS} {e : Expr} {te : TE} {pos : Pos}
def tNext : TS := fun D σ H => D.nx σ H
def tSeq (t u : TS) : TS := fun D σ H => t { D with nx := u D } σ H
theorem pss_nil : PSs X [] tNext := fun _ _ σ H _ I h => wpAny_execs_nil ⟨σ, H, I, h⟩
theorem pss_cons (h1 : PS X st t) (h2 : PSs X rest u) : PSs X (st :: rest) (tSeq t u) := by
  intro pins s σ H D I h
  refine wpAny_execs_cons (thn (h1 pins s σ H { D with nx := u D } I h) fun f s1 q => ?_)
  cases f with
  | next =>
    obtain ⟨σ', H', I', q⟩ := q
    exact h2 pins s1 σ' H' D I' q
  | ret v => exact q
  | brk => exact q
  | cont => exact q
theorem pss_one (h1 : PS X st t) : PSs X [st] t := by
  intro pins s σ H D I h
  refine wpAny_execs_cons (thn (h1 pins s σ H D I h) fun f s1 q => ?_)
  cases f with
  | next => exact wpAny_execs_nil q
  | ret v => exact q
  | brk => exact q
  | cont => exact q
/-- in a def's body nothing is shown -/
theorem Inv.quiet {pins : List (Addr × Obj)} {σ : St} {H : Hp} {s : Shared} (I : Inv X pins σ H s) : interactive X.env = false := by simp [interactive, I.ok.kind]
/-- an expression whose value is dropped -/
def tDrop (te : TE) : TS := fun D σ H => te σ H fun _ H1 => D.nx σ H1
theorem ps_expr (he : PE X e te) (hs : swapsWith e none pos.line X.env = pure false := by rfl) : PS X (.Expr e pos) (tDrop te) := by
  intro pins s σ H D I h
  exact wpAny_Expr_any (thn (he pins s σ H _ I h) fun v s1 ⟨x, H1, I1, r1, q1⟩ => ⟨σ, H1, I1, q1⟩) I.quiet hs
def tRet (te : TE) : TS := fun D σ H => te σ H D.rt
theorem ps_ret (he : PE X e te) : PS X (.Return (some e) pos) (tRet te) := by
  intro pins s σ H D I h
  exact wpAny_Return_some (thn (he pins s σ H _ I h) fun v s1 ⟨x, H1, I1, r1, q1⟩ => ⟨x, σ, H1, I1, r1, q1⟩)
def tIfS (c : TT) (t u : TS) : TS := fun D σ H => c σ H fun b H1 => if b = true then t D σ H1 else u D σ H1
theorem ps_if {c : Expr} {a b : List Stmt} {tc : TT} (hc : PT X c tc) (ha : PSs X a t) (hb : PSs X b u) : PS X (.If c a b pos) (tIfS tc t u) := by
  intro pins s σ H D I h
  refine wpAny_If (thn (hc pins s σ H _ I h) fun d s1 ⟨H1, I1, q1⟩ => ?_)
  cases d with
  | true => exact ha pins s1 σ H1 D I1 q1
  | false => exact hb pins s1 σ H1 D I1 q1
end

/-! ### targets -/
abbrev TG := V → St → Hp → (St → Hp → Prop) → Prop
abbrev TGs := List V → St → Hp → (St → Hp → Prop) → Prop
def PG (X : Cx) (target : Expr) (t : TG) : Prop :=
  ∀ (pins : List (Addr × Obj)) (s : Shared) (σ : St) (H : Hp) (v : V) (u : Value) (Q : St → Hp → Prop), Inv X pins σ H s → RelV v u → t v σ H Q →
    wpAny (model X.prog X.w) X.A (assign target X.env u) (fun _ s' => ∃ σ' H', Inv X pins σ' H' s' ∧ Q σ' H') X.xe s
/-- several targets, one after another -/
def PGs (X : Cx) (ts : List Expr) (t : TGs) : Prop :=
  ∀ (pins : List (Addr × Obj)) (s : Shared) (σ : St) (H : Hp) (vs : List V) (us : List Value) (Q : St → Hp → Prop), Inv X pins σ H s → Vals vs us → t vs σ H Q →
    wpAny (model X.prog X.w) X.A (assignInOrder ((assignEach ts X.env).map (·.2)) us) (fun _ s' => ∃ σ' H', Inv X pins σ' H' s' ∧ Q σ' H') X.xe s
section
variable {X : Cx} {pos : Pos}
def gName (i : Nat) : TG := fun v σ H Q => Q (σ.set i (some v)) H
theorem pg_name {i : Nat} {x : Str} (hN : X.N.Nodup) (hi : X.N[i]? = some x) (hx : Loc X.env.scope x) (hf : X.fn x = true ∨ X.env.scope.names.lookup x = some .local := by first | exact .inl rfl | exact .inr rfl | assumption) : PG X (.Name x pos) (gName i) := by
  intro pins s σ H v u Q I r h
  exact wpAny_assign_Name (store_ok I hN hi hx r (fun s' I' => ⟨_, H, I', h⟩) hf)
def gNil : TGs := fun vs σ H Q => vs = [] ∧ Q σ H
def gCons (t : TG) (u : TGs) : TGs := fun vs σ H Q => ∃ v r, vs = v :: r ∧ t v σ H fun σ' H' => u r σ' H' Q
theorem pgs_nil : PGs X [] gNil := by
  intro pins s σ H vs us Q I r h
  obtain ⟨e, h⟩ := h
  subst e
  cases r
  exact assignInOrder_nil ⟨σ, H, I, h⟩
theorem pgs_cons {e : Expr} {es : List Expr} {t : TG} {u : TGs} (h1 : PG X e t) (h2 : PGs X es u)
    (hs : (assignEach (e :: es) X.env).map (·.2) = assign e X.env :: (assignEach es X.env).map (·.2) := by rfl) : PGs X (e :: es) (gCons t u) := by
  intro pins s σ H vs us Q I r h
  obtain ⟨v, vr, e1, h⟩ := h
  subst e1
  cases r with
  | cons r rr =>
    rw [hs]
    refine assignInOrder_cons (thn (h1 pins s σ H _ _ _ I r h) fun _ s1 ⟨σ1, H1, I1, q1⟩ => ?_)
    exact h2 pins s1 σ1 H1 _ _ Q I1 rr q1
/-- (a, b, ..) = a tuple of that length -/
def gTup (K : PySem.W.Frag) (n : Nat) (t : TGs) : TG := fun v σ H Q => ∃ a xs, v = .ref a ∧ SqT K H a xs ∧ xs.length = n ∧ t xs σ H Q
theorem pg_tup {es : List Expr} {k : Nat} {t : TGs} {n : Nat} (hc : X.calm = true) (h : PGs X es t)
    (hn : (assignEach es X.env).length = n := by rfl) (hst : (assignEach es X.env).findIdx? (·.1) = none := by rfl) : PG X (.Tuple es k pos) (gTup X.K n t) := by
  intro pins s σ H v u Q I r hw
  obtain ⟨a, xs, e1, hq, hl, hw⟩ := hw
  subst e1
  cases r
  obtain ⟨its, rv, ht, hz⟩ := I.tuple hq
  refine assign_Tuple_tuple (I.ok.hd hc) ht (by simp [hn, ← hl, rv.length]) hst fun h' hx => ?_
  have I1 : Inv X pins σ H { s with heap := h' } := I.kept (t' := s.toks) fun b o e => hx b o (Nat.ne_of_lt (Heap.lt_size e)) e
  exact h pins _ σ H xs _ Q I1 (by simpa using rv) hw
/-- target = value -/
def tAsg (te : TE) (g : TG) : TS := fun D σ H => te σ H fun x H1 => g x σ H1 D.nx
theorem ps_asg {tg e : Expr} {te : TE} {g : TG} (he : PE X e te) (hg : PG X tg g) (hs : swapsWithSole [tg] e pos.line X.env = pure false := by rfl) (hw : swappedStores [tg] e X.env = pure none := by rfl)
    (h1 : (assignEach [tg] X.env).map (·.2) = [assign tg X.env] := by rfl) : PS X (.Assign [tg] e pos) (tAsg te g) := by
  intro pins s σ H D I h
  refine wpAny_Assign_stores (thn (he pins s σ H _ I h) fun v s1 ⟨x, H1, I1, r1, q1⟩ => ?_) hs hw
  rw [h1]
  exact thn (hg pins s1 σ H1 x v _ I1 r1 q1) fun _ s2 q => q
/-- name = value -/
theorem ps_set {i : Nat} {x : Str} {e : Expr} {te : TE} {pos' : Pos} (hN : X.N.Nodup) (hi : X.N[i]? = some x) (hx : Loc X.env.scope x) (he : PE X e te) (hs : swapsWith e (some (.Name x pos')) pos.line X.env = pure false := by rfl) (hf : X.fn x = true ∨ X.env.scope.names.lookup x = some .local := by first | exact .inl rfl | exact .inr rfl | assumption) :
    PS X (.Assign [.Name x pos'] e pos) (tAsg te (gName i)) := by
  intro pins s σ H D I h
  refine wpAny_Assign_Name (thn (he pins s σ H _ I h) fun v s1 ⟨y, H1, I1, r1, q1⟩ => ?_) hs
  exact store_ok I1 hN hi hx r1 (fun s2 I2 => ⟨_, H1, I2, q1⟩) hf
/-- a, b = x, y with plain local names: stored from the right; the pair itself is not tracked (the opening rows as in PyProof/Rows/TupAssign.lean:23) -/
def tPar (i j : Nat) (ta : TA) : TS := fun D σ H => ta σ H fun vs H1 => ∃ v w, vs = [v, w] ∧ D.nx ((σ.set i (some v)).set j (some w)) H1
theorem ps_par {i j : Nat} {x y : Str} {a b : Expr} {ta : TA} {px py pt : Pos} {kt k2 pt2} (hc : X.calm = true) (hN : X.N.Nodup) (hi : X.N[i]? = some x) (hj : X.N[j]? = some y) (hij : i ≠ j)
    (hx : X.env.scope.names.lookup x = some .local) (hy : X.env.scope.names.lookup y = some .local) (ha : PA X [a, b] ta)
    (hw : swappedStores [.Tuple [.Name x px, .Name y py] kt pt] (.Tuple [a, b] k2 pt2) X.env = pure (some [x, y]))
    (hs : swapsWithSole [.Tuple [.Name x px, .Name y py] kt pt] (.Tuple [a, b] k2 pt2) pos.line X.env = pure false := by rfl) :
    PS X (.Assign [.Tuple [.Name x px, .Name y py] kt pt] (.Tuple [a, b] k2 pt2) pos) (tPar i j ta) := by
  intro pins s σ H D I h
  rw [exec_Assign_arm]
  refine wpAny_bind (wpAny_standAt ?_)
  rw [hs]
  refine wpAny_bind (wpAny_pure ?_)
  rw [if_neg (by decide)]
  refine wpAny_bind (Tuple_ (thn (ha _ pins s σ H _ I h) fun us s1 ⟨vs, H1, I1, r1, q1⟩ => ?_))
  obtain ⟨v, w, e1, q1⟩ := q1
  subst e1
  obtain ⟨u1, u2, rfl, rv, rw'⟩ : ∃ u1 u2, us = [u1, u2] ∧ RelV v u1 ∧ RelV w u2 := by
    cases r1 with
    | cons p q =>
      cases q with
      | cons p' q' =>
        cases q'
        exact ⟨_, _, rfl, p, p'⟩
  refine wpAny_newObj_type ?_ (by show 2 ≤ sizeLine; decide)
  have I2 : Inv X pins σ H1 { s1 with heap := s1.heap.push { cls := .type "tuple", data := .seq [u1, u2].toArray } } := I1.kept (t' := s1.toks) fun b o e => Heap.get?_push_of_some _ e
  rw [hw]
  refine wpAny_bind (wpAny_pure ?_)
  show wpAny (model X.prog X.w) X.A (do rule "assign.swapped-stores"; let items ← unpackItems (.ref s1.heap.objs.size) 2 none; assignInOrder [fun v => bindName X.env y v, fun v => bindName X.env x v] items.reverse; pure Flow.next) _ _ _
  refine wpAny_bind (wpAny_rule (wpAny_bind (unpackItems_tuple (items := #[u1, u2]) (I.ok.hd hc) (IsTup.new s1.heap _) fun h' hx' => ?_)))
  have I3 := I2.kept (h' := h') (t' := s1.toks) fun b o e => hx' b o (Nat.ne_of_lt (Heap.lt_size e)) e
  show wpAny _ _ (assignInOrder [fun v => bindName X.env y v, fun v => bindName X.env x v] [u2, u1] >>= fun _ => pure Flow.next) _ _ _
  refine wpAny_bind (assignInOrder_cons (wpAny_bindName (store_ok I3 hN hj (.inl hy) rw' (fun s2 I4 => ?_) (.inr hy))))
  refine assignInOrder_cons (wpAny_bindName (store_ok I4 hN hi (.inl hx) rv (fun s3 I5 => assignInOrder_nil (wpAny_pure ?_)) (.inr hx)))
  rw [List.set_comm _ _ (Ne.symm hij)] at I5
  exact ⟨_, H1, I5, q1⟩
end

/-! ### while -/
section
variable {X : Cx} {pos : Pos}
/-- the invariant W with its measure -/
def tWhile (c : TT) (tb : TS) : TS := fun D σ H => ∃ W : Nat → St → Hp → Prop, (∃ m, W m σ H) ∧ ∀ m σ H, W m σ H →
  c σ H fun b H1 => if b = true then ∃ N : St → Hp → Prop, (∀ σ' H', N σ' H' → ∃ m', m' < m ∧ W m' σ' H') ∧ tb { D with nx := N, ct := N, bk := D.nx } σ H1 else D.nx σ H1
theorem ps_while {c : Expr} {body : List Stmt} {tc : TT} {tb : TS} (hp : PassesOwn (model X.prog X.w) X.A X.env X.xe) (hc : PT X c tc) (hb : PSs X body tb) : PS X (.While c body [] pos) (tWhile tc tb) := by
  intro pins s σ H D I h
  obtain ⟨W, ⟨m0, w0⟩, turn⟩ := h
  refine wpAny_While (codeAny_whileLoop (fun n s' => ∃ σ' H', Inv X pins σ' H' s' ∧ W n σ' H') ?_ m0 ⟨σ, H, I, w0⟩)
  rintro n s1 ⟨σ1, H1, I1, w1⟩
  refine wpAny_passesOwn hp (thn (hc pins s1 σ1 H1 _ I1 (turn n σ1 H1 w1)) fun b s2 ⟨H2, I2, q2⟩ => ?_)
  cases b with
  | true =>
    obtain ⟨N, hN, q2⟩ := q2
    rw [if_pos rfl]
    refine wpAny_passesOwn hp (thn (hb pins s2 σ1 H2 _ I2 q2) fun f s3 q3 => ?_)
    cases f with
    | next =>
      obtain ⟨σ3, H3, I3, n3⟩ := q3
      obtain ⟨m', hm, w3⟩ := hN σ3 H3 n3
      exact ⟨m', hm, σ3, H3, I3, w3⟩
    | cont =>
      obtain ⟨σ3, H3, I3, n3⟩ := q3
      obtain ⟨m', hm, w3⟩ := hN σ3 H3 n3
      exact ⟨m', hm, σ3, H3, I3, w3⟩
    | brk => exact q3
    | ret v => exact q3
  | false =>
    rw [if_neg Bool.false_ne_true]
    exact wpAny_execs_nil ⟨σ1, H2, I2, q2⟩
end

/-! ### what a loop or a comprehension walks -/
/-- at turn i: it yields x (the heap may grow), or it stops -/
structure It where
  go : Nat → Hp → Prop
  yld : Nat → Hp → V → Hp → Prop
  stop : Nat → Hp → Prop
/-- the iterator's own objects may turn: they are not the frame's, not pinned, younger than the entry (or a comprehension's own) -/
def FpOk (X : Cx) (pins : List (Addr × Obj)) (H : Hp) (b : Addr) : Prop :=
  H b = none ∧ b ≠ X.env.locals ∧ b ∉ X.fs ∧ (b ∈ X.ex ∨ X.s₀.heap.objs.size ≤ b) ∧ (∀ x c, X.env.cells.lookup x = some c → c ≠ b) ∧ ∀ p ∈ X.pn ++ pins, p.1 ≠ b
theorem Inv.fpOk {X : Cx} {pins : List (Addr × Obj)} {σ : St} {H H' : Hp} {s : Shared} {b : Addr} (I : Inv X pins σ H s) (hb : s.heap.objs.size ≤ b) (hn : H' b = none) : FpOk X pins H' b := by
  refine ⟨hn, Nat.ne_of_gt (Nat.lt_of_lt_of_le I.lt hb), I.nofs hb, .inr (Nat.le_trans I.sz hb), fun x c e z => ?_, fun p hp z => ?_⟩
  · obtain ⟨v, q⟩ := I.cell x c e
    exact absurd (Nat.lt_of_lt_of_le q.lt (by rw [z]; exact hb)) (Nat.lt_irrefl _)
  · exact absurd (Nat.lt_of_lt_of_le (Heap.lt_size (I.pin p hp).1) (by rw [z]; exact hb)) (Nat.lt_irrefl _)
structure Turn (P : Program) (w : World) (K : PySem.W.Frag) (tg : Expr) (J : It) (fp : List Addr) (it : Addr) (tn : Nat → Heap → Prop) : Prop where
  mem : it ∈ fp
  obj : ∀ i h, tn i h → ∀ b ∈ fp, ∃ o, h.get? b = some o ∧ ∀ v, o.data ≠ .cell v
  keep : ∀ i h h', tn i h → (∀ b ∈ fp, ∀ o, h.get? b = some o → h'.get? b = some o) → tn i h'
  item : ∀ (X : Cx), X.prog = P → X.w = w → X.K = K → X.calm = true → ∀ (i : Nat) (pins : List (Addr × Obj)) (s : Shared) (σ : St) (H : Hp) (E : Value → Shared → Prop), Inv X pins σ H s → (∀ b ∈ fp, FpOk X pins H b) → tn i s.heap → J.go i H →
    wpAny (model P w) X.A (pyNext (.ref it)) (fun r s1 => ∃ u, r = some u ∧
      wpAny (model P w) X.A (letOwnedTupleGo tg (.ref it) u) (fun _ s2 => ∃ x H', Inv X pins σ H' s2 ∧ RelV x u ∧ J.yld i H x H' ∧ tn (i + 1) s2.heap ∧ ∀ b ∈ fp, H' b = none) E s1) E s
  done : ∀ (X : Cx), X.prog = P → X.w = w → X.K = K → X.calm = true → ∀ (i : Nat) (pins : List (Addr × Obj)) (s : Shared) (σ : St) (H : Hp) (E : Value → Shared → Prop), Inv X pins σ H s → (∀ b ∈ fp, FpOk X pins H b) → tn i s.heap → J.stop i H →
    wpAny (model P w) X.A (pyNext (.ref it)) (fun r s1 => r = none ∧ Inv X pins σ H s1) E s
  self : ∀ (A : Around) (i : Nat) (s : Shared) (Q : Value → Shared → Prop) (E : Value → Shared → Prop), tn i s.heap → Q (.ref it) s → wpAny (model P w) A (pyIter (.ref it)) Q E s
abbrev TI := St → Hp → (It → Hp → Prop) → Prop
/-- an iterator has come -/
def PIE (X : Cx) (pins : List (Addr × Obj)) (σ : St) (tg : Expr) (R : It → Hp → Prop) (itv : Value) (s2 : Shared) : Prop :=
  ∃ (it : Addr) (fp : List Addr) (tn : Nat → Heap → Prop) (J : It) (H' : Hp), itv = .ref it ∧ Inv X pins σ H' s2 ∧ Turn X.prog X.w X.K tg J fp it tn ∧ tn 0 s2.heap ∧ (∀ b ∈ fp, FpOk X pins H' b) ∧ R J H'
def PI (X : Cx) (tg iter : Expr) (wi : TI) : Prop :=
  ∀ (pins : List (Addr × Obj)) (s : Shared) (σ : St) (H : Hp) (R : It → Hp → Prop), Inv X pins σ H s → wi σ H R →
    wpAny (model X.prog X.w) X.A (eval iter X.env) (fun v s1 => wpAny (model X.prog X.w) X.A (pyIter v) (PIE X pins σ tg R) X.xe s1) X.xe s

/-- the step ahead of the store is nothing for an iterator that keeps no tuple -/
theorem go_of {M : Model} {A : Around} {E : Value → Shared → Prop} {s : Shared} {tg : Expr} {it : Addr} {u : Value} {o : Obj} {n : String} {vs : Array Value} {Q : Unit → Shared → Prop} (ho : s.heap.get? it = some o) (hc : o.cls = .type n) (hd : o.data = .fields vs)
    (hn : ["enumerate", "zip", "dict_itemiterator", "dict_reverseitemiterator", "odict_iterator", "itertools.zip_longest", "itertools.pairwise"].contains n = false) (hQ : Q () s) : wpAny M A (letOwnedTupleGo tg (.ref it) u) Q E s := by
  unfold letOwnedTupleGo
  cases tg <;> first
    | exact wpAny_pure hQ
    | (cases u <;> first
        | exact wpAny_pure hQ
        | (refine wpAny_bind (wpAny_load ho ?_)
           rw [hc, hd]
           show wpAny M A (if (["enumerate", "zip", "dict_itemiterator", "dict_reverseitemiterator", "odict_iterator", "itertools.zip_longest", "itertools.pairwise"].contains n && vs[0]? == some (rawInt _)) = true then _ else _) Q E s
           rw [if_neg (by intro h; rw [hn, Bool.false_and] at h; cases h)]
           exact wpAny_pure hQ))

/-- the list at a, as it stands at each turn (a loop may append to it) -/
def Itl (K : PySem.W.Frag) (a : Addr) : It :=
  ⟨fun i H => ∃ xs x, SqL K H a xs ∧ xs[i]? = some x, fun i H x H' => H' = H ∧ ∀ xs, SqL K H a xs → xs[i]? = some x, fun i H => ∃ xs, SqL K H a xs ∧ xs.length ≤ i⟩
/-- lo, lo + 1, .. (n of them) -/
def Itr (lo : Int) (n : Nat) : It := ⟨fun i _ => i < n, fun i H x H' => H' = H ∧ x = .int (lo + i), fun i _ => n ≤ i⟩
theorem turn_list {P : Program} {w : World} {K : PySem.W.Frag} {tg : Expr} (a it : Addr) : Turn P w K tg (Itl K a) [it] it (fun i h => h.IsListIter it a i) where
  mem := by simp
  obj := fun i h st b hb => by
    have e : b = it := by simpa using hb
    subst e
    obtain ⟨o, e, c, d⟩ := st
    exact ⟨o, e, fun v z => by rw [d] at z; cases z⟩
  keep := fun i h h' st k => st.at fun o e => k it (by simp) o e
  item := by
    intro X hP hw hK hc i pins s σ H E I hf st hg
    subst hP hw hK
    obtain ⟨xs, x, hq, hx⟩ := hg
    obtain ⟨its, rv, p, hz⟩ := I.list hq
    obtain ⟨u, hu, ru⟩ := rv.get hx
    obtain ⟨f0, f1, f2, f3, f4, f5⟩ := hf it (by simp)
    refine wpAny_pyNext_list_item st p.isList (x := u) (by simpa using hu) fun h' st' sb => ?_
    have I1 : Inv X pins σ H { s with heap := h' } := I.turned (t' := s.toks) (fun b o hb e => (sb.2 b hb).trans e) f0 f1 f3 f4 f5
    obtain ⟨o, e, c, d⟩ := id st'
    exact ⟨u, rfl, go_of (s := { s with heap := h' }) e c d (by decide) ⟨x, H, I1, ru, ⟨rfl, fun ys hy => by rw [I.list_inj hy hq]; exact hx⟩, st', fun b hb => (hf b hb).1⟩⟩
  done := by
    intro X hP hw hK hc i pins s σ H E I hf st hg
    subst hP hw hK
    obtain ⟨xs, hq, hx⟩ := hg
    obtain ⟨its, rv, p, hz⟩ := I.list hq
    obtain ⟨f0, f1, f2, f3, f4, f5⟩ := hf it (by simp)
    have hl := rv.length
    exact wpAny_pyNext_list_end (I.ok.hd hc) st p.isList (by simp; omega) fun h' eb => ⟨rfl, I.turned (t' := s.toks) (fun b o hb e => eb b o hb e) f0 f1 f3 f4 f5⟩
  self := fun _ _ _ _ _ st h => wpAny_pyIter_listiter st h
theorem turn_range {P : Program} {w : World} {K : PySem.W.Frag} {tg : Expr} (it : Addr) (lo : Int) (n : Nat) : Turn P w K tg (Itr lo n) [it] it (fun i h => IsRangeIter h it (lo + (i : Nat) * 1) ((n : Int) - (i : Nat)) 1) where
  mem := by simp
  obj := fun i h st b hb => by
    have e : b = it := by simpa using hb
    subst e
    exact ⟨_, st, fun v z => by
      have z' : Data.fields _ = Data.cell v := z
      cases z'⟩
  keep := fun i h h' st k => k it (by simp) _ st
  item := by
    intro X hP hw hK hc i pins s σ H E I hf st hg
    subst hP hw hK
    obtain ⟨f0, f1, f2, f3, f4, f5⟩ := hf it (by simp)
    have W := Walks.range (prog := X.prog) (w := X.w) (I.ok.hd hc) it lo 1 n
    refine W.item i s _ _ hg st fun v h' tk hv st' kk => ?_
    obtain ⟨t, rfl⟩ := hv
    have I1 : Inv X pins σ H { s with heap := h', toks := tk } := I.turned (fun b o hb e => kk b o (by simpa using hb) e) f0 f1 f3 f4 f5
    refine ⟨_, rfl, go_of (s := { s with heap := h', toks := tk }) (n := "range_iterator") st' rfl rfl (by decide) ⟨.int (lo + i), H, I1, ⟨t, ?_⟩, ⟨rfl, rfl⟩, st', fun b hb => (hf b hb).1⟩⟩
    rw [Int.mul_one]
  done := by
    intro X hP hw hK hc i pins s σ H E I hf st hg
    subst hP hw hK
    obtain ⟨f0, f1, f2, f3, f4, f5⟩ := hf it (by simp)
    exact wpAny_pyNext_range_end (I.ok.hd hc) st (by have : n ≤ i := hg; omega) fun h' eb => ⟨rfl, I.turned (t' := s.toks) (fun b o hb e => eb b o hb e) f0 f1 f3 f4 f5⟩
  self := fun _ _ _ _ _ st h => wpAny_pyIter_rangeiter st h
end L2

namespace L2
open PySem PySem.Spec PyProof.Rows
section
variable {X : Cx} {tg : Expr}
def iList (K : PySem.W.Frag) (tl : TE) : TI := fun σ H R => tl σ H fun x H1 => ∃ a, x = .ref a ∧ (∃ xs, SqL K H1 a xs) ∧ R (Itl K a) H1
theorem pi_list {l : Expr} {tl : TE} (hl : PE X l tl) : PI X tg l (iList X.K tl) := by
  intro pins s σ H R I h
  refine thn (hl pins s σ H _ I h) fun v s1 ⟨x, H1, I1, r1, q1⟩ => ?_
  obtain ⟨a, e, ⟨xs, hq⟩, q⟩ := q1
  subst e
  cases r1
  obtain ⟨its, rv, p, hz⟩ := I1.list hq
  refine wpAny_pyIter_list p.isList ?_
  refine ⟨s1.heap.objs.size, [s1.heap.objs.size], _, _, H1, rfl, I1.kept (t' := s1.toks) fun b o e => Heap.get?_push_of_some _ e, turn_list a _, ⟨_, Heap.get?_push_size _ rfl, rfl, rfl⟩, fun b hb => ?_, q⟩
  have e : b = s1.heap.objs.size := by simpa using hb
  subst e
  exact I1.fpOk (Nat.le_refl _) (I1.hok.fresh (Nat.le_refl _))
/-- a range object just made, walked -/
theorem range_it {pins : List (Addr × Obj)} {σ : St} {H : Hp} {s : Shared} {R : It → Hp → Prop} {E : Value → Shared → Prop} {lo hi : Int} {t u v : Tok} {tk : Nat} (I : Inv X pins σ H s) (h1 : -(2 ^ 62) ≤ lo) (h2 : lo < 2 ^ 62) (h3 : -(2 ^ 62) ≤ hi) (h4 : hi < 2 ^ 62)
    (q : R (Itr lo (hi - lo).toNat) H) : wpAny (model X.prog X.w) X.A (pyIter (.ref s.heap.objs.size)) (PIE X pins σ tg R) E { s with heap := s.heap.push { cls := .type "range", data := .fields #[.int lo t, .int hi u, .int 1 v] }, toks := tk } := by
  refine wpAny_pyIter_range (IsRange.new ..) (small_one h1 h2 h3 h4) ?_
  have I1 : Inv X pins σ H { s with heap := s.heap.push { cls := .type "range", data := .fields #[.int lo t, .int hi u, .int 1 v] }, toks := tk } := I.kept fun b o e => Heap.get?_push_of_some _ e
  refine ⟨(s.heap.push { cls := .type "range", data := .fields #[.int lo t, .int hi u, .int 1 v] }).objs.size, [(s.heap.push { cls := .type "range", data := .fields #[.int lo t, .int hi u, .int 1 v] }).objs.size], _, _, H, rfl,
    I1.kept (t' := tk) fun b o e => Heap.get?_push_of_some _ e, turn_range _ lo (hi - lo).toNat, ?_, fun b hb => ?_, q⟩
  · have e1 : lo + ((0 : Nat) : Int) * 1 = lo := by simp
    have e2 : (((hi - lo).toNat : Nat) : Int) - ((0 : Nat) : Int) = Builtin.Range.rangeSize lo hi 1 := by rw [rangeSize_one]; split <;> omega
    show IsRangeIter _ _ (lo + ((0 : Nat) : Int) * 1) ((((hi - lo).toNat : Nat) : Int) - ((0 : Nat) : Int)) 1
    rw [e1, e2]
    exact Heap.get?_push_size _ rfl
  · have e : b = (s.heap.push { cls := .type "range", data := .fields #[.int lo t, .int hi u, .int 1 v] }).objs.size := by simpa using hb
    subst e
    exact I1.fpOk (Nat.le_refl _) (I1.hok.fresh (Nat.le_refl _))
def iRng1 (ta : TA) : TI := fun σ H R => ta σ H fun vs H1 => ∃ j : Int, vs = [.int j] ∧ -(2 ^ 62) ≤ j ∧ j < 2 ^ 62 ∧ R (Itr 0 j.toNat) H1
theorem pi_range1 {a : Expr} {ta : TA} {p pos : Pos} (hg : Gl X "range") (hm : X.mg "range" = none) (ha : PA X [a] ta) (hs : starEach [a] X.env = [(false, eval a X.env)] := by rfl) : PI X tg (.Call (.Name "range" p) [a] [] pos) (iRng1 ta) := by
  intro pins s σ H R I h
  refine Call_ (ld_blt I hg hm boot_range (PyProof.Rows.callWith_type1 (thn (ha pos pins s σ H _ I h) fun us s1 ⟨vs, H1, I1, r1, q1⟩ => ?_) hs rfl))
  obtain ⟨j, e, q1, q2, q⟩ := q1
  subst e
  cases r1 with
  | cons r rr =>
    cases rr
    obtain ⟨t, rfl⟩ := r
    exact call_range_1 (range_it I1 (by omega) (by omega) q1 q2 (by simpa using q))
/-! ### for -/
/-- W: the invariant by the turn and a measure; N: what the body is to reach -/
def tFor (wi : TI) (g : TG) (tb : TS) : TS := fun D σ H => wi σ H fun J H1 => ∃ W : Nat → Nat → St → Hp → Prop, (∃ m, W 0 m σ H1) ∧ ∀ i m σ H, W i m σ H →
  (J.stop i H ∧ D.nx σ H) ∨ (J.go i H ∧ ∃ N : St → Hp → Prop, (∀ σ' H', N σ' H' → ∃ m', m' < m ∧ W (i + 1) m' σ' H') ∧ ∀ x H', J.yld i H x H' → g x σ H' fun σ2 H2 => tb { D with nx := N, ct := N, bk := D.nx } σ2 H2)
/-- the records at fp as they stand -/
def pinsAt (fp : List Addr) (h : Heap) : List (Addr × Obj) := fp.filterMap fun b => (h.get? b).map fun o => (b, o)
theorem mem_pinsAt {fp : List Addr} {h : Heap} {b : Addr} {o : Obj} (hb : b ∈ fp) (e : h.get? b = some o) : (b, o) ∈ pinsAt fp h := List.mem_filterMap.mpr ⟨b, hb, by rw [e]; rfl⟩
theorem of_pinsAt {fp : List Addr} {h : Heap} {p : Addr × Obj} (hp : p ∈ pinsAt fp h) : p.1 ∈ fp ∧ h.get? p.1 = some p.2 := by
  obtain ⟨b, hb, e⟩ := List.mem_filterMap.mp hp
  cases q : h.get? b with
  | none => rw [q] at e; cases e
  | some o =>
    rw [q] at e
    have e' : (b, o) = p := Option.some.inj e
    subst e'
    exact ⟨hb, q⟩
theorem Inv.pinned {pins : List (Addr × Obj)} {σ : St} {H : Hp} {s : Shared} {fp : List Addr} (I : Inv X pins σ H s) (hf : ∀ b ∈ fp, FpOk X pins H b) (ho : ∀ b ∈ fp, ∃ o, s.heap.get? b = some o ∧ ∀ v, o.data ≠ .cell v) : Inv X (pins ++ pinsAt fp s.heap) σ H s :=
  I.pins_of fun p hp => (List.mem_append.mp hp).elim (fun z => I.pin p (List.mem_append_right _ z)) fun z => by
    obtain ⟨hb, e⟩ := of_pinsAt z
    obtain ⟨f0, f1, f2, _⟩ := hf p.1 hb
    obtain ⟨o, e', d⟩ := ho p.1 hb
    rw [e] at e'; cases e'
    exact ⟨e, f0, f1, f2, d⟩
theorem Inv.unpinned {pins pl : List (Addr × Obj)} {σ : St} {H : Hp} {s : Shared} (I : Inv X (pins ++ pl) σ H s) : Inv X pins σ H s := I.pins_of fun p hp => I.pin p (List.mem_append_right _ (List.mem_append_left _ hp))
theorem ps_for {iter : Expr} {body : List Stmt} {wi : TI} {g : TG} {tb : TS} {pos : Pos} (hp : PassesOwn (model X.prog X.w) X.A X.env X.xe) (hc : X.calm = true) (hi : PI X tg iter wi) (hg : PG X tg g) (hb : PSs X body tb)
    (hs : ∀ x, foldedSetIterable iter X.env x = pure x := by intro _; rfl) : PS X (.For tg iter body [] pos) (tFor wi g tb) := by
  intro pins s σ H D I h
  refine wpAny_For (thn (hi pins s σ H _ I h) fun v s1 h1 => thn h1 fun itv s2 h2 => ?_) hs
  obtain ⟨it, fp, tn, J, H2, e, I2, T, st2, f2, W, ⟨m0, w0⟩, turn⟩ := h2
  subst e
  -- what stays true of the iterator's objects through the loop
  have stat : ∀ {H' : Hp}, (∀ b ∈ fp, H' b = none) → ∀ b ∈ fp, FpOk X pins H' b := fun hn b hb => ⟨hn b hb, (f2 b hb).2⟩
  refine codeAny_forLoop_any (fun n s' => ∃ i σ' H', Inv X pins σ' H' s' ∧ tn i s'.heap ∧ (∀ b ∈ fp, H' b = none) ∧ W i n σ' H') ?_ m0 ⟨0, σ, H2, I2, st2, fun b hb => (f2 b hb).1, w0⟩
  rintro n s3 ⟨i, σ3, H3, I3, st3, fr3, w3⟩
  rcases turn i n σ3 H3 w3 with ⟨stop, qn⟩ | ⟨go, N, hN, step⟩
  · refine wpAny_passesOwn hp (thn (T.done X rfl rfl rfl hc i pins s3 σ3 H3 X.xe I3 (stat fr3) st3 stop) fun r s4 ⟨hr, I4⟩ => ?_)
    subst hr
    exact wpAny_execs_nil ⟨σ3, H3, I4, qn⟩
  · refine wpAny_passesOwn hp (thn (T.item X rfl rfl rfl hc i pins s3 σ3 H3 X.xe I3 (stat fr3) st3 go) fun r s4 ⟨u, hr, h4⟩ => ?_)
    subst hr
    refine wpAny_passesOwn hp (thn h4 fun _ s5 ⟨x, H5, I5, r5, y5, st5, fr5⟩ => ?_)
    have I5' := I5.pinned (stat fr5) (T.obj _ _ st5)
    refine wpAny_passesOwn hp (thn (hg _ s5 σ3 H5 x u _ I5' r5 (step x H5 y5)) fun _ s6 ⟨σ6, H6, I6, q6⟩ => ?_)
    refine wpAny_passesOwn hp (thn (hb _ s6 σ6 H6 _ I6 q6) fun f s7 q7 => ?_)
    have again : ∀ {σ7 : St} {H7 : Hp}, Inv X (pins ++ pinsAt fp s5.heap) σ7 H7 s7 → N σ7 H7 → ∃ m, m < n ∧ ∃ i σ' H', Inv X pins σ' H' s7 ∧ tn i s7.heap ∧ (∀ b ∈ fp, H' b = none) ∧ W i m σ' H' := fun {σ7 H7} I7 n7 => by
      obtain ⟨m', hm, w7⟩ := hN σ7 H7 n7
      refine ⟨m', hm, i + 1, σ7, H7, I7.unpinned, T.keep _ _ _ st5 fun b hb o e => (I7.pin (b, o) (List.mem_append_right _ (List.mem_append_right _ (mem_pinsAt hb e)))).1, fun b hb => ?_, w7⟩
      obtain ⟨o, e, d⟩ := T.obj _ _ st5 b hb
      exact (I7.pin (b, o) (List.mem_append_right _ (List.mem_append_right _ (mem_pinsAt hb e)))).2.1
    cases f with
    | next => obtain ⟨σ7, H7, I7, n7⟩ := q7; exact again I7 n7
    | cont => obtain ⟨σ7, H7, I7, n7⟩ := q7; exact again I7 n7
    | brk => obtain ⟨σ7, H7, I7, q7⟩ := q7; exact ⟨σ7, H7, I7.unpinned, q7⟩
    | ret v => obtain ⟨x7, σ7, H7, I7, r7, q7⟩ := q7; exact ⟨x7, σ7, H7, I7.unpinned, r7, q7⟩
end

/-! ### the forms one uses -/
/-- over a list that the body leaves as it is -/
theorem for_list {K : PySem.W.Frag} {a : Addr} {xs : List V} {g : TG} {tb : TS} {D : Ends} {σ : St} {H : Hp} (Pv : Nat → St → Hp → Prop) (h0 : Pv 0 σ H) (hl : ∀ i σ H, i ≤ xs.length → Pv i σ H → SqL K H a xs)
    (hs : ∀ i x σ H, xs[i]? = some x → Pv i σ H → g x σ H fun σ2 H2 => tb { D with nx := Pv (i + 1), ct := Pv (i + 1), bk := D.nx } σ2 H2) (hd : ∀ σ H, Pv xs.length σ H → D.nx σ H) :
    ∃ W : Nat → Nat → St → Hp → Prop, (∃ m, W 0 m σ H) ∧ ∀ i m σ H, W i m σ H →
      ((Itl K a).stop i H ∧ D.nx σ H) ∨ ((Itl K a).go i H ∧ ∃ N : St → Hp → Prop, (∀ σ' H', N σ' H' → ∃ m', m' < m ∧ W (i + 1) m' σ' H') ∧ ∀ x H', (Itl K a).yld i H x H' → g x σ H' fun σ2 H2 => tb { D with nx := N, ct := N, bk := D.nx } σ2 H2) := by
  refine ⟨fun i m σ H => m = xs.length - i ∧ i ≤ xs.length ∧ Pv i σ H, ⟨xs.length, by simp, Nat.zero_le _, h0⟩, ?_⟩
  rintro i m σ H ⟨rfl, hi, p⟩
  have q := hl i σ H hi p
  by_cases hlt : i < xs.length
  · refine .inr ⟨⟨xs, xs[i], q, by simp [hlt]⟩, Pv (i + 1), fun σ' H' p' => ⟨xs.length - (i + 1), by omega, rfl, hlt, p'⟩, fun x H' y => ?_⟩
    obtain ⟨e, y⟩ := y
    subst e
    exact hs i x σ _ (y xs q) p
  · have e : i = xs.length := by omega
    subst e
    exact .inl ⟨⟨xs, q, Nat.le_refl _⟩, hd σ H p⟩
theorem for_range {lo : Int} {n : Nat} {g : TG} {tb : TS} {D : Ends} {σ : St} {H : Hp} (Pv : Nat → St → Hp → Prop) (h0 : Pv 0 σ H)
    (hs : ∀ i σ H, i < n → Pv i σ H → g (.int (lo + i)) σ H fun σ2 H2 => tb { D with nx := Pv (i + 1), ct := Pv (i + 1), bk := D.nx } σ2 H2) (hd : ∀ σ H, Pv n σ H → D.nx σ H) :
    ∃ W : Nat → Nat → St → Hp → Prop, (∃ m, W 0 m σ H) ∧ ∀ i m σ H, W i m σ H →
      ((Itr lo n).stop i H ∧ D.nx σ H) ∨ ((Itr lo n).go i H ∧ ∃ N : St → Hp → Prop, (∀ σ' H', N σ' H' → ∃ m', m' < m ∧ W (i + 1) m' σ' H') ∧ ∀ x H', (Itr lo n).yld i H x H' → g x σ H' fun σ2 H2 => tb { D with nx := N, ct := N, bk := D.nx } σ2 H2) := by
  refine ⟨fun i m σ H => m = n - i ∧ i ≤ n ∧ Pv i σ H, ⟨n, by simp, Nat.zero_le _, h0⟩, ?_⟩
  rintro i m σ H ⟨rfl, hi, p⟩
  by_cases hlt : i < n
  · refine .inr ⟨hlt, Pv (i + 1), fun σ' H' p' => ⟨n - (i + 1), by omega, rfl, hlt, p'⟩, fun x H' y => ?_⟩
    obtain ⟨e, y⟩ := y
    subst e y
    exact hs i σ _ hlt p
  · have e : i = n := by omega
    subst e
    exact .inl ⟨Nat.le_refl _, hd σ H p⟩
end L2

namespace L2
open PySem PySem.Spec PyProof.Rows

abbrev R2 := V → V → Hp → VK → Prop
/-- a two-place operation on values: f is binaryOp op, inplaceOp op or compareOp op -/
def OpR (X : Cx) (f : Value → Value → Sem Value) (r : R2) : Prop :=
  ∀ (pins : List (Addr × Obj)) (s : Shared) (σ : St) (H : Hp) (x y : V) (v u : Value) (Q : VK), Inv X pins σ H s → RelV x v → RelV y u → r x y H Q →
    wpAny (model X.prog X.w) X.A (f v u) (EP X pins σ Q) X.xe s
/-- a one-place operation -/
def UnR (X : Cx) (f : Value → Sem Value) (r : V → Hp → VK → Prop) : Prop :=
  ∀ (pins : List (Addr × Obj)) (s : Shared) (σ : St) (H : Hp) (x : V) (v : Value) (Q : VK), Inv X pins σ H s → RelV x v → r x H Q →
    wpAny (model X.prog X.w) X.A (f v) (EP X pins σ Q) X.xe s
/-- a call of a value that is known (a builtin, a type) with values -/
def CallR (X : Cx) (f : Value) (r : List V → Hp → VK → Prop) : Prop :=
  ∀ (pins : List (Addr × Obj)) (s : Shared) (σ : St) (H : Hp) (xs : List V) (us : List Value) (Q : VK), Inv X pins σ H s → Vals xs us → r xs H Q →
    wpAny (model X.prog X.w) X.A (call f us) (EP X pins σ Q) X.xe s
/-- a value's truth -/
def TruR (X : Cx) (r : V → Hp → (Bool → Hp → Prop) → Prop) : Prop :=
  ∀ (pins : List (Addr × Obj)) (s : Shared) (σ : St) (H : Hp) (x : V) (v : Value) (Q : Bool → Hp → Prop), Inv X pins σ H s → RelV x v → r x H Q →
    wpAny (model X.prog X.w) X.A (truthy v) (TP X pins σ Q) X.xe s

def tOp (r : R2) (ta tb : TE) : TE := fun σ H Q => ta σ H fun x H1 => tb σ H1 fun y H2 => r x y H2 Q
def tUn (r : V → Hp → VK → Prop) (ta : TE) : TE := fun σ H Q => ta σ H fun x H1 => r x H1 Q
/-- ints in, under C, and a value out -/
def rI (C : Int → Int → Prop) (g : Int → Int → V) : R2 := fun x y H Q => ∃ i j, x = .int i ∧ y = .int j ∧ C i j ∧ Q (g i j) H
def rI0 (g : Int → Int → V) : R2 := fun x y H Q => ∃ i j, x = .int i ∧ y = .int j ∧ Q (g i j) H
def rU (g : Int → V) : V → Hp → VK → Prop := fun x H Q => ∃ i, x = .int i ∧ Q (g i) H

section
variable {X : Cx} {a b c : Expr} {ta tb tc : TE} {pos : Pos}

theorem binT (ha : PE X a ta) (hb : PE X b tb) {pins : List (Addr × Obj)} {s : Shared} {σ : St} {H : Hp} {R : V → V → Hp → Prop} (I : Inv X pins σ H s)
    (h : ta σ H fun x H1 => tb σ H1 fun y H2 => R x y H2) {Q : Value → Shared → Prop} {f : Value → Value → Sem Value}
    (hf : ∀ v u s2 x y H2, Inv X pins σ H2 s2 → RelV x v → RelV y u → R x y H2 → wpAny (model X.prog X.w) X.A (f v u) Q X.xe s2) :
    wpAny (model X.prog X.w) X.A (eval a X.env) (fun v s₁ => wpAny (model X.prog X.w) X.A (eval b X.env) (fun u s₂ => wpAny (model X.prog X.w) X.A (f v u) Q X.xe s₂) X.xe s₁) X.xe s := by
  refine thn (ha pins s σ H _ I h) fun v s1 ⟨x, H1, I1, r1, q1⟩ => ?_
  refine thn (hb pins s1 σ H1 _ I1 q1) fun u s2 ⟨y, H2, I2, r2, q2⟩ => ?_
  exact hf v u s2 x y H2 I2 r1 r2 q2

theorem pe_op {op : Operator} {r : R2} (ho : OpR X (binaryOp op) r) (ha : PE X a ta) (hb : PE X b tb) : PE X (.BinOp a op b pos) (tOp r ta tb) := by
  intro pins s σ H Q I h
  exact wpAny_BinOp (binT ha hb I h fun v u s2 x y H2 I2 rx ry q => ho pins s2 σ H2 x y v u Q I2 rx ry q)
theorem pe_un {op : UnaryOp} {r : V → Hp → VK → Prop} (ho : UnR X (unaryOp op) r) (ha : PE X a ta) : PE X (.UnaryOp op a pos) (tUn r ta) := by
  intro pins s σ H Q I h
  exact UnaryOp_ (thn (ha pins s σ H _ I h) fun v s1 ⟨x, H1, I1, r1, q1⟩ => ho pins s1 σ H1 x v Q I1 r1 q1)
/-! ### ints -/
theorem opI {f : Value → Value → Sem Value} {C : Int → Int → Prop} {g : Int → Int → Int}
    (rule : ∀ (i j : Int) (t u : Tok) (s : Shared) (Q : Value → Shared → Prop) (E : Value → Shared → Prop), C i j → Q (.int (g i j) s.toks) { s with toks := s.toks + 1 } → wpAny (model X.prog X.w) X.A (f (.int i t) (.int j u)) Q E s) :
    OpR X f (rI C fun i j => .int (g i j)) := by
  intro pins s σ H x y v u Q I rx ry h
  obtain ⟨i, j, rfl, rfl, hc, q⟩ := h
  obtain ⟨t, rfl⟩ := rx
  obtain ⟨t', rfl⟩ := ry
  exact rule i j t t' s _ _ hc ⟨.int (g i j), H, I.tok _, ⟨_, rfl⟩, q⟩
theorem opI0 {f : Value → Value → Sem Value} {g : Int → Int → Int}
    (rule : ∀ (i j : Int) (t u : Tok) (s : Shared) (Q : Value → Shared → Prop) (E : Value → Shared → Prop), Q (.int (g i j) s.toks) { s with toks := s.toks + 1 } → wpAny (model X.prog X.w) X.A (f (.int i t) (.int j u)) Q E s) :
    OpR X f (rI0 fun i j => .int (g i j)) := by
  intro pins s σ H x y v u Q I rx ry h
  obtain ⟨i, j, rfl, rfl, q⟩ := h
  obtain ⟨t, rfl⟩ := rx
  obtain ⟨t', rfl⟩ := ry
  exact rule i j t t' s _ _ ⟨.int (g i j), H, I.tok _, ⟨_, rfl⟩, q⟩
theorem opB0 {f : Value → Value → Sem Value} {g : Int → Int → Bool}
    (rule : ∀ (i j : Int) (t u : Tok) (s : Shared) (Q : Value → Shared → Prop) (E : Value → Shared → Prop), Q (.bool (g i j)) s → wpAny (model X.prog X.w) X.A (f (.int i t) (.int j u)) Q E s) :
    OpR X f (rI0 fun i j => .bl (g i j)) := by
  intro pins s σ H x y v u Q I rx ry h
  obtain ⟨i, j, rfl, rfl, q⟩ := h
  obtain ⟨t, rfl⟩ := rx
  obtain ⟨t', rfl⟩ := ry
  exact rule i j t t' s _ _ ⟨.bl (g i j), H, I, rfl, q⟩

def CDiv (i j : Int) : Prop := 0 < j ∧ j < 1073741824
def CPow (i j : Int) : Prop := 0 ≤ j ∧ j ≤ 1000000 ∧ i.natAbs < 2 ^ 64
def CMul (i j : Int) : Prop := (-(2 ^ 64) < i ∧ i < 2 ^ 64) ∨ (-(2 ^ 64) < j ∧ j < 2 ^ 64)
theorem CMul.ok {i j : Int} (h : CMul i j) : IntMulOk i j := by
  rcases h with ⟨h1, h2⟩ | ⟨h1, h2⟩
  · exact .of_left (intBits_le_64 h1 h2)
  · exact .of_right (intBits_le_64 h1 h2)
theorem op_add : OpR X (binaryOp .Add) (rI0 fun i j => .int (i + j)) := opI0 fun _ _ _ _ _ _ _ q => add_int q
theorem op_sub : OpR X (binaryOp .Sub) (rI0 fun i j => .int (i - j)) := opI0 fun _ _ _ _ _ _ _ q => sub_int q
theorem op_mul : OpR X (binaryOp .Mult) (rI CMul fun i j => .int (i * j)) := opI fun _ _ _ _ _ _ _ hc q => mul_int q hc.ok
/-- // by a positive divisor -/
theorem op_fdiv : OpR X (binaryOp .FloorDiv) (rI CDiv fun i j => .int (i / j)) := opI fun i j _ _ _ _ _ hc q => by
  have h1 : (0 : Int) < j := hc.1
  have h2 : j < 1073741824 := hc.2
  exact floordiv_int (by omega) (by rw [Int.fdiv_eq_ediv_of_nonneg i (by omega)]; exact q) (.inl (PyProof.noPylong_small (by omega)))
/-- % by a positive divisor of any size -/
theorem op_mod : OpR X (binaryOp .Mod) (rI (fun _ j => 0 < j) fun i j => .int (i % j)) := opI fun i j _ _ _ _ _ hc q => by
  have h1 : (0 : Int) < j := hc
  exact mod_int' (by omega) (by rw [Int.fmod_eq_emod_of_nonneg i (by omega)]; exact q)
theorem op_pow : OpR X (binaryOp .Pow) (rI CPow fun i j => .int (i ^ j.toNat)) := opI fun _ _ _ _ _ _ _ hc q => pow_int_small hc.1 hc.2.1 hc.2.2 q
theorem unI {f : Value → Sem Value} {g : Int → Int}
    (rule : ∀ (i : Int) (t : Tok) (s : Shared) (Q : Value → Shared → Prop) (E : Value → Shared → Prop), Q (.int (g i) s.toks) { s with toks := s.toks + 1 } → wpAny (model X.prog X.w) X.A (f (.int i t)) Q E s) :
    UnR X f (rU fun i => .int (g i)) := by
  intro pins s σ H x v Q I rx h
  obtain ⟨i, rfl, q⟩ := h
  obtain ⟨t, rfl⟩ := rx
  exact rule i t s _ _ ⟨.int (g i), H, I.tok _, ⟨_, rfl⟩, q⟩
theorem un_neg : UnR X (unaryOp .USub) (rU fun i => .int (-i)) := unI fun _ _ _ _ _ q => neg_int q
/-! ### bools among ints: n += (a < b) -/
end

/-! ### comparisons -/
/-- the scalars that == tells apart as data does -/
def scal : V → V → Bool
  | .non, .non => true | .non, .int _ => true | .int _, .non => true | .non, .bl _ => true | .bl _, .non => true | .non, .str _ => true | .str _, .non => true
  | .int _, .int _ => true | .bl _, .bl _ => true | .str _, .str _ => true | .byt _, .byt _ => true
  | .int _, .str _ => true | .str _, .int _ => true | .bl _, .str _ => true | .str _, .bl _ => true
  | _, _ => false
def rEq : R2 := fun x y H Q => scal x y = true ∧ Q (.bl (decide (x = y))) H
def rNe : R2 := fun x y H Q => scal x y = true ∧ Q (.bl (!decide (x = y))) H

theorem dec_int {i j : Int} : decide (V.int i = V.int j) = (i == j) := by
  rw [Bool.eq_iff_iff]
  simp
theorem dec_bl {i j : Bool} : decide (V.bl i = V.bl j) = (i == j) := by
  rw [Bool.eq_iff_iff]
  simp
theorem dec_str {i j : Str} : decide (V.str i = V.str j) = (i == j) := by
  rw [Bool.eq_iff_iff]
  simp
theorem dec_byt {i j : Array UInt8} : decide (V.byt i = V.byt j) = (i.toList == j.toList) := by
  rw [Bool.eq_iff_iff]
  cases i
  cases j
  simp

section
variable {X : Cx} {a b c : Expr} {ta tb tc : TE} {pos : Pos}
theorem fin_bl {pins : List (Addr × Obj)} {σ : St} {H : Hp} {s : Shared} {Q : VK} {k k' : Bool} (I : Inv X pins σ H s) (q : Q (.bl k) H) (e : k = k') : EP X pins σ Q (.bool k') s := by
  subst e
  exact ⟨.bl k, H, I, rfl, q⟩
theorem op_eq : OpR X (compareOp .Eq) rEq := by
  intro pins s σ H x y v u Q I rx ry h
  obtain ⟨hs, q⟩ := h
  cases x with
  | non =>
    cases rx
    cases y with
    | non => cases ry; exact PySem.EqNone.eq_none_none (fin_bl I q (by simp))
    | bl j => cases ry; exact PySem.EqNone.eq_none_bool (fin_bl I q (by simp))
    | int j => obtain ⟨t', rfl⟩ := ry; exact PySem.EqNone.eq_none_int (fin_bl I q (by simp))
    | str j => obtain ⟨t', rfl⟩ := ry; exact PySem.EqNone.eq_none_str (fin_bl I q (by simp))
    | _ => exact absurd (show false = true from hs) Bool.false_ne_true
  | bl i =>
    cases rx
    cases y with
    | non => cases ry; exact PySem.EqNone.eq_bool_none (fin_bl I q (by simp))
    | bl j => cases ry; exact eq_bool (fin_bl I q dec_bl)
    | str j => obtain ⟨t', rfl⟩ := ry; exact PySem.EqMixed.eq_bool_str (fin_bl I q (by simp))
    | _ => exact absurd (show false = true from hs) Bool.false_ne_true
  | int i =>
    obtain ⟨t, rfl⟩ := rx
    cases y with
    | non => cases ry; exact PySem.EqNone.eq_int_none (fin_bl I q (by simp))
    | int j => obtain ⟨t', rfl⟩ := ry; exact eq_int (fin_bl I q dec_int)
    | str j => obtain ⟨t', rfl⟩ := ry; exact PySem.EqMixed.eq_int_str (fin_bl I q (by simp))
    | _ => exact absurd (show false = true from hs) Bool.false_ne_true
  | str i =>
    obtain ⟨t, rfl⟩ := rx
    cases y with
    | non => cases ry; exact PySem.EqNone.eq_str_none (fin_bl I q (by simp))
    | bl j => cases ry; exact PySem.EqMixed.eq_str_bool (fin_bl I q (by simp))
    | int j => obtain ⟨t', rfl⟩ := ry; exact PySem.EqMixed.eq_str_int (fin_bl I q (by simp))
    | str j => obtain ⟨t', rfl⟩ := ry; exact eq_str (fin_bl I q dec_str)
    | _ => exact absurd (show false = true from hs) Bool.false_ne_true
  | byt i =>
    obtain ⟨t, rfl⟩ := rx
    cases y with
    | byt j => obtain ⟨t', rfl⟩ := ry; exact PySem.W.eq_bytes (fin_bl I q dec_byt)
    | _ => exact absurd (show false = true from hs) Bool.false_ne_true
  | _ => cases y <;> exact absurd (show false = true from hs) Bool.false_ne_true
theorem op_ne : OpR X (compareOp .NotEq) rNe := by
  intro pins s σ H x y v u Q I rx ry h
  obtain ⟨hs, q⟩ := h
  cases x with
  | non =>
    cases rx
    cases y with
    | non => cases ry; exact PySem.EqNone.ne_none_none (fin_bl I q (by simp))
    | bl j => cases ry; exact PySem.EqNone.ne_none_bool (fin_bl I q (by simp))
    | int j => obtain ⟨t', rfl⟩ := ry; exact PySem.EqNone.ne_none_int (fin_bl I q (by simp))
    | str j => obtain ⟨t', rfl⟩ := ry; exact PySem.EqNone.ne_none_str (fin_bl I q (by simp))
    | _ => exact absurd (show false = true from hs) Bool.false_ne_true
  | bl i =>
    cases rx
    cases y with
    | non => cases ry; exact PySem.EqNone.ne_bool_none (fin_bl I q (by simp))
    | bl j => cases ry; exact ne_bool (fin_bl I q (congrArg not dec_bl))
    | str j => obtain ⟨t', rfl⟩ := ry; exact PySem.EqMixed.ne_bool_str (fin_bl I q (by simp))
    | _ => exact absurd (show false = true from hs) Bool.false_ne_true
  | int i =>
    obtain ⟨t, rfl⟩ := rx
    cases y with
    | non => cases ry; exact PySem.EqNone.ne_int_none (fin_bl I q (by simp))
    | int j => obtain ⟨t', rfl⟩ := ry; exact ne_int (fin_bl I q (congrArg not dec_int))
    | str j => obtain ⟨t', rfl⟩ := ry; exact PySem.EqMixed.ne_int_str (fin_bl I q (by simp))
    | _ => exact absurd (show false = true from hs) Bool.false_ne_true
  | str i =>
    obtain ⟨t, rfl⟩ := rx
    cases y with
    | non => cases ry; exact PySem.EqNone.ne_str_none (fin_bl I q (by simp))
    | bl j => cases ry; exact PySem.EqMixed.ne_str_bool (fin_bl I q (by simp))
    | int j => obtain ⟨t', rfl⟩ := ry; exact PySem.EqMixed.ne_str_int (fin_bl I q (by simp))
    | str j => obtain ⟨t', rfl⟩ := ry; exact ne_str (fin_bl I q (congrArg not dec_str))
    | _ => exact absurd (show false = true from hs) Bool.false_ne_true
  | byt i =>
    obtain ⟨t, rfl⟩ := rx
    cases y with
    | byt j => obtain ⟨t', rfl⟩ := ry; exact PySem.W.ne_bytes (fin_bl I q (congrArg not dec_byt))
    | _ => exact absurd (show false = true from hs) Bool.false_ne_true
  | _ => cases y <;> exact absurd (show false = true from hs) Bool.false_ne_true

theorem op_lt : OpR X (compareOp .Lt) (rI0 fun i j => .bl (decide (i < j))) := opB0 fun _ _ _ _ _ _ _ q => lt_int q
theorem op_gt : OpR X (compareOp .Gt) (rI0 fun i j => .bl (decide (j < i))) := opB0 fun _ _ _ _ _ _ _ q => gt_int q
theorem op_notN : OpR X (compareOp .IsNot) (fun x y H Q => y = .non ∧ Q (.bl (!decide (x = .non))) H) := by
  intro pins s σ H x y v u Q I rx ry h
  obtain ⟨rfl, q⟩ := h
  cases ry
  refine isnot_none_gen (fin_bl I q ?_)
  cases x <;> first
    | (cases rx; rfl)
    | (obtain ⟨t, rfl⟩ := rx; rfl)

theorem nomark (b : Expr) {op : CmpOp} (h : op ≠ .In := by decide) (h2 : op ≠ .NotIn := by decide) : behindInMarks op b = false := by
  have e1 : (op == CmpOp.In) = false := by cases op <;> first | rfl | exact absurd rfl h
  have e2 : (op == CmpOp.NotIn) = false := by cases op <;> first | rfl | exact absurd rfl h2
  cases b <;> simp [behindInMarks, e1, e2]
/-- a comparison as a value; hm: nomark b, or (for in, not in) by with_unfolding_all rfl -/
theorem pe_cmpR {op : CmpOp} {r : R2} (ho : OpR X (compareOp op) r) (ha : PE X a ta) (hb : PE X b tb) (hm : behindInMarks op b = false) : PE X (.Compare a [op] [b] pos) (tOp r ta tb) := by
  intro pins s σ H Q I h
  exact wpAny_Compare1 (binT ha hb I h fun v u s2 x y H2 I2 rx ry q => ho pins s2 σ H2 x y v u Q I2 rx ry q) hm
/-- a reading of a value as a test -/
def tTest (t : TE) : TT := fun σ H Q => t σ H fun x H' => ∃ k, x = .bl k ∧ Q k H'
theorem pt_cmpR {op : CmpOp} {r : R2} (ho : OpR X (compareOp op) r) (ha : PE X a ta) (hb : PE X b tb) (hm : behindInMarks op b = false) : PT X (.Compare a [op] [b] pos) (tTest (tOp r ta tb)) := by
  intro pins s σ H Q I h
  refine wpAny_isTrue_Compare1 (thn (ha pins s σ H _ I h) fun v s1 ⟨x, H1, I1, r1, q1⟩ => thn (hb pins s1 σ H1 _ I1 q1) fun u s2 ⟨y, H2, I2, r2, q2⟩ =>
    thn (ho pins s2 σ H2 x y v u _ I2 r1 r2 q2) fun c s3 ⟨z, H3, I3, r3, k, e, q3⟩ => ?_) hm
  subst e
  cases r3
  exact wpAny_truthy_bool ⟨H3, I3, q3⟩
/-! ### truth -/
/-- a value's truth by the abstract heap -/
def TruV (K : PySem.W.Frag) (x : V) (H : Hp) (k : Bool) : Prop :=
  match x with
  | .non => k = false
  | .bl b => k = b
  | .int i => k = (i != 0)
  | .str y => y.length ≤ sizeLine ∧ k = ((y.length : Int) != 0)
  | .byt y => y.size ≤ sizeLine ∧ k = ((y.size : Int) != 0)
  | .ref p => (∃ xs, SqL K H p xs ∧ k = !xs.isEmpty) ∨ (∃ xs, SqT K H p xs ∧ k = !xs.isEmpty) ∨ ∃ kvs, H p = some (.dK kvs) ∧ k = !kvs.isEmpty
  | _ => False
theorem isEmpty_kv {κ : Type} {kvs : List (κ × V)} {vs : List (κ × Value)} (r : KV kvs vs) : (!vs.isEmpty) = !kvs.isEmpty := by
  cases r <;> rfl
theorem isEmpty_of {xs : List V} {its : List Value} (r : Vals xs its) : (!its.toArray.isEmpty) = !xs.isEmpty := by
  cases r <;> simp
theorem line63 : (sizeLine : Nat) < 2 ^ 63 := by rw [sizeLine_eq]; decide
theorem tru_ok : TruR X (fun x H Q => ∃ k, TruV X.K x H k ∧ Q k H) := by
  intro pins s σ H x v Q I rx h
  obtain ⟨k, e, q⟩ := h
  have hl := line63
  have hs : sizeLine = 16777216 := sizeLine_eq
  cases x with
  | non =>
    cases rx
    have e' : k = false := e
    subst e'
    exact truthy_none ⟨H, I, q⟩
  | bl b =>
    cases rx
    have e' : k = b := e
    subst e'
    exact wpAny_truthy_bool ⟨H, I, q⟩
  | int i =>
    obtain ⟨t, rfl⟩ := rx
    have e' : k = (i != 0) := e
    subst e'
    exact PySem.P.truthy_int ⟨H, I, q⟩
  | str y =>
    obtain ⟨t, rfl⟩ := rx
    obtain ⟨hy, e'⟩ : y.length ≤ sizeLine ∧ k = ((y.length : Int) != 0) := e
    subst e'
    exact PySem.P.truthy_str (by omega) ⟨H, I.tok _, q⟩
  | byt y =>
    obtain ⟨t, rfl⟩ := rx
    obtain ⟨hy, e'⟩ : y.size ≤ sizeLine ∧ k = ((y.size : Int) != 0) := e
    subst e'
    exact PySem.W.truthy_bytes (by omega) ⟨H, I.tok _, q⟩
  | ref p =>
    cases rx
    have e' : (∃ xs, SqL X.K H p xs ∧ k = !xs.isEmpty) ∨ (∃ xs, SqT X.K H p xs ∧ k = !xs.isEmpty) ∨ ∃ kvs, H p = some (.dK kvs) ∧ k = !kvs.isEmpty := e
    rcases e' with ⟨xs, hx, e'⟩ | ⟨xs, hx, e'⟩ | ⟨kvs, hx, e'⟩
    · subst e'
      obtain ⟨its, r, pl, hz⟩ := I.list hx
      have hlen := r.length
      exact wpAny_truthy_list pl.isList (by simp only [List.size_toArray]; omega) ⟨H, I.tok _, by rw [isEmpty_of r]; exact q⟩
    · subst e'
      obtain ⟨its, r, pl, hz⟩ := I.tuple hx
      have hlen := r.length
      exact truthy_tuple pl (by simp only [List.size_toArray]; omega) ⟨H, I.tok _, by rw [isEmpty_of r]; exact q⟩
    · subst e'
      obtain ⟨hz, hS, vs, r, m⟩ : kvs.length ≤ sizeLine ∧ (p == sysModules) = false ∧ ∃ vs, KV kvs vs ∧ s.heap.DictOf (mixKind X.prog X.w) p vs := I.hok p _ hx
      have hlen : kvs.length = vs.length := Paired.length r
      exact wpAny_truthy_dict hS m (by omega) ⟨H, I.tok _, by rw [isEmpty_kv r]; exact q⟩
  | _ => exact (show False from e).elim
/-- any expression whose test is its value's truth (a name, a call, a subscript, a field ..: he by fun _ => rfl) -/
theorem pt_truth (ha : PE X a ta) (he : ∀ whole, isTrue a X.env whole = (do let v ← whole; standAt a.pos; holding [v] (truthy v))) :
    PT X a (fun σ H Q => ta σ H fun x H' => ∃ k, TruV X.K x H' k ∧ Q k H') := by
  intro pins s σ H Q I h
  exact isTrue_plain (thn (ha pins s σ H _ I h) fun v s1 ⟨x, H1, I1, r1, q1⟩ => tru_ok pins s1 σ H1 x v Q I1 r1 q1) (he _)

/-! ### strs and bytes -/
theorem op_add_str : OpR X (binaryOp .Add) (fun x y H Q => ∃ i j, x = .str i ∧ y = .str j ∧ i.length + j.length ≤ sizeLine ∧ Q (.str (i ++ j)) H) := by
  intro pins s σ H x y v u Q I rx ry h
  obtain ⟨i, j, rfl, rfl, hz, q⟩ := h
  obtain ⟨t, rfl⟩ := rx
  obtain ⟨t', rfl⟩ := ry
  exact add_str (fun t' tk => ⟨.str (i ++ j), H, I.tok _, ⟨_, rfl⟩, q⟩) hz
/-! ### scalar builtins, by CallR -/
theorem vals1 {x : V} {us : List Value} (r : Vals [x] us) : ∃ u, us = [u] ∧ RelV x u := by
  cases r with
  | cons r1 r2 => cases r2; exact ⟨_, rfl, r1⟩
theorem vals2 {x y : V} {us : List Value} (r : Vals [x, y] us) : ∃ u w', us = [u, w'] ∧ RelV x u ∧ RelV y w' := by
  cases r with
  | cons r1 r2 =>
    cases r2 with
    | cons r3 r4 => cases r4; exact ⟨_, _, rfl, r1, r3⟩
theorem call_str_int : CallR X (.type "str") (fun xs H Q => ∃ i, xs = [.int i] ∧ i.natAbs.log2 < 1920 ∧ Q (.str (toString i)) H) := by
  intro pins s σ H xs us Q I r h
  obtain ⟨i, rfl, hz, q⟩ := h
  obtain ⟨u, rfl, t, rfl⟩ := vals1 r
  exact PySem.P.str_of_int hz ⟨.str _, H, I.tok _, ⟨_, rfl⟩, q⟩
end
end L2

namespace L2
open PySem PySem.Spec PyProof.Rows

/-! ### an instance, its attributes a map -/
structure ObjM (h : Heap) (x dx C : Addr) (mA : Str → Option Value) : Prop where
  obj : h.get? x = some (PySem.W.instObj C dx)
  ns : h.Ns1 dx mA
  ne : dx ≠ x

theorem lookIn_ns {h : Heap} {dx : Addr} {mA : Str → Option Value} (n : h.Ns1 dx mA) : ∃ od, h.get? dx = some od ∧ ∀ name, PySem.W.lookIn name od = some (mA name) := by
  obtain ⟨o, es, ep, ho, hd, hk, _, hm⟩ := n
  refine ⟨o, ho, fun name => ?_⟩
  have e := hm name
  unfold nsFind findBy at e
  rw [← Array.find?_toList] at e
  unfold PySem.W.lookIn
  rw [hd]
  dsimp only
  split
  · rename_i y q
    rw [q] at e
    exact congrArg some e
  · rename_i q
    rw [q] at e
    have a : es.toList.any (·.refKey) = false := by
      rw [List.any_eq_false]
      intro y hy
      obtain ⟨z, t, hkey⟩ := hk y (Array.mem_toList_iff.mp hy)
      simp [DictEntry.refKey, hkey]
    have a' : ¬ es.toList.any (·.refKey) = true := by rw [a]; exact Bool.false_ne_true
    rw [if_neg a']
    exact congrArg some e

theorem ObjM.look {h : Heap} {x dx C : Addr} {mA : Str → Option Value} (I : ObjM h x dx C mA) : ∃ od, PySem.W.InstAt h x (PySem.W.instObj C dx) C (some od) ∧ ∀ name, PySem.W.lookIn name od = some (mA name) :=
  let ⟨od, ho, hl⟩ := lookIn_ns I.ns
  ⟨od, ⟨I.obj, rfl, rfl, ho⟩, hl⟩

section
variable {prog : Program} {w : World} {A : Around} {E : Value → Shared → Prop} {s : Shared} {K : PySem.W.Frag} {x dx C f : Addr} {mA : Str → Option Value} {name : Str} {v : Value}

end

/-! ### the attributes as a list of pairs -/
theorem RelO.some_of {v : V} {o : Option Value} (r : RelO (some v) o) : ∃ u, o = some u ∧ RelV v u := by
  cases o with
  | none => exact (show False from r).elim
  | some u => exact ⟨u, rfl, r⟩
section
variable {P : Program} {w : World} {H H' : Hp} {h h' : Heap} {a C dx : Addr} {fs fs' : List (Str × V)}
theorem ins_get (hok : HOk P w H h) (e : H a = some (.ins C dx fs)) : ∃ mA, ObjM h a dx C mA ∧ (∀ f, RelO (fs.lookup f) (mA f)) ∧ PySem.Within mA (fs.map (·.1)) ∧ fs.length ≤ 1000 ∧ H dx = some (.own a) := by
  obtain ⟨d, z, ne, ob, mA, n, r, q⟩ := (show ObjOk P w H h a (.ins C dx fs) from hok a _ e)
  exact ⟨mA, ⟨ob, n, ne⟩, r, q, z, d⟩
end

/-! ### what of the text a class must have -/
structure Cls (K : PySem.W.Frag) (C : Addr) : Prop where
  pg : PySem.W.plainGet K C Str.empty = true
  hd : PySem.W.hasDictIn K C = true
  po : PySem.W.plainOver K C = true
  sa : PySem.W.findIn K (.ref C) "__setattr__" = some (some (.builtin "object.__setattr__"))
theorem Cls.get {K : PySem.W.Frag} {C : Addr} (c : Cls K C) (f : Str) : PySem.W.plainGet K C f = true := c.pg
/-- a constant of the class -/
structure Con (K : PySem.W.Frag) (C : Addr) (f : Str) (v : V) (u : Value) : Prop where
  at_ : PySem.W.findIn K (.ref C) f = some (some u)
  rel : RelV v u
  get : PySem.W.specialIn K u "__get__" = some none
  cp : PySem.W.copiedNames.contains f = false
/-- a method: a plain def of the class or of one above it -/
structure Meth (K : PySem.W.Frag) (C : Addr) (m : Str) (f : Addr) : Prop where
  at_ : PySem.W.findIn K (.ref C) m = some (some (.ref f))
  fn : PySem.W.isFn K (.ref f) = true
  kp : PySem.W.keepIn K (.ref f) = true

section
variable {X : Cx} {pins : List (Addr × Obj)} {σ : St} {H : Hp} {s : Shared} {a C dx : Addr} {fs : List (Str × V)} {f : Str} {v : V} {A : Around} {E : Value → Shared → Prop}

end

/-! ### readings and rules -/
section
variable {X : Cx} {o e value : Expr} {f : Str} {pos pos' tpos : Pos} {ta tv : TE}
end

/-! ### isinstance -/
section
variable {X : Cx} {pins : List (Addr × Obj)} {σ : St} {H : Hp} {s : Shared} {A : Around} {E : Value → Shared → Prop} {Q : Value → Shared → Prop} {c : Value} {b : Bool}
/-- the type of a value, as the fragment's deciders take it; for an instance its class -/
inductive TyOf (K : PySem.W.Frag) (H : Hp) : V → Value → Prop where
  | non : TyOf K H .non (.type "NoneType")
  | bl (x : Bool) : TyOf K H (.bl x) (.type "bool")
  | int (i : Int) : TyOf K H (.int i) (.type "int")
  | str (x : Str) : TyOf K H (.str x) (.type "str")
  | flt (x : UInt64) : TyOf K H (.flt x) (.type "float")
  | lst {a : Addr} {xs : List V} (e : H a = some (.lst xs)) : TyOf K H (.ref a) (.type "list")
  | frz {a : Addr} {o : Obj} {xs : List V} (e : H a = some (.frz o (.lst xs))) : TyOf K H (.ref a) (.type "list")
  | tup {a : Addr} {xs : List V} (e : H a = some (.tup xs)) : TyOf K H (.ref a) (.type "tuple")
  | dK {a : Addr} {kvs : List (Key × V)} (e : H a = some (.dK kvs)) : TyOf K H (.ref a) (.type "dict")
  | dT {a : Addr} {kvs : List (List Key × V)} (e : H a = some (.dT kvs)) : TyOf K H (.ref a) (.type "dict")
  | ins {a C dx : Addr} {fs : List (Str × V)} (e : H a = some (.ins C dx fs)) (cl : Cls K C) (ha : PySem.W.findIn K (.ref C) "__class__" = some (some (.builtin "object.__class__")))
      (hn : PySem.W.specialIn K (.builtin "object.__class__") "__get__" = some (some (.builtin "getset_descriptor.__get__"))) (htk : PySem.W.takesIn K (.builtin "object.__class__") = some true)
      (hm : PySem.W.mroIn K C (.type "object") = some true) : TyOf K H (.ref a) (.ref C)
/-- isinstance(x, c) for one class c, a built-in or an own one: kitOne's answer -/
theorem isinst_ok {x : V} {u t : Value} (I : Inv X pins σ H s) (rx : RelV x u) (ty : TyOf X.K H x t) (e : PySem.W.kitOne X.K t c = some b) (h : ∀ tk, Q (.bool b) { s with toks := tk }) :
    wpAny (model X.prog X.w) A (call (.builtin "isinstance") [u, c]) Q E s := by
  cases ty with
  | non => cases (show u = Value.none from rx); exact PySem.W.kia_one PySem.W.kitx_none I.kIn True.intro e (fun z => nomatch z) h
  | bl y => cases (show u = Value.bool y from rx); exact PySem.W.kia_one PySem.W.kitx_bool I.kIn True.intro e (fun z => nomatch z) h
  | int i => obtain ⟨t, q⟩ := (show ∃ t, u = Value.int i t from rx); cases q; exact PySem.W.kia_one PySem.W.kitx_int I.kIn True.intro e (fun z => nomatch z) h
  | str y => obtain ⟨t, q⟩ := (show ∃ t, u = Value.str y t from rx); cases q; exact PySem.W.kia_one PySem.W.kitx_str I.kIn True.intro e (fun z => nomatch z) h
  | flt y => obtain ⟨t, q⟩ := (show ∃ t, u = Value.float y t from rx); cases q; exact PySem.W.kia_one PySem.W.kitx_float I.kIn True.intro e (fun z => nomatch z) h
  | @lst a xs ea =>
    cases (show u = Value.ref a from rx)
    obtain ⟨_, _, n, _, h1⟩ := (show ObjOk X.prog X.w H s.heap a (.lst xs) from I.hok a _ ea)
    exact PySem.W.kia_one PySem.W.kitx_list I.kIn ⟨_, h1, rfl⟩ e (fun z => nomatch z) h
  | @frz a ob xs ea =>
    cases (show u = Value.ref a from rx)
    obtain ⟨_, _, _, n, _, h1⟩ := (show ObjOk X.prog X.w H s.heap a (.frz ob (.lst xs)) from I.hok a _ ea)
    exact PySem.W.kia_one PySem.W.kitx_list I.kIn ⟨_, h1, rfl⟩ e (fun z => nomatch z) h
  | @tup a xs ea =>
    cases (show u = Value.ref a from rx)
    obtain ⟨_, _, _, p⟩ := (show ObjOk X.prog X.w H s.heap a (.tup xs) from I.hok a _ ea)
    obtain ⟨o, h1, h2, _⟩ := p
    exact PySem.W.kia_one PySem.W.kitx_tuple I.kIn ⟨o, h1, h2⟩ e (fun z => nomatch z) h
  | @dK a kvs ea =>
    cases (show u = Value.ref a from rx)
    obtain ⟨_, _, vs, _, p⟩ := (show ObjOk X.prog X.w H s.heap a (.dK kvs) from I.hok a _ ea)
    obtain ⟨o, es, ep, h1, h2, _⟩ := p
    exact PySem.W.kia_one PySem.W.kitx_dict I.kIn ⟨o, h1, h2.1⟩ e (fun z => nomatch z) h
  | @dT a kvs ea =>
    cases (show u = Value.ref a from rx)
    obtain ⟨_, _, xs, _, o, es, ep, h1, h2, _⟩ := (show ObjOk X.prog X.w H s.heap a (.dT kvs) from I.hok a _ ea)
    exact PySem.W.kia_one PySem.W.kitx_dict I.kIn ⟨o, h1, h2.1⟩ e (fun z => nomatch z) h
  | @ins a C dx fs ea cl ha hn htk hm =>
    cases (show u = Value.ref a from rx)
    obtain ⟨mA, O, _⟩ := ins_get I.hok ea
    obtain ⟨od, J, _⟩ := O.look
    exact PySem.W.kia_one (PySem.W.kitx_own (cl.get _) cl.hd ha hn htk hm) I.kIn J e (fun z => nomatch z) h
end
end L2

namespace L2
open PySem PySem.Spec PyProof.Rows

/-! ### room -/
structure Room (k : Nat) (A : Around) : Prop where
  hd : A.handled = none
  dp : A.depth + 3 * k + 5 < recursionLimit
  un : A.units + 16 * k + 200 < cLine
theorem Room.mono {j k : Nat} {A : Around} (r : Room k A) (h : j ≤ k) : Room j A := ⟨r.hd, by have := r.dp; omega, by have := r.un; omega⟩
theorem Room.deeper {k : Nat} {A : Around} (r : Room (k + 1) A) (env : Env) : Room k (A.deeper env) :=
  ⟨r.hd, by have := r.dp; show A.depth + 1 + 3 * k + 5 < _; omega, by have := r.un; show A.units + 3 + 16 * k + 200 < _; omega⟩
theorem Room.depth {k : Nat} {A : Around} (r : Room k A) : A.depth < recursionLimit := by have := r.dp; omega
theorem Room.units {k : Nat} {A : Around} (r : Room k A) : A.units + 64 < cLine := by have := r.un; omega
/-! ### argument lists and displays -/
def tNil : TA := fun _ H Q => Q [] H
def tCons (ta : TE) (tr : TA) : TA := fun σ H Q => ta σ H fun x H1 => tr σ H1 fun xs H2 => Q (x :: xs) H2
section
variable {X : Cx} {e : Expr} {es : List Expr} {te : TE} {t : TA} {pos : Pos}
theorem pa_nil : PA X [] tNil := fun _ _ _ _ H Q I h => Calls.spliced_nil ⟨[], H, I, .nil, h⟩
theorem pa_cons (ha : PE X e te) (hr : PA X es t) (hs : starEach (e :: es) X.env = (false, eval e X.env) :: starEach es X.env := by rfl) : PA X (e :: es) (tCons te t) := by
  intro pos pins s σ H Q I h
  rw [hs]
  show wpAny _ _ (spliced ((false, eval e X.env) :: backTo pos (starEach es X.env))) _ _ s
  refine Calls.spliced_cons (thn (ha pins s σ H _ I h) fun u s1 ⟨x, H1, I1, r1, q1⟩ => ?_)
  exact thn (hr pos pins s1 σ H1 _ I1 q1) fun us s2 ⟨xs, H2, I2, r2, q2⟩ => ⟨x :: xs, H2, I2, .cons r1 r2, q2⟩

/-- a tuple, a list of written items -/
def tTup (t : TA) : TE := fun σ H Q => t σ H fun xs H1 => xs.length ≤ sizeLine ∧ ∀ p, H1 p = none → Q (.ref p) (upd H1 p (.tup xs))
def tLst (t : TA) : TE := fun σ H Q => t σ H fun xs H1 => xs.length ≤ sizeLine ∧ ∀ p, H1 p = none → Q (.ref p) (upd H1 p (.lst xs))
theorem pe_tup {x1} (h : PA X es t) : PE X (.Tuple es x1 pos) (tTup t) := by
  intro pins s σ H Q I hq
  refine wpAny_Tuple_spliced (thn (h pos pins s σ H _ I hq) fun us s1 ⟨xs, H1, I1, r, z, q⟩ => ⟨by rw [← r.length]; exact z, ?_⟩)
  have hf : H1 s1.heap.objs.size = none := I1.hok.fresh (Nat.le_refl _)
  refine ⟨.ref s1.heap.objs.size, upd H1 s1.heap.objs.size (.tup xs), I1.laid (t' := s1.toks) (fun b u e => Heap.get?_push_of_some _ e) (Nat.le_refl _) ?_, rfl, q _ hf⟩
  exact ⟨z, us, r, ⟨_, Heap.get?_push_size _ rfl, rfl, _, rfl⟩⟩
theorem pe_lst (h : PA X es t) : PE X (.List es pos) (tLst t) := by
  intro pins s σ H Q I hq
  refine wpAny_List_spliced (thn (h pos pins s σ H _ I hq) fun us s1 ⟨xs, H1, I1, r, z, q⟩ => ⟨by rw [← r.length]; exact z, ?_⟩)
  have hf : H1 s1.heap.objs.size = none := I1.hok.fresh (Nat.le_refl _)
  refine ⟨.ref s1.heap.objs.size, upd H1 s1.heap.objs.size (.lst xs), I1.laid (t' := s1.toks) (fun b u e => Heap.get?_push_of_some _ e) (Nat.le_refl _) ?_, rfl, q _ hf⟩
  exact ⟨z, us, 0, r, Heap.get?_push_size _ rfl⟩
end

/-! ### what a def promises -/
/-- a def's promise: the bound arguments in the parameters' order, the heap, the wanted end, the wanted exception -/
abbrev Sp := List V → Hp → VK → XK → Prop
/-- how an exception lies behind a call (file 08 gives it): the callers' frames, abstract heap and state ahead of the call, the wish, the exception, the state -/
abbrev CXT := List Env → Hp → Shared → XK → Value → Shared → Prop

/-- the state at a call -/
structure Env0 (P : Program) (w : World) (K : PySem.W.Frag) (mg : Str → Option Value) (base : Heap) (A : Around) (outer : List Env) (s : Shared) (H : Hp) : Prop where
  frames : A.frames = some outer
  mod : Mod K mg base
  bs : ∀ b o, base.get? b = some o → s.heap.get? b = some o ∧ H b = none
  bsz : base.objs.size ≤ s.heap.objs.size
  funs : s.heap.FunFrames base outer
  frf : ∀ b ∈ frs outer, H b = none
  hok : HOk P w H s.heap
  bare : AllBare s.gens
/-- a call's end -/
def CE (outer : List Env) (P : Program) (w : World) (H : Hp) (s : Shared) (Q : VK) (u : Value) (s' : Shared) : Prop :=
  ∃ v H', s'.os = s.os ∧ AllBare s'.gens ∧ Un (frs outer) [] H H' s.heap s'.heap ∧ HOk P w H' s'.heap ∧ RelV v u ∧ Q v H'
def CR (CX : CXT) (outer : List Env) (P : Program) (w : World) (H : Hp) (s : Shared) (Q : VK) (E : XK) (r : Result) (s' : Shared) : Prop :=
  match r with
  | .ok (.ret u) => CE outer P w H s Q u s'
  | .ok _ => False
  | .error e => CX outer H s E e s'
structure FnOk (P : Program) (w : World) (K : PySem.W.Frag) (mg : Str → Option Value) (base : Heap) (CX : CXT) (k : Nat) (f : Addr) (fd : FuncData) (ps : List Str) (sp : Sp) : Prop where
  len : ∀ vs H Q E, sp vs H Q E → vs.length = ps.length
  run : ∀ (A : Around) (outer : List Env) (s : Shared) (H : Hp) (args : Args) (us : List Value) (vs : List V) (Q : VK) (E : XK), Room k A → Env0 P w K mg base A outer s H → BindsTo s fd args (ps.zip us) → Vals vs us → sp vs H Q E →
    codeAny (model P w) A (.call (.ref f) args) (CR CX outer P w H s Q E) s
section
variable {X : Cx} {pins : List (Addr × Obj)} {σ : St} {H : Hp} {s s' : Shared}
/-- from a body: what a callee wants -/
theorem Inv.env0 (I : Inv X pins σ H s) : Env0 X.prog X.w X.K X.mg X.base X.A X.stack s H :=
  ⟨I.ok.frames, I.ok.mod, I.bs, Nat.le_trans I.ok.bsz I.sz, I.stack, I.stkFree, I.hok, I.bare⟩
/-- behind a call -/
theorem Inv.after {Q : VK} {u : Value} (I : Inv X pins σ H s) (h : CE X.stack X.prog X.w H s Q u s') : EP X pins σ Q u s' := by
  obtain ⟨v, H', os, bare, un, hok, r, q⟩ := h
  obtain ⟨hh, g, d, t, os'⟩ := s'
  obtain rfl : os' = s.os := os
  exact ⟨v, H', I.call (h' := hh) (g' := g) (d' := d) (t' := t) (ch := []) un hok bare (fun b z => absurd z (by simp)), r, q⟩
end

/-! ### calls -/
/-- f(..): the written arguments, then the defaults dvs; E: what is wanted of an exception -/
def tCall (sp : Sp) (dvs : List V) (E : XK) (t : TA) : TE := fun σ H Q => t σ H fun vs H1 => sp (vs ++ dvs) H1 Q E
/-- how the parameters are bound: us the positional arguments, kw the keywords' values by name, ds the defaults that fill up -/
def Binds (K : PySem.W.Frag) (fd : FuncData) (ps : List Str) (ds : List Value) : Prop :=
  ∀ (s : Shared) (us : List Value), K.In s.heap → (us ++ ds).length = ps.length → BindsTo s fd ⟨us, []⟩ (ps.zip (us ++ ds))
/-- every parameter is given -/
theorem Binds.all {K : PySem.W.Frag} {fd : FuncData} {ps : List Str} (h : ∀ us : List Value, us.length = ps.length → bindArgs fd ⟨us, []⟩ = pure (ps.zip us)) : Binds K fd ps [] := fun s us _ hl => by
  rw [List.append_nil] at hl ⊢
  exact .of_eq (h us hl)

/-- an exception of a callee reaches what this body wants of exceptions -/
def Passes (CX : CXT) (X : Cx) (E : XK) : Prop := ∀ (pins : List (Addr × Obj)) (σ : St) (H : Hp) (s : Shared) (e : Value) (s' : Shared), Inv X pins σ H s → CX X.stack H s E e s' → X.xe e s'

section
variable {X : Cx} {CX : CXT} {k : Nat} {f C : Addr} {fd : FuncData} {ps : List Str} {sp : Sp} {dvs : List V} {ds : List Value} {E : XK} {x m : Str} {p pos apos : Pos} {e o : Expr} {es : List Expr} {ta : TE} {t : TA}

/-- the callee runs -/
theorem run_fn {pins : List (Addr × Obj)} {σ : St} {H : Hp} {s : Shared} {Q : VK} {us : List Value} {vs : List V} (F : FnOk X.prog X.w X.K X.mg X.base CX k f fd ps sp) (hr : Room k X.A) (hb : Binds X.K fd ps ds) (hd : Vals dvs ds) (hx : Passes CX X E)
    (I : Inv X pins σ H s) (r : Vals vs us) (h : sp (vs ++ dvs) H Q E) : wpAny (model X.prog X.w) X.A (call (.ref f) us) (EP X pins σ Q) X.xe s := by
  have r2 : Vals (vs ++ dvs) (us ++ ds) := r.append hd
  have hl : (us ++ ds).length = ps.length := by rw [← r2.length]; exact F.len _ _ _ _ h
  refine wpAny_call (codeAny_mono (F.run X.A X.stack s H ⟨us, []⟩ (us ++ ds) (vs ++ dvs) Q E hr I.env0 (hb s us I.kIn hl) r2 h) fun r s' hq => ?_)
  cases r with
  | error e => exact hx pins σ H s e s' I hq
  | ok fl =>
    cases fl with
    | ret u => exact I.after hq
    | next => exact False.elim hq
    | brk => exact False.elim hq
    | cont => exact False.elim hq

theorem pe_call (F : FnOk X.prog X.w X.K X.mg X.base CX k f fd ps sp) (hr : Room k X.A) (hg : Gl X x) (hm : X.mg x = some (.ref f)) (hk : PySem.W.keepIn X.K (.ref f) = true) (hb : Binds X.K fd ps ds) (hd : Vals dvs ds) (hx : Passes CX X E)
    (ha : PA X (e :: es) t) (hdb : (x == ("__debug__" : Str)) = false := by decide) (he : starEach (e :: es) X.env = (false, eval e X.env) :: starEach es X.env := by rfl) (hpl : (backTo pos (starEach es X.env)).any (·.1) = false := by rfl) :
    PE X (.Call (.Name x p) (e :: es) [] pos) (tCall sp dvs E t) := by
  intro pins s σ H Q I h
  refine wpAny_Call_Name_kw (ld_glob I hg hm ?_ hdb)
  refine PySem.W.callWith_K (h₀ := X.base) I.ok.mod.kin hk (thn (ha pos pins s σ H _ I h) fun us s1 ⟨vs, H1, I1, r, q⟩ => ⟨I1.kIn, ?_⟩) he hpl
  exact run_fn F hr hb hd hx I1 r q
/-- what a class must have to be made -/
structure Mk (K : PySem.W.Frag) (C f : Addr) : Prop where
  makes : PySem.W.makesIn K C = true
  init : PySem.W.findIn K (.ref C) "__init__" = some (some (.ref f))
  fn : PySem.W.isFn K (.ref f) = true
  kp : PySem.W.keepIn K (.ref C) = true

end

/-! ### keywords -/
section
variable {X : Cx} {CX : CXT} {k : Nat} {f C : Addr} {fd : FuncData} {ps ks : List Str} {sp : Sp} {E : XK} {x m : Str} {p pos apos kpos : Pos} {e o : Expr} {es : List Expr} {kws : List Keyword} {te ta : TE} {t tk : TA} {nm : Option Str}
/-- how a call with keywords binds: g puts the positional values us and the keywords' values ws (names ks) in the parameters' order, defaults among them -/
structure KBinds (K : PySem.W.Frag) (fd : FuncData) (ps ks : List Str) (g : List Value → List Value → List Value) (gV : List V → List V → List V) : Prop where
  to : ∀ (s : Shared) (us ws : List Value), K.In s.heap → (g us ws).length = ps.length → BindsTo s fd ⟨us, ks.zip ws⟩ (ps.zip (g us ws))
  rel : ∀ {vs : List V} {us : List Value} {zs : List V} {ws : List Value}, Vals vs us → Vals zs ws → Vals (gV vs zs) (g us ws)
variable {g : List Value → List Value → List Value} {gV : List V → List V → List V}
end

/-! ### a def's body keeps its promise -/
/-- names: the parameters first -/
structure FnScope (N P : List Str) (sc : Scope) : Prop where
  kind : sc.kind = .function
  co : sc.isCoroutine = false
  gen : sc.isGenerator = false
  nd : N.Nodup
  pre : N.take P.length = P
  par : ∀ x ∈ P, sc.names.lookup x = some .local ∨ sc.names.lookup x = some .cell
  nofree : ∀ y ∈ sc.names, y.2 ≠ .free

theorem bindL_out {kindOf : Str → Option NameKind} {x : Str} : ∀ {binds : List (Str × Value)} {m : Str → Option Value}, (∀ v, (x, v) ∉ binds) → bindL kindOf binds m x = m x
  | [], _, _ => rfl
  | (n, v) :: r, m, h => by
    unfold bindL
    rw [bindL_out fun w hw => h w (List.mem_cons_of_mem _ hw)]
    split
    · have : x ≠ n := by rintro rfl; exact h v List.mem_cons_self
      simp [this]
    · rfl
theorem bindC_out {kindOf : Str → Option NameKind} {x : Str} : ∀ {binds : List (Str × Value)} {m : Str → Option Value}, (∀ v, (x, v) ∉ binds) → bindC kindOf binds m x = m x
  | [], _, _ => rfl
  | (n, v) :: r, m, h => by
    unfold bindC
    rw [bindC_out fun w hw => h w (List.mem_cons_of_mem _ hw)]
    split
    · rfl
    · have : x ≠ n := by rintro rfl; exact h v List.mem_cons_self
      simp [this]
theorem bindL_get {kindOf : Str → Option NameKind} {x : Str} {v : Value} : ∀ {P : List Str} {vs : List Value} {i : Nat} {m : Str → Option Value}, P.Nodup → P[i]? = some x → vs[i]? = some v → kindOf x = some .local →
    bindL kindOf (P.zip vs) m x = some v
  | [], _, _, _, _, h, _, _ => by simp at h
  | _ :: _, [], _, _, _, _, h, _ => by simp at h
  | p :: P, w :: vs, 0, m, nd, h1, h2, hk => by
    simp at h1 h2; subst h1; subst h2
    show bindL kindOf ((p, w) :: P.zip vs) m p = _
    unfold bindL
    rw [bindL_out fun v hv => (List.nodup_cons.mp nd).1 (List.of_mem_zip hv).1, if_pos hk]
    simp
  | p :: P, w :: vs, i + 1, m, nd, h1, h2, hk => by
    show bindL kindOf ((p, w) :: P.zip vs) m x = _
    unfold bindL
    exact bindL_get (i := i) (List.nodup_cons.mp nd).2 (by simpa using h1) (by simpa using h2) hk
theorem bindC_get {kindOf : Str → Option NameKind} {x : Str} {v : Value} : ∀ {P : List Str} {vs : List Value} {i : Nat} {m : Str → Option Value}, P.Nodup → P[i]? = some x → vs[i]? = some v → kindOf x ≠ some .local →
    bindC kindOf (P.zip vs) m x = some v
  | [], _, _, _, _, h, _, _ => by simp at h
  | _ :: _, [], _, _, _, _, h, _ => by simp at h
  | p :: P, w :: vs, 0, m, nd, h1, h2, hk => by
    simp at h1 h2; subst h1; subst h2
    show bindC kindOf ((p, w) :: P.zip vs) m p = _
    unfold bindC
    rw [bindC_out fun v hv => (List.nodup_cons.mp nd).1 (List.of_mem_zip hv).1, if_neg hk]
    simp
  | p :: P, w :: vs, i + 1, m, nd, h1, h2, hk => by
    show bindC kindOf ((p, w) :: P.zip vs) m x = _
    unfold bindC
    exact bindC_get (i := i) (List.nodup_cons.mp nd).2 (by simpa using h1) (by simpa using h2) hk

/-- the names' values at the entry -/
def start (N : List Str) (vs : List V) : St := vs.map some ++ List.replicate (N.length - vs.length) none

/-- the context of a def's body, at its entry; an exception leaves the frame, then lies as CX says -/
def cxOf (CX : CXT) (P : Program) (w : World) (K : PySem.W.Frag) (mg : Str → Option Value) (base : Heap) (N : List Str) (qual : Str) (scope : Scope) (f : Addr) (cd : Value) (A : Around) (outer : List Env) (s : Shared) (H : Hp) (E : XK) : Cx where
  prog := P
  w := w
  K := K
  mg := mg
  base := base
  A := A.deeper (envOfC qual scope s.heap.objs.size f cd)
  N := N
  s₀ := s
  H₀ := H
  env := envOfC qual scope s.heap.objs.size f cd
  outer := outer
  stack := envOfC qual scope s.heap.objs.size f cd :: outer
  ex := []
  calm := true
  fn := fun _ => true
  pn := []
  xe := fun e s' => wpAny (model P w) (A.deeper (envOfC qual scope s.heap.objs.size f cd)) (leaving (envOfC qual scope s.heap.objs.size f cd) e) (fun _ s'' => CX outer H s E e s'') (fun e' s'' => CX outer H s E e' s'') s'

theorem cell_has {sc : Scope} {n : Nat} {x : Str} (h : sc.names.lookup x = some .cell) : ∃ c, (cellsFrom n sc.names []).lookup x = some c := by
  have q := PySem.W.cellsFrom_some sc.names n [] (.inl h)
  exact Option.isSome_iff_exists.mp q

theorem inv_start {CX : CXT} {P : Program} {w : World} {K : PySem.W.Frag} {mg : Str → Option Value} {base : Heap} {N ps : List Str} {qual : Str} {scope : Scope} {f : Addr} {cd : Value} {A : Around} {outer : List Env} {s s1 : Shared} {H : Hp} {E : XK} {us : List Value} {vs : List V}
    (S : FnScope N ps scope) (hd : A.handled = none) (e0 : Env0 P w K mg base A outer s H) (hl : vs.length = ps.length) (r : Vals vs us)
    (x : InCallC s s.heap.objs.size (bindL (envOfC qual scope s.heap.objs.size f cd).kindOf (ps.zip us) fun _ => none) (cellsFrom (s.heap.objs.size + 1) scope.names []) (bindC (envOfC qual scope s.heap.objs.size f cd).kindOf (ps.zip us) fun _ => none) s1) :
    Inv (cxOf CX P w K mg base N qual scope f cd A outer s H E) [] (start N vs) H s1 := by
  have hpl : ps.length ≤ N.length := by have := congrArg List.length S.pre; rw [List.length_take] at this; omega
  obtain ⟨h1, tk, rfl, hk⟩ := x.done
  have noA : ∀ b : Addr, b ∉ (cxOf CX P w K mg base N qual scope f cd A outer s H E).ex := fun b z => absurd (show b ∈ ([] : List Addr) from z) (by simp)
  refine ⟨⟨e0.mod, S.kind, rfl, rfl, Nat.le_refl _, fun y z c h1 h2 => ?_, fun y hy => ?_, fun y c _ h => ?_, fun _ => hd, Around.frames_deeper e0.frames, .inr ⟨rfl, rfl⟩, fun b z => absurd z (noA b), e0.bs, e0.bsz, fun b _ _ => noA b, fun b z => absurd z (noA b), e0.funs, e0.frf⟩,
    rfl, e0.bare, Un.kept hk, ⟨_, x.toInCall.ns, fun i y v h1 h2 h3 => ?_⟩, fun y c h => ⟨_, x.cell y c h⟩, e0.hok.fresh (Nat.le_refl _), fun y c h => ?_, fun p hp => absurd (show p ∈ ([] : List (Addr × Obj)) from hp) (by simp), e0.hok.kept hk, ?_⟩
  · exact name_of_addr x.apart (PySem.mem_of_lookup h1) (PySem.mem_of_lookup h2)
  · have hy : scope.names.lookup y = some .cell ∨ scope.names.lookup y = some .free := hy
    rcases hy with hy | hy
    · exact cell_has hy
    · exact absurd rfl (S.nofree _ (PySem.mem_of_lookup hy))
  · exact Nat.le_of_lt (x.above y c (PySem.mem_of_lookup h))
  · have hi : i < vs.length := by
      unfold start at h2
      by_cases hi : i < vs.length
      · exact hi
      · rw [List.getElem?_append_right (by simpa using hi)] at h2
        rw [List.getElem?_replicate] at h2
        split at h2 <;> cases h2
    have ha : vs[i]? = some v := by
      unfold start at h2
      rw [List.getElem?_append_left (by simpa using hi), List.getElem?_map] at h2
      cases e : vs[i]? with
      | none => rw [e] at h2; cases h2
      | some a => rw [e] at h2; cases h2; rfl
    obtain ⟨u, hu, rv⟩ := r.get ha
    have hp : ps[i]? = some y := by
      rw [← S.pre, List.getElem?_take_of_lt (by omega)]; exact h1
    have ndP : ps.Nodup := by rw [← S.pre]; exact S.nd.sublist (List.take_sublist _ _)
    refine ⟨u, rv, ?_⟩
    rcases S.par y (List.mem_of_getElem? hp) with k | k
    · exact .inl ⟨k, bindL_get ndP hp hu k⟩
    · obtain ⟨c, e⟩ := cell_has (n := s.heap.objs.size + 1) k
      refine .inr ⟨.inl k, c, e, ?_⟩
      have q := x.cell y c e
      rw [bindC_get ndP hp hu (by show scope.names.lookup y ≠ _; rw [k]; decide)] at q
      exact q
  · exact e0.hok.fresh (Nat.le_of_lt (x.above y c (PySem.mem_of_lookup h)))
  · unfold start
    show _ = N.length
    rw [List.length_append, List.length_map, List.length_replicate]
    omega

/-- THE RULE: a def (or a method) of the text, by its body. The body's reading t is chosen for each entry; it is run at the parameters' values -/
theorem fn_of {CX : CXT} {P : Program} {w : World} {K : PySem.W.Frag} {mg : Str → Option Value} {base : Heap} {k : Nat} {f : Addr} {name qual : Str} {params : Arguments} {body : List Stmt} {scope : Scope} {dV kV doc pm cdv ct oc : Value} {an od : Option Addr}
    {osl : Array (Option Value)} {N ps : List Str} {sp : Sp} (lk : K.lookup f = some ⟨oc, od, .func (PySem.W.fnOf name qual params body scope dV kV doc pm an cdv ct), osl⟩) (hcd : PySem.W.codeIn K cdv qual = true) (S : FnScope N ps scope)
    (len : ∀ vs H Q E, sp vs H Q E → vs.length = ps.length)
    (hbody : ∀ (A : Around) (outer : List Env) (s : Shared) (H : Hp) (vs : List V) (Q : VK) (E : XK), Room k (A.deeper (envOfC qual scope s.heap.objs.size f cdv)) → sp vs H Q E →
      ∃ t, PSs (cxOf CX P w K mg base N qual scope f cdv A outer s H E) body t ∧ t { nx := fun _ H' => Q .non H', rt := Q } (start N vs) H) :
    FnOk P w K mg base CX (k + 1) f (PySem.W.fnOf name qual params body scope dV kV doc pm an cdv ct) ps sp := by
  refine ⟨len, fun A outer s H args us vs Q E hr e0 hb r hsp => ?_⟩
  have hl := len _ _ _ _ hsp
  have KX : K.In s.heap := e0.mod.kin.keeps fun b o e => (e0.bs b o e).1
  have lim : s.heap.NoLimit := e0.mod.nolimit.keeps fun b o e => (e0.bs b o e).1
  have hkind : ∀ y ∈ ps.zip us, scope.names.lookup y.1 = some .local ∨ (scope.names.lookup y.1 = some .cell ∧ ((cellsFrom (s.heap.objs.size + 1) scope.names []).lookup y.1).isSome = true) := fun ⟨n, v⟩ hy => by
    rcases S.par n (List.of_mem_zip hy).1 with q | q
    · exact .inl q
    · exact .inr ⟨q, PySem.W.cellsFrom_some _ _ _ (.inl q)⟩
  refine codeAny_call_function hr.depth (KX _ _ lk) rfl S.co S.gen rfl (PySem.W.codeRec_of KX hcd) (hb _ _ _ _ ?_)
  refine wpAny_newFunctionEnv_cells S.kind hkind fun env he s1 x => ?_
  subst he
  refine ⟨lim.keeps x.toInCall.keep, codeAny_func ?_⟩
  obtain ⟨t, ht, hq⟩ := hbody A outer s H vs Q E (hr.deeper _) hsp
  have I : Inv (cxOf CX P w K mg base N qual scope f cdv A outer s H E) [] (start N vs) H s1 := inv_start S hr.hd e0 hl r x
  refine wpAny_mono (ht [] s1 (start N vs) H _ I hq) (fun fl s' hs => ?_) fun e s' hs => hs
  have fin : ∀ {σ' : St} {H' : Hp} {v : V} {u : Value}, Inv (cxOf CX P w K mg base N qual scope f cdv A outer s H E) [] σ' H' s' → RelV v u → Q v H' → CE outer P w H s Q u s' :=
    fun {σ' H' v u} J rv q => ⟨v, H', J.os, J.bare, J.base, J.hok, rv, q⟩
  cases fl with
  | ret u =>
    obtain ⟨v, σ', H', J, rv, q⟩ := hs
    exact fin J rv q
  | next =>
    obtain ⟨σ', H', J, q⟩ := hs
    exact fin (v := V.non) (u := Value.none) J rfl q
  | brk =>
    obtain ⟨_, _, _, q⟩ := hs
    exact False.elim q
  | cont =>
    obtain ⟨_, _, _, q⟩ := hs
    exact False.elim q
end L2

namespace L2
open PySem PySem.Spec PyProof.Rows
section
variable {X : Cx} {x : Str} {p pos : Pos} {e : Expr} {es : List Expr} {t : TA} {id T : String} {r : List V → Hp → VK → Prop}

def tCB (r : List V → Hp → VK → Prop) (t : TA) : TE := fun σ H Q => t σ H fun vs H1 => r vs H1 Q
/-- f(e, ..), f a built-in function -/
theorem pe_callB (hc : CallR X (.builtin id) r) (hg : Gl X x) (hm : X.mg x = none) (hv : bootBuiltins x = some (.builtin id)) (ha : PA X (e :: es) t) (hn : x ≠ "__name__" := by decide) (hdb : (x == ("__debug__" : Str)) = false := by decide)
    (he : starEach (e :: es) X.env = (false, eval e X.env) :: starEach es X.env := by rfl) (hpl : (backTo pos (starEach es X.env)).any (·.1) = false := by rfl) : PE X (.Call (.Name x p) (e :: es) [] pos) (tCB r t) := by
  intro pins s σ H Q I h
  refine wpAny_Call_Name_kw (ld_blt I hg hm hv ?_ hn hdb)
  exact PyProof.Rows.callWith_builtin1 (thn (ha pos pins s σ H _ I h) fun us s1 ⟨vs, H1, I1, r1, q1⟩ => hc pins s1 σ H1 vs us Q I1 r1 q1) he hpl
/-- T(e, ..), T a built-in type -/
theorem pe_callTy (hc : CallR X (.type T) r) (hg : Gl X x) (hm : X.mg x = none) (hv : bootBuiltins x = some (.type T)) (ha : PA X (e :: es) t) (hn : x ≠ "__name__" := by decide) (hdb : (x == ("__debug__" : Str)) = false := by decide)
    (he : starEach (e :: es) X.env = (false, eval e X.env) :: starEach es X.env := by rfl) (hpl : (backTo pos (starEach es X.env)).any (·.1) = false := by rfl) : PE X (.Call (.Name x p) (e :: es) [] pos) (tCB r t) := by
  intro pins s σ H Q I h
  refine wpAny_Call_Name_kw (ld_blt I hg hm hv ?_ hn hdb)
  exact PyProof.Rows.callWith_type1 (thn (ha pos pins s σ H _ I h) fun us s1 ⟨vs, H1, I1, r1, q1⟩ => hc pins s1 σ H1 vs us Q I1 r1 q1) he hpl
end
end L2

namespace HT
open PySem PyProof.Rows

section
open PySem.SeqAt
open PySem.AutoSeq1 (wpAny_loadPart')
open PySem.MeetsSeq PySem.MeetsSeq2 PySem.MeetsSeq3

end

section
variable {prog : Program} {w : World} {A : Around} {E : Value → Shared → Prop} {s : Shared}

/-! ### t[a:b], not the whole -/
/-- a slice's bound as a place among n (d where it is left out) -/
def sIx (n d : Nat) : Option Int → Nat
  | none => d
  | some v => if v < 0 then (v + (n : Int)).toNat else min v.toNat n
theorem sIx_none (n d : Nat) : sIx n d none = d := rfl
theorem sIx_nat (n d k : Nat) : sIx n d (some (k : Int)) = min k n := by
  show (if (k : Int) < 0 then ((k : Int) + (n : Int)).toNat else min (k : Int).toNat n) = min k n
  rw [if_neg (by omega), Int.toNat_natCast]
end
end HT

namespace L2
open PySem PySem.Spec PyProof.Rows

/-! ### the parts of a slice -/
abbrev TO := St → Hp → (Option Int → Hp → Prop) → Prop
/-- a slice's part (left out, or an int) -/
def PO (X : Cx) (e : Option Expr) (t : TO) : Prop :=
  ∀ (pins : List (Addr × Obj)) (s : Shared) (σ : St) (H : Hp) (Q : Option Int → Hp → Prop), Inv X pins σ H s → t σ H Q →
    wpAny (model X.prog X.w) X.A (evalPart e X.env) (fun u s' => ∃ o H', Inv X pins σ H' s' ∧ IsPart u o ∧ Q o H') X.xe s
def tNoPart : TO := fun _ H Q => Q none H
def tPart (t : TE) : TO := fun σ H Q => t σ H fun x H1 => ∃ i, x = .int i ∧ Q (some i) H1

section
variable {X : Cx} {e : Expr} {te : TE} {lo hi : Option Expr} {tl th : TO} {pos p2 : Pos}

theorem po_none : PO X none tNoPart := by
  intro pins s σ H Q I h
  rw [evalPart_none]
  exact wpAny_pure ⟨none, H, I, .none, h⟩
theorem po_some (h : PE X e te) : PO X (some e) (tPart te) := by
  intro pins s σ H Q I hw
  rw [evalPart_some]
  refine thn (h pins s σ H _ I hw) fun u s1 ⟨x, H1, I1, r1, q1⟩ => ?_
  obtain ⟨i, rfl, q⟩ := q1
  obtain ⟨t, rfl⟩ := r1
  exact ⟨some i, H1, I1, .int i t, q⟩

/-- what a slice of a value is, by values: the slice object stands at sl -/
def SlR (X : Cx) (r : V → Option Int → Option Int → Hp → VK → Prop) : Prop :=
  ∀ (pins : List (Addr × Obj)) (s : Shared) (σ : St) (H : Hp) (x : V) (v vl vu : Value) (lo hi : Option Int) (sl : Addr) (Q : VK), Inv X pins σ H s → RelV x v → s.heap.IsSliceOf sl vl vu .none → IsPart vl lo → IsPart vu hi → r x lo hi H Q →
    ∃ T id, typeLookup (.type T) "__getitem__" = pure (some (.builtin id)) ∧ s.TypeIs v T ∧ wpAny (model X.prog X.w) X.A (getItem v (.ref sl)) (EP X pins σ Q) X.xe s
def tSl (r : V → Option Int → Option Int → Hp → VK → Prop) (te : TE) (tl th : TO) : TE := fun σ H Q => te σ H fun x H1 => tl σ H1 fun l H2 => th σ H2 fun u H3 => r x l u H3 Q
/-- a[lo:hi], any a -/
theorem pe_slice {r : V → Option Int → Option Int → Hp → VK → Prop} (hr : SlR X r) (he : PE X e te) (hl : PO X lo tl) (hu : PO X hi th) : PE X (.Subscript e (.Slice lo hi none p2) pos) (tSl r te tl th) := by
  intro pins s σ H Q I h
  refine Subscript_ (thn (he pins s σ H _ I h) fun v s1 ⟨x, H1, I1, r1, q1⟩ => ?_)
  refine wpAny_Slice (thn (hl pins s1 σ H1 _ I1 q1) fun vl s2 ⟨l, H2, I2, pl, q2⟩ => thn (hu pins s2 σ H2 _ I2 q2) fun vu s3 ⟨u, H3, I3, pu, q3⟩ => ?_)
  rw [evalPart_none]
  refine wpAny_pure ?_
  have I4 : Inv X pins σ H3 { s3 with heap := s3.heap.push { cls := .type "slice", data := .fields #[vl, vu, .none] } } := I3.kept (t' := s3.toks) fun b ob q => Heap.get?_push_of_some _ q
  obtain ⟨T, id, hT, ht, hg⟩ := hr pins { s3 with heap := s3.heap.push { cls := .type "slice", data := .fields #[vl, vu, .none] } } σ H3 x v vl vu l u s3.heap.objs.size Q I4 r1 (Heap.IsSliceOf.new ..) pl pu q3
  show wpAny (model X.prog X.w) X.A (subscriptTail e (.Slice lo hi none p2) v (.ref s3.heap.objs.size)) (EP X pins σ Q) X.xe { s3 with heap := s3.heap.push { cls := .type "slice", data := .fields #[vl, vu, .none] } }
  exact tail_any (ops := [.ref s3.heap.objs.size, v]) ht hT hg (by with_unfolding_all rfl)

/-- the items of xs[lo:hi] -/
def cutV (xs : List V) (lo hi : Option Int) : List V := (xs.drop (HT.sIx xs.length 0 lo)).take (HT.sIx xs.length xs.length hi - HT.sIx xs.length 0 lo)
theorem cutV_length (xs : List V) (lo hi : Option Int) : (cutV xs lo hi).length ≤ xs.length := by
  unfold cutV
  rw [List.length_take, List.length_drop]
  omega
/-! ### t < u, t + u -/
end
end L2

namespace L2
open PySem PySem.Spec PyProof.Rows

/-! ### places -/
/-- the place that an index of any sign means -/
def ixN (n : Nat) (i : Int) : Option Nat := if 0 ≤ i then (if i < n then some i.toNat else none) else if -(n : Int) ≤ i then some (i + n).toNat else none
def atI {α : Type} (xs : List α) (i : Int) : Option α := (ixN xs.length i).bind fun j => xs[j]?
theorem ixN_seq {n : Nat} {i : Int} {j : Nat} (h : ixN n i = some j) : seqIndex? i n = some j ∧ j < n ∧ -(n : Int) ≤ i ∧ i < n := by
  unfold ixN at h
  by_cases h0 : 0 ≤ i
  · rw [if_pos h0] at h
    by_cases h1 : i < n
    · rw [if_pos h1] at h
      have e : i.toNat = j := Option.some.inj h
      exact ⟨by rw [seqIndex_of h0 h1, e], by omega, by omega, h1⟩
    · rw [if_neg h1] at h; cases h
  · rw [if_neg h0] at h
    by_cases h1 : -(n : Int) ≤ i
    · rw [if_pos h1] at h
      have e : (i + n).toNat = j := Option.some.inj h
      exact ⟨by rw [seqIndex_neg (by omega) h1, e], by omega, h1, by omega⟩
    · rw [if_neg h1] at h; cases h
theorem atI_get {α : Type} {xs : List α} {i : Int} {v : α} (h : atI xs i = some v) : ∃ j, seqIndex? i xs.length = some j ∧ xs[j]? = some v ∧ j < xs.length ∧ -(xs.length : Int) ≤ i ∧ i < xs.length := by
  unfold atI at h
  cases e : ixN xs.length i with
  | none => rw [e] at h; cases h
  | some j =>
    rw [e] at h
    obtain ⟨h1, h2, h3, h4⟩ := ixN_seq e
    exact ⟨j, h1, h, h2, h3, h4⟩
theorem atI_nat {α : Type} {xs : List α} {j : Nat} {v : α} (h : xs[j]? = some v) : atI xs (j : Int) = some v := by
  have hj : j < xs.length := (List.getElem?_eq_some_iff.mp h).1
  have e : ixN xs.length (j : Int) = some j := by
    unfold ixN
    rw [if_pos (by omega), if_pos (by omega)]; simp
  unfold atI; rw [e]; exact h
theorem atI_last {α : Type} (xs : List α) (v : α) : atI (xs ++ [v]) (-1) = some v := by
  have hl : (xs ++ [v]).length = xs.length + 1 := by simp
  have e : ixN (xs ++ [v]).length (-1) = some xs.length := by
    unfold ixN
    rw [hl, if_neg (by decide), if_pos (by omega)]
    congr 1
    omega
  unfold atI
  rw [e]
  show (xs ++ [v])[xs.length]? = some v
  simp

/-! ### what may be subscripted -/
/-- what stands as an index of a plain subscript -/
def PlainIx (b : Expr) : Prop := ∀ o i, subscripted b false o i = operate [o, i] (getItem o i)
/-- a subscript by values -/
def IxR (X : Cx) (r : R2) : Prop :=
  ∀ (value slice : Expr) (pins : List (Addr × Obj)) (s : Shared) (σ : St) (H : Hp) (x y : V) (v u : Value) (Q : VK), Inv X pins σ H s → RelV x v → RelV y u → r x y H Q →
    subscripted slice false v u = operate [v, u] (getItem v u) → wpAny (model X.prog X.w) X.A (subscriptTail value slice v u) (EP X pins σ Q) X.xe s
/-- a call of a builtin's method by values: the receiver, the arguments -/
def MtR (X : Cx) (id : String) (r : V → List V → Hp → VK → Prop) : Prop :=
  ∀ (pins : List (Addr × Obj)) (s : Shared) (σ : St) (H : Hp) (x : V) (xs : List V) (v : Value) (us : List Value) (Q : VK), Inv X pins σ H s → RelV x v → Vals xs us → r x xs H Q →
    wpAny (model X.prog X.w) X.A (call (.builtin id) (v :: us)) (EP X pins σ Q) X.xe s
section
variable {X : Cx} {a b : Expr} {ta tb : TE} {pos : Pos}
/-- a[b] -/
theorem pe_ix {r : R2} (hr : IxR X r) (ha : PE X a ta) (hb : PE X b tb) (hs : PlainIx b) : PE X (.Subscript a b pos) (tOp r ta tb) := by
  intro pins s σ H Q I h
  exact Subscript_ (binT ha hb I h fun v u s2 x y H2 I2 rx ry q => hr a b pins s2 σ H2 x y v u Q I2 rx ry q (hs _ _))

def rIxL (K : PySem.W.Frag) : R2 := fun x y H Q => ∃ p xs i v, x = .ref p ∧ y = .int i ∧ SqL K H p xs ∧ atI xs i = some v ∧ Q v H
def rIxT (K : PySem.W.Frag) : R2 := fun x y H Q => ∃ p xs i v, x = .ref p ∧ y = .int i ∧ SqT K H p xs ∧ atI xs i = some v ∧ Q v H
theorem ix_list : IxR X (rIxL X.K) := by
  intro value slice pins s σ H x y v u Q I rx ry h hs
  obtain ⟨p, xs, i, z, rfl, rfl, hq, he, q⟩ := h
  cases rx
  obtain ⟨t, rfl⟩ := ry
  obtain ⟨its, r, pl, hz⟩ := I.list hq
  obtain ⟨j, h1, h2, h3, h4, h5⟩ := atI_get he
  obtain ⟨w, ew, rw'⟩ := r.get h2
  have hl := r.length
  have hn := line63
  have fin : EP X pins σ Q w s := ⟨z, H, I, rw', q⟩
  by_cases h0 : 0 ≤ i
  · have hj : i.toNat = j := by
      rw [seqIndex_of h0 h5] at h1
      exact Option.some.inj h1
    exact item_listR pl.isList h0 (by omega) (by rw [hj]; simpa using ew) fin hs
  · have hj : (i + (its.toArray.size : Int)).toNat = j := by
      rw [seqIndex_neg (by omega) h4] at h1
      rw [List.size_toArray, ← hl]
      exact Option.some.inj h1
    exact subscriptTail_builtinR (x := w) pl.isList.typeIs slot_list_getitem.lookup
      (wpAny_getItem_list_neg (Q := fun r s' => r = w ∧ EP X pins σ Q r s') pl.isList (by omega) (by rw [List.size_toArray] <;> omega) (by omega) (by rw [hj]; simpa using ew) ⟨rfl, fin⟩) hs
theorem ix_tup : IxR X (rIxT X.K) := by
  intro value slice pins s σ H x y v u Q I rx ry h hs
  obtain ⟨p, xs, i, z, rfl, rfl, hq, he, q⟩ := h
  cases rx
  obtain ⟨t, rfl⟩ := ry
  obtain ⟨its, r, pl, hz⟩ := I.tuple hq
  obtain ⟨j, h1, h2, h3, h4, h5⟩ := atI_get he
  obtain ⟨w, ew, rw'⟩ := r.get h2
  have hl := r.length
  have hn := line63
  have fin : EP X pins σ Q w s := ⟨z, H, I, rw', q⟩
  exact subscriptTail_builtinR (x := w) pl.typeIs slot_tuple_getitem.lookup
    (getItem_tuple (j := j) (Q := fun r s' => r = w ∧ EP X pins σ Q r s') pl (by omega) (by omega) (by rw [List.size_toArray, ← hl]; exact h1) (by simpa using ew) ⟨rfl, fin⟩) hs
/-! ### xs[i] = v, any sign -/
/-! ### slices -/
theorem slice_bounds (lo hi : Option Int) (n : Nat) : (sliceBounds lo hi none n).1 = ((HT.sIx n 0 lo : Nat) : Int) ∧ (sliceBounds lo hi none n).2.1 = ((HT.sIx n n hi : Nat) : Int) ∧ (sliceBounds lo hi none n).2.2 = 1 := by
  refine ⟨?_, ?_, rfl⟩
  · cases lo with
    | none => simp [sliceBounds, HT.sIx]
    | some i =>
      simp only [sliceBounds, HT.sIx, Option.getD_none, show (1 : Int) > 0 by decide, if_true]
      by_cases h : i < 0
      · simp only [h, if_true] <;> omega
      · simp only [h, if_false] <;> omega
  · cases hi with
    | none => simp [sliceBounds, HT.sIx]
    | some i =>
      simp only [sliceBounds, HT.sIx, Option.getD_none, show (1 : Int) > 0 by decide, if_true]
      by_cases h : i < 0
      · simp only [h, if_true] <;> omega
      · simp only [h, if_false] <;> omega
theorem slicePick_cut (its : List Value) (lo hi : Option Int) : slicePick its.toArray lo hi none = ((its.drop (HT.sIx its.length 0 lo)).take (HT.sIx its.length its.length hi - HT.sIx its.length 0 lo)).toArray := by
  obtain ⟨h1, h2, h3⟩ := slice_bounds lo hi its.toArray.size
  unfold slicePick
  rw [h1, h2, h3]
  simp only [sliceRange_one, pick_run, List.size_toArray] <;> rfl
/-- xs[lo:hi] of a list: a new list -/
def rSlL (K : PySem.W.Frag) : V → Option Int → Option Int → Hp → VK → Prop := fun x lo hi H Q => ∃ a xs, x = .ref a ∧ SqL K H a xs ∧ ∀ p, H p = none → Q (.ref p) (upd H p (.lst (cutV xs lo hi)))
theorem sl_list : SlR X (rSlL X.K) := by
  intro pins s σ H x v vl vu lo hi sl Q I rx hs pl pu h
  obtain ⟨a, xs, rfl, hx, q⟩ := h
  cases rx
  obtain ⟨its, r, ht, hz⟩ := I.list hx
  have hlen := r.length
  refine ⟨"list", _, slot_list_getitem.lookup, ht.isList.typeIs, ?_⟩
  refine wpAny_getItem_list_slice ht.isList hs pl pu .none (by simp) ?_ (by rw [List.size_toArray] <;> omega)
  rw [slicePick_cut, ← hlen]
  refine ⟨.ref s.heap.objs.size, _, I.laid (t' := s.toks) (o := .lst (cutV xs lo hi)) (fun b ob q => Heap.get?_push_of_some _ q) (Nat.le_refl _) ?_, rfl, q _ (I.hok.fresh (Nat.le_refl _))⟩
  exact ⟨Nat.le_trans (cutV_length xs lo hi) hz, _, 0, (r.drop (HT.sIx xs.length 0 lo)).take (HT.sIx xs.length xs.length hi - HT.sIx xs.length 0 lo), Heap.get?_push_size _ rfl⟩

/-! ### in, not in: flat items -/
/-! ### len, list(x), tuple(x) of any list or tuple that is read -/
theorem call_len_seq : CallR X (.builtin "len") (fun xs H Q => ∃ p ys, xs = [.ref p] ∧ (SqL X.K H p ys ∨ SqT X.K H p ys) ∧ Q (.int ys.length) H) := by
  intro pins s σ H xs us Q I r h
  obtain ⟨p, ys, rfl, hq, q⟩ := h
  obtain ⟨u, rfl, rx⟩ := vals1 r
  cases rx
  have hn := line63
  rcases hq with hq | hq
  · obtain ⟨its, r', pl, hz⟩ := I.list hq
    have hlen := r'.length
    exact Calls.call_len_list pl.isList (by simp only [List.size_toArray] <;> omega) ⟨.int ys.length, H, I.tok _, ⟨s.toks + 1, by rw [List.size_toArray, hlen]⟩, q⟩
  · obtain ⟨its, r', pl, hz⟩ := I.tuple hq
    have hlen := r'.length
    exact len_tuple pl (by simp only [List.size_toArray] <;> omega) ⟨.int ys.length, H, I.tok _, ⟨s.toks + 1, by rw [List.size_toArray, hlen]⟩, q⟩
theorem call_len_str : CallR X (.builtin "len") (fun xs H Q => ∃ z, xs = [.str z] ∧ z.length ≤ sizeLine ∧ Q (.int z.length) H) := by
  intro pins s σ H xs us Q I r h
  obtain ⟨z, rfl, hz, q⟩ := h
  obtain ⟨u, rfl, t, rfl⟩ := vals1 r
  have hn := line63
  exact len_str (by omega) ⟨.int z.length, H, I.tok _, ⟨_, rfl⟩, q⟩
theorem CallR.or {f : Value} {r r' : List V → Hp → VK → Prop} (h : CallR X f r) (h' : CallR X f r') : CallR X f (fun xs H Q => r xs H Q ∨ r' xs H Q) := by
  intro pins s σ H xs us Q I rs q
  rcases q with q | q
  · exact h pins s σ H xs us Q I rs q
  · exact h' pins s σ H xs us Q I rs q
theorem call_list_of : CallR X (.type "list") (fun xs H Q => ∃ p ys, xs = [.ref p] ∧ (SqL X.K H p ys ∨ SqT X.K H p ys) ∧ ∀ l, H l = none → Q (.ref l) (upd H l (.lst ys))) := by
  intro pins s σ H xs us Q I r h
  obtain ⟨p, ys, rfl, hq, q⟩ := h
  obtain ⟨u, rfl, rx⟩ := vals1 r
  cases rx
  have fin : ∀ (its : List Value), Vals ys its → ys.length ≤ sizeLine → ∀ (h' : Heap) (c' : Nat), (∀ b o', s.heap.get? b = some o' → h'.get? b = some o') →
      h'.get? s.heap.objs.size = some { cls := .type "list", dict := none, data := .seq its.toArray c', slots := #[] } → EP X pins σ Q (.ref s.heap.objs.size) { s with heap := h' } := fun its r' hz h' c' kp e =>
    ⟨.ref s.heap.objs.size, _, I.laid (t' := s.toks) kp (Nat.le_refl _) (show ObjOk X.prog X.w _ h' _ (.lst ys) from ⟨hz, its, c', r', e⟩), rfl, q _ (I.hok.fresh (Nat.le_refl _))⟩
  rcases hq with hq | hq
  · obtain ⟨its, r', pl, hz⟩ := I.list hq
    have hlen := r'.length
    obtain ⟨o, ho, hc, n, hd⟩ := pl.isList
    exact call_list_seq p (.inl rfl) ho hc hd (fun h' c' kp e => fin its r' hz h' c' kp e) (by simp only [List.size_toArray] <;> omega)
  · obtain ⟨its, r', pl, hz⟩ := I.tuple hq
    have hlen := r'.length
    obtain ⟨o, ho, hc, n, hd⟩ := pl
    exact call_list_seq p (.inr rfl) ho hc hd (fun h' c' kp e => fin its r' hz h' c' kp e) (by simp only [List.size_toArray] <;> omega)
theorem call_tuple_of : CallR X (.type "tuple") (fun xs H Q => ∃ p ys, xs = [.ref p] ∧ ((SqL X.K H p ys ∧ ∀ l, H l = none → Q (.ref l) (upd H l (.tup ys))) ∨ (SqT X.K H p ys ∧ Q (.ref p) H))) := by
  intro pins s σ H xs us Q I r h
  obtain ⟨p, ys, rfl, h⟩ := h
  obtain ⟨u, rfl, rx⟩ := vals1 r
  cases rx
  rcases h with ⟨hq, q⟩ | ⟨hq, q⟩
  · obtain ⟨its, r', pl, hz⟩ := I.list hq
    have hlen := r'.length
    refine call_tuple_list pl.isList (fun h' kp => ?_) (by simp only [List.size_toArray] <;> omega)
    have I1 : Inv X pins σ H { s with heap := h' } := I.kept (t' := s.toks) kp
    have I2 : Inv X pins σ (upd H h'.objs.size (.tup ys)) { s with heap := h'.push { cls := .type "tuple", data := .seq its.toArray } } :=
      I1.laid (t' := s.toks) (fun b o e => Heap.get?_push_of_some _ e) (Nat.le_refl _) (show ObjOk X.prog X.w _ _ _ (.tup ys) from ⟨hz, its, r', IsTup.new _ _⟩)
    exact ⟨.ref h'.objs.size, _, I2, rfl, q _ (I1.hok.fresh (Nat.le_refl _))⟩
  · obtain ⟨its, r', pl, hz⟩ := I.tuple hq
    exact call_tuple_same pl ⟨.ref p, H, I, rfl, q⟩

/-! ### the call of a builtin's method: o.m(..) -/
/-- the value is of that builtin type -/
def tyV (K : PySem.W.Frag) (T : String) (x : V) (H : Hp) : Prop := match x with
  | .str _ => T = "str"
  | .int _ => T = "int"
  | .ref p => (T = "list" ∧ ∃ xs, SqL K H p xs) ∨ (T = "tuple" ∧ ∃ o, K.lookup p = some o ∧ o.cls = .type "tuple" ∧ o.dict = none) ∨
      (T = "dict" ∧ ((∃ kvs, H p = some (.dK kvs)) ∨ ∃ kvs, H p = some (.dT kvs))) ∨ (T = "set" ∧ ∃ S n, H p = some (.set S n))
  | _ => False
theorem tyV_is {pins : List (Addr × Obj)} {σ : St} {H : Hp} {s : Shared} {T : String} {x : V} {v : Value} (I : Inv X pins σ H s) (r : RelV x v) (ty : tyV X.K T x H) :
    s.TypeIs v T ∧ ∀ a, v = .ref a → ∃ ob, s.heap.get? a = some ob ∧ ob.dict = none := by
  cases x with
  | str z =>
    obtain ⟨t, rfl⟩ := r
    cases (show T = "str" from ty)
    exact ⟨typeIs_str s z t, fun _ e => nomatch e⟩
  | int i =>
    obtain ⟨t, rfl⟩ := r
    cases (show T = "int" from ty)
    exact ⟨typeIs_int s i t, fun _ e => nomatch e⟩
  | ref p =>
    cases r
    rcases ty with ⟨rfl, xs, hq⟩ | ⟨rfl, o, hk, hc, hd⟩ | ⟨rfl, hk⟩ | ⟨rfl, S, n, hk⟩
    · obtain ⟨its, _, pl, _⟩ := I.list hq
      refine ⟨pl.isList.typeIs, fun a e => ?_⟩
      cases e
      obtain ⟨o, n, e, c, hd, _⟩ := pl
      exact ⟨o, e, hd⟩
    · refine ⟨⟨o, I.kIn p o hk, hc⟩, fun a e => ?_⟩
      cases e
      exact ⟨o, I.kIn _ o hk, hd⟩
    · have z : ∃ o, s.heap.get? p = some o ∧ o.ExactDict := by
        rcases hk with ⟨kvs, hk⟩ | ⟨kvs, hk⟩
        · obtain ⟨_, _, _, _, o, _, _, e, ex, _⟩ := I.hok p _ hk
          exact ⟨o, e, ex⟩
        · obtain ⟨_, _, _, _, o, _, _, e, ex, _⟩ := I.hok p _ hk
          exact ⟨o, e, ex⟩
      obtain ⟨o, e, ex⟩ := z
      refine ⟨⟨o, e, ex.1⟩, fun a e2 => ?_⟩
      cases e2
      exact ⟨o, e, ex.2.1⟩
    · obtain ⟨o, _, _, _, e, ex, _⟩ := I.hok p _ hk
      refine ⟨⟨o, e, ex.1⟩, fun a e2 => ?_⟩
      cases e2
      exact ⟨o, e, ex.2.1⟩
  | _ => exact False.elim ty
def tBM (K : PySem.W.Frag) (T : String) (r : V → List V → Hp → VK → Prop) (to : TE) (t : TA) : TE := fun σ H Q => to σ H fun x H1 => tyV K T x H1 ∧ t σ H1 fun xs H2 => r x xs H2 Q
variable {o e : Expr} {es : List Expr} {to : TE} {t : TA} {name : Str} {apos cpos : Pos} {T id : String} {r : V → List V → Hp → VK → Prop}
theorem pe_bm (pa : PlainAttrs T) (slot : Slot T name id) (hty : typeOf (.builtin id) = pure (.type "method_descriptor")) (hm : MtR X id r) (ho : PE X o to) (ha : PA X (e :: es) t)
    (hbase : attributeBase o name X.env (eval o X.env) = eval o X.env := by rfl)
    (hfew : ((backTo cpos (starEach (e :: es) X.env)).all (fun x => !x.1) && (backToKw cpos (keywordEach [] X.env)).all (fun x => x.1.isSome)
      && decide ((e :: es).length + ([] : List Keyword).length + (if ([] : List Keyword).isEmpty then 0 else 1) < 30)) = true := by rfl)
    (hline : (apos.endLine == cpos.line) = true := by rfl) (hs : starEach (e :: es) X.env = (false, eval e X.env) :: starEach es X.env := by rfl) (hplain : (backTo cpos (starEach es X.env)).any (·.1) = false := by rfl) :
    PE X (.Call (.Attribute o name apos) (e :: es) [] cpos) (tBM X.K T r to t) := by
  intro pins s σ H Q I h
  refine wpAny_Call_method_late hbase hfew hline rfl (thn (ho pins s σ H _ I h) fun v s1 ⟨x, H1, I1, r1, ty, q1⟩ => ?_)
  obtain ⟨h1, h2⟩ := tyV_is I1 r1 ty
  refine ⟨T, id, pa, slot, hty, h1, h2, ?_⟩
  have hA := ha cpos pins s1 σ H1 _ I1 q1
  rw [hs] at hA ⊢
  refine Calls.callWith_builtin (by show (false || (backTo cpos (starEach es X.env)).any (·.1)) = false; rw [hplain] <;> rfl) (Calls.evalArgs_plain ?_)
  exact thn hA fun us s2 ⟨vs, H2, I2, r2, q2⟩ => hm pins s2 σ H2 x vs v us Q I2 r1 r2 q2
/- xs.append(e), list.index on a module's tuple .. are MtR facts of 06m -/
end
end L2

namespace L2
open PySem PySem.Spec PyProof.Rows

def MtM (X : Cx) (id : String) (r : V → List V → Hp → VK → Prop) : Prop :=
  ∀ (pins : List (Addr × Obj)) (s : Shared) (σ : St) (H : Hp) (x : V) (xs : List V) (v : Value) (us : List Value) (Q : VK), Inv X pins σ H s → RelV x v → Vals xs us → r x xs H Q →
    wpAny (model X.prog X.w) X.A (call (.builtin id) (v :: us)) (EP X pins σ Q) X.xe s

/-! ### lists of values -/
theorem Vals.one : ∀ {x : V} {us : List Value}, Vals [x] us → ∃ u, us = [u] ∧ RelV x u
  | _, _, .cons r .nil => ⟨_, rfl, r⟩
theorem Vals.two : ∀ {x y : V} {us : List Value}, Vals [x, y] us → ∃ u v, us = [u, v] ∧ RelV x u ∧ RelV y v
  | _, _, _, .cons r (.cons q .nil) => ⟨_, _, rfl, r, q⟩
theorem Vals.eraseIdx : ∀ {xs : List V} {us : List Value} (i : Nat), Vals xs us → Vals (xs.eraseIdx i) (us.eraseIdx i)
  | _, _, _, .nil => .nil
  | _, _, 0, .cons _ t => t
  | _, _, i + 1, .cons r t => .cons r (Vals.eraseIdx i t)
theorem len_erase {α : Type} : ∀ (l : List α) (i : Nat), (l.eraseIdx i).length ≤ l.length
  | [], _ => Nat.le_refl _
  | _ :: _, 0 => Nat.le_succ _
  | _ :: r, i + 1 => Nat.succ_le_succ (len_erase r i)
section
variable {X : Cx} {pins : List (Addr × Obj)} {σ : St} {H : Hp} {s : Shared} {l b : Addr} {xs ys zs : List V}

/-! ### the two steps: a tracked list is rewritten, a new list is laid -/
theorem Inv.lset {its its' : List Value} {n : Nat} {f : Array Value → Array Value} {t' : Nat} (I : Inv X pins σ H s) (hH : H l = some (.lst xs))
    (e : s.heap.get? l = some { cls := .type "list", data := .seq its.toArray n }) (hf : f its.toArray = its'.toArray) (hv : Vals ys its') (hz : ys.length ≤ sizeLine) :
    Inv X pins σ (upd H l (.lst ys)) { s with heap := s.heap.update l (Obj.mapSeq f), toks := t' } := by
  have q := PySem.IsL.update e f
  rw [hf] at q
  refine I.write (x := l) (e := l) (by rw [hH]; exact trivial) (.inl rfl) (fun b' u hb hu => (Heap.get?_update_other s.heap (Obj.mapSeq f) (Ne.symm hb)).trans hu) ⟨_, q⟩ ?_
  exact ⟨hz, its', _, hv, q⟩
theorem Inv.lnew {its : List Value} {t' : Nat} (I : Inv X pins σ H s) (hv : Vals ys its) (hz : ys.length ≤ sizeLine) :
    Inv X pins σ (upd H s.heap.objs.size (.lst ys)) { s with heap := s.heap.push { cls := .type "list", data := .seq its.toArray }, toks := t' } :=
  I.laid (fun _ _ q => Heap.get?_push_of_some _ q) (Nat.le_refl _) ⟨hz, its, 0, hv, Heap.get?_push_size _ rfl⟩
theorem Inv.fresh (I : Inv X pins σ H s) : H s.heap.objs.size = none := I.hok.fresh (Nat.le_refl _)
theorem Inv.lstM (I : Inv X pins σ H s) (hH : H l = some (.lst xs)) : xs.length ≤ sizeLine ∧ ∃ (its : List Value) (n : Nat), Vals xs its ∧ xs.length = its.length ∧ s.heap.get? l = some { cls := .type "list", data := .seq its.toArray n } := by
  obtain ⟨z, its, n, r, e⟩ := I.hok l _ hH
  exact ⟨z, its, n, r, r.length, e⟩

theorem notLongL {n : Nat} (h : n ≤ sizeLine) : Builtin.List.listTooLong n = false := by
  unfold Builtin.List.listTooLong
  exact decide_eq_false (by omega)
end

section
variable {X : Cx}

/-! ### methods -/
def rAppend : V → List V → Hp → VK → Prop := fun x vs H Q => ∃ l xs y, x = .ref l ∧ vs = [y] ∧ H l = some (.lst xs) ∧ xs.length < sizeLine ∧ Q .non (upd H l (.lst (xs ++ [y])))
theorem mt_append : MtM X "list.append" rAppend := by
  intro pins s σ H x vs v us Q I rx rv h
  obtain ⟨l, xs, y, rfl, rfl, hH, hz, q⟩ := h
  cases rx
  obtain ⟨u, rfl, ru⟩ := rv.one
  obtain ⟨z, its, n, r, hl, e⟩ := I.lstM hH
  refine call_meets F.slot_list_append ⟨_, e, rfl⟩ F.entry_list_append (F.args_list_append_2 _ _) (PySem.list_append l its.toArray n u (by rw [List.size_toArray]; omega)) ⟨e, ?_⟩
  refine ⟨.non, _, I.lset (its' := its ++ [u]) hH e (by simp) (r.append (.cons ru .nil)) ?_, rfl, q⟩
  rw [List.length_append, List.length_singleton]
  omega

def rExtend : V → List V → Hp → VK → Prop := fun x vs H Q => ∃ l b xs zs, x = .ref l ∧ vs = [.ref b] ∧ H l = some (.lst xs) ∧ H b = some (.lst zs) ∧ xs.length + zs.length ≤ sizeLine ∧ Q .non (upd H l (.lst (xs ++ zs)))
theorem mt_extend : MtM X "list.extend" rExtend := by
  intro pins s σ H x vs v us Q I rx rv h
  obtain ⟨l, b, xs, zs, rfl, rfl, hH, hB, hz, q⟩ := h
  cases rx
  obtain ⟨u, rfl, ru⟩ := rv.one
  cases ru
  obtain ⟨z, its, n, r, hl, e⟩ := I.lstM hH
  obtain ⟨z2, its2, n2, r2, hl2, e2⟩ := I.lstM hB
  have hsz : its.toArray.size + its2.toArray.size ≤ sizeLine := by rw [List.size_toArray, List.size_toArray]; omega
  have hlong : ¬ (!its.toArray.isEmpty && Builtin.List.listTooLong (its.toArray.size + its2.toArray.size)) = true := by
    rw [notLongL hsz, Bool.and_false]
    exact Bool.false_ne_true
  refine call_meets F.slot_list_extend ⟨_, e, rfl⟩ F.entry_list_extend (F.args_list_extend_2 _ _)
    (AutoSeq1.list_extend_list_list_0 l its.toArray n b its2.toArray n2 hlong (by rw [List.size_toArray]; omega) (by omega)) ⟨e, e2, ?_⟩
  refine ⟨.non, _, I.lset (its' := its ++ its2) hH e (by simp) (r.append r2) ?_, rfl, q⟩
  rw [List.length_append]
  omega

def rPopAt : V → List V → Hp → VK → Prop := fun x vs H Q => ∃ l xs i k y, x = .ref l ∧ vs = [.int i] ∧ H l = some (.lst xs) ∧ -(2 ^ 63) ≤ i ∧ i < 2 ^ 63 ∧ seqIndex? i xs.length = some k ∧ xs[k]? = some y ∧ Q y (upd H l (.lst (xs.eraseIdx k)))
theorem mt_popAt : MtM X "list.pop" rPopAt := by
  intro pins s σ H x vs v us Q I rx rv h
  obtain ⟨l, xs, i, k, y, rfl, rfl, hH, h1, h2, hk, hy, q⟩ := h
  cases rx
  obtain ⟨u, rfl, ru⟩ := rv.one
  obtain ⟨t, rfl⟩ := ru
  obtain ⟨z, its, n, r, hl, e⟩ := I.lstM hH
  obtain ⟨w, hw, rw'⟩ := r.get hy
  refine call_meets F.slot_list_pop ⟨_, e, rfl⟩ F.entry_list_pop (F.args_list_pop_2 _ _)
    (MeetsSeq.list_pop_at l its.toArray n i t k w (fitsIndex_both h1 h2) (by rw [List.size_toArray, ← hl]; exact hk) (by rw [← Array.getElem?_toList]; exact hw) (by rw [List.size_toArray]; omega)) ⟨e, ?_⟩
  refine ⟨y, _, I.lset (its' := its.eraseIdx k) hH e ?_ (r.eraseIdx k) ?_, rw', q⟩
  · show its.toArray.eraseIdxIfInBounds k = (its.eraseIdx k).toArray
    rw [List.eraseIdxIfInBounds_toArray]
  · have := len_erase xs k
    omega

/-! ### list + list, list += list, list * int -/
def rCat : R2 := fun x y H Q => ∃ l b xs zs, x = .ref l ∧ y = .ref b ∧ H l = some (.lst xs) ∧ H b = some (.lst zs) ∧ xs.length + zs.length ≤ sizeLine ∧ ∀ p, H p = none → Q (.ref p) (upd H p (.lst (xs ++ zs)))
theorem op_cat : OpR X (binaryOp .Add) rCat := by
  intro pins s σ H x y v u Q I rx ry h
  obtain ⟨l, b, xs, zs, rfl, rfl, hH, hB, hz, q⟩ := h
  cases rx
  cases ry
  obtain ⟨z, its, n, r, hl, e⟩ := I.lstM hH
  obtain ⟨z2, its2, n2, r2, hl2, e2⟩ := I.lstM hB
  refine PySem.P.add_list e e2 ?_ (by rw [List.size_toArray, List.size_toArray]; omega)
  have ea : its.toArray ++ its2.toArray = (its ++ its2).toArray := by simp
  rw [ea]
  exact ⟨.ref _, _, I.lnew (t' := s.toks) (r.append r2) (by rw [List.length_append]; omega), rfl, q _ I.fresh⟩
/-! ### del xs[i] -/
end

/-! ### xs[a:b] = ys -/
section
variable {prog : Program} {w : World} {A : Around} {E : Value → Shared → Prop} {s : Shared}
set_option maxRecDepth 100000 in
end

section
variable {X : Cx}
end
end L2

namespace Att
open PySem PySem.W PySem.Calls PyProof.Rows

/-! ### the script -/
theorem ints_of_wellAll {P : Params} {h : Heap} : ∀ (ns : List Int) (vs : List Value), WellAll P h vs (ns.map WData.int) → IntsAre vs ns := by
  intro ns
  induction ns with
  | nil =>
    intro vs w
    rw [List.map_nil] at w
    cases w
    exact .nil
  | cons n ns ih =>
    intro vs w
    rw [List.map_cons] at w
    cases w with
    | cons a b =>
      cases a
      exact .cons _ _ (ih _ b)

theorem script_of {l : OpenLaw} {n : Nat} (hn : l.most = some n) {P : Params} {h : Heap} {args : List WData} {vals : List Value}
    (hpre : l.row.toRowW.claim.pre args = true) (hwl : WellAll P h vals args) :
    ∃ a vs ns, vals = [Value.ref a] ∧ args = [WData.list (ns.map WData.int)] ∧ h.get? a = some { cls := .type "list", data := .seq vs.toArray } ∧ IntsAre vs ns ∧ ns.length ≤ n := by
  have hsh : WShape.hasAll [] args [.list .int] = true := (pre_splitW hpre).1
  have hc : l.pre.holds [] { args := args } = true := (pre_splitW hpre).2
  obtain ⟨d, r, rfl, h1, h2⟩ := hasAllW_cons hsh
  obtain rfl := hasAllW_nil h2
  obtain ⟨xs, rfl, h3⟩ := hasW_list h1
  obtain ⟨ns, rfl⟩ := items_int h3
  have hlen : ns.length ≤ n := by
    unfold OpenLaw.pre at hc
    have h4 : (WTm.not (.lt (.lit (.int (n : Int))) (.len (.arg 0)))).holds [] { args := [.list (ns.map .int)] } = true := by
      have h4 := (holds_andW hc).1
      rw [hn] at h4
      exact h4
    have h5 := condW_of h4 (w_not (w_lt w_lit (w_len_list (w_arg rfl))))
    rw [List.length_map] at h5
    refine Nat.le_of_not_lt fun q => ?_
    have q' : (n : Int) < ((ns.length : Nat) : Int) := by omega
    first
      | (rw [decide_eq_true q'] at h5; exact absurd h5 (by decide))
      | (simp at h5; omega)
  cases hwl with
  | cons w1 w2 =>
    cases w2
    cases w1 with
    | list ho hall => exact ⟨_, _, ns, rfl, rfl, ho, ints_of_wellAll ns _ hall, hlen⟩

theorem post_true (l : OpenLaw) (args : List WData) : l.row.toRowW.claim.post args (.bool true) args = true :=
  postW_of (r := l.row.toRowW) (X := (true == true))
    (show WShape.has [] (.bool true) .bool = true by first | rfl | decide | simp [WShape.has, WShape.arms, WShape.armsAll])
    (show (WTm.eq .res (.lit (.bool true))).value [] { args := args, res := some (.bool true), after := args } = some (.bool (true == true)) from w_eq_bool (w_res rfl) w_lit) rfl

/-! ### the attachment: holds_open's last premise (the goal 'hc' behind k_head) from a wpAny of the law's body -/
/-- the same from a codeAny of the CALL (for a layer whose function contracts speak of calls) -/
theorem attach_call {l : OpenLaw} {n : Nat} {q : Program} {loose : List Str} {XP : (Str → Option Value) → Heap → Prop} {YP : World → Heap → Prop} {d : DefRec}
    (hn : l.most = some n) (hdf : d.params.defaults = [])
    (call : ∀ (w : World) (s₀ s₁ : Shared) (mg mb : Str → Option Value) (fa : Addr) (o : Obj) (pm cd doc : Value) (a : Addr) (vs : List Value) (ns : List Int),
      Ground q loose [] XP w s₀ mg mb s₁.heap → YP w s₁.heap →
      s₁.heap.get? fa = some o → o.data = .func (docDef d.name d.params d.body d.scope pm cd doc) → s₁.heap.CodeRec cd d.name → mg d.name = some (.ref fa) →
      s₁.heap.get? a = some { cls := .type "list", data := .seq vs.toArray } → IntsAre vs ns → ns.length ≤ n → s₁.gens = #[] →
      codeAny (model l.prog w) callerA (.call (.ref fa) ⟨[.ref a], []⟩) (fun r s' => r = .ok (.ret (.bool true)) ∧ OldK s₁.heap s'.heap ∧ s'.os = s₁.os ∧ AllBare s'.gens) s₁) :
    WalkO q loose XP YP l.row.toRowW d [] (fun f vs => PySem.call f vs) := by
  intro w s₀ s₁ mg mb G Y fa o pm cd doc dV kV ho hd hcd hD hmg hg args vals as hpre hlay hrd hwl hlo
  obtain rfl : dV = .none := Dflts.none hD hdf
  obtain rfl : kV = .none := Dflts.noKw hD
  obtain ⟨a, vs, ns, rfl, rfl, hobj, hints, hlen⟩ := script_of hn hpre hwl
  refine enter_call (codeAny_mono (call w s₀ s₁ mg mb fa o pm cd doc a vs ns G Y ho (fd_plain hd) hcd hmg hobj hints hlen hg) fun r s' hq => ?_)
  obtain ⟨rfl, h2, h3, h4⟩ := hq
  exact ⟨.inl ⟨.bool true, .bool true, [], rfl, fun _ => rfl, .bool true, post_true l _, fun _ => ⟨List.Pairwise.nil, fun _ hm => (nomatch hm)⟩⟩, h2, h3, h4⟩

/-! ### rules over ANY heap (no ledger) from facts about the written part K: the library's own take a ledger (News) for what they write -/
section
variable {prog : Program} {w : World} {A : Around} {E : Value → Shared → Prop} {s : Shared} {K : Frag}

/-! the whole heap as the ledger: makes every rule that writes through a ledger a rule over any heap -/
def ledger (h : Heap) (L d : Addr) : List (Addr × Obj) := (List.range h.objs.size).filterMap fun a => if a = L ∨ a = d then none else (h.get? a).map fun o => (a, o)
end
end Att

namespace L2
open PySem PySem.Spec PyProof.Rows

theorem vals_ints : ∀ {vs : List Value} {ns : List Int}, IntsAre vs ns → Vals (ns.map V.int) vs
  | _, _, .nil => .nil
  | _, _, .cons n t h => .cons ⟨t, rfl⟩ (vals_ints h)

/-- nothing is tracked but the script, known to the object (or it is an object of the module) -/
def Only (H : Hp) : Prop := ∀ b, H b = none ∨ ∃ o xs, H b = some (.frz o (.lst xs))

/-- THE HEAD: the law's promise, at the heap behind the top. F, the promise of the law's def, may use that base is part of the heap (so K.In base, base.Ns mainGlobals mg stand in Mod) -/
theorem law_call {P : Program} {w : World} {K : PySem.W.Frag} {mg mb : Str → Option Value} {CX : CXT} {k : Nat} {fa a : Addr} {fd : FuncData} {x : Str} {sp : Sp} {s₁ : Shared} {vs : List Value} {ns : List Int}
    (KX : K.In s₁.heap) (hns : s₁.heap.Ns mainGlobals mg) (hb : s₁.heap.Ns builtinsNs mb) (hbb : ∀ x : Str, x ≠ "__name__" → mb x = bootBuiltins x) (hlim : s₁.heap.NoLimit) (hg : s₁.gens = #[])
    (ha : s₁.heap.get? a = some { cls := .type "list", data := .seq vs.toArray }) (hi : IntsAre vs ns) (hl : ns.length ≤ sizeLine) (hr : Room k callerA)
    (F : ∀ base : Heap, K.In base → base.Ns mainGlobals mg → FnOk P w K mg base CX k fa fd [x] sp) (hbind : ∀ (s : Shared) (u : Value), BindsTo s fd ⟨[u], []⟩ [(x, u)])
    (hsp : ∀ H : Hp, Only H → SqL K H a (ns.map V.int) → sp [.ref a] H (fun v _ => v = .bl true) fun _ _ _ => False)
    (hCX : ∀ H e s', CX [] H s₁ (fun _ _ _ => False) e s' → False) :
    codeAny (model P w) callerA (.call (.ref fa) ⟨[.ref a], []⟩) (fun r s' => r = .ok (.ret (.bool true)) ∧ OldK s₁.heap s'.heap ∧ s'.os = s₁.os ∧ AllBare s'.gens) s₁ := by
  have rv := vals_ints hi
  have lenV := hi.length
  -- from an abstract heap in which nothing but the script may be tracked
  have core : ∀ H : Hp, Only H → SqL K H a (ns.map V.int) → HOk P w H s₁.heap → (∀ b, H b ≠ none → b = a) → (H a ≠ none → K.lookup a = none) →
      codeAny (model P w) callerA (.call (.ref fa) ⟨[.ref a], []⟩) (fun r s' => r = .ok (.ret (.bool true)) ∧ OldK s₁.heap s'.heap ∧ s'.os = s₁.os ∧ AllBare s'.gens) s₁ := by
    intro H hO hS hok hA hK
    have base_of : ∀ {b : Addr} {o : Obj}, s₁.heap.get? b = some o → H b = none → (hidT s₁.heap H).get? b = some o := fun e n => hidT_get e n
    have noA : ∀ {b : Addr} {o : Obj} {es : Array DictEntry} {ep : Nat}, s₁.heap.get? b = some o → o.data = .dict es ep → H b = none := fun {b o es ep} e d => by
      cases q : H b with
      | none => rfl
      | some u =>
        have e' : b = a := hA b (by rw [q]; simp)
        subst e'
        rw [ha] at e; cases e
        have d' : Data.seq vs.toArray _ = Data.dict es ep := d
        cases d'
    have nsK : ∀ {b : Addr} {m : Str → Option Value}, s₁.heap.Ns b m → (hidT s₁.heap H).Ns b m := fun {b m} ⟨o, es, ep, e, d, r⟩ => ⟨o, es, ep, base_of e (noA e d), d, r⟩
    have hKb : K.In (hidT s₁.heap H) := fun b o e => base_of (KX b o e) (by
      cases q : H b with
      | none => rfl
      | some u =>
        have e' : b = a := hA b (by rw [q]; simp)
        subst e'
        rw [hK (by rw [q]; simp)] at e; cases e)
    have hM : Mod K mg (hidT s₁.heap H) := ⟨hKb, nsK hns, ⟨mb, nsK hb, hbb⟩, let ⟨mc, h1, h2⟩ := hlim; ⟨mc, nsK h1, h2⟩⟩
    have e0 : Env0 P w K mg (hidT s₁.heap H) callerA [] s₁ H := ⟨rfl, hM, fun b o e => of_hidT e, Nat.le_of_eq (hidT_size _ _), trivial, fun b hb => absurd (show b ∈ ([] : List Addr) from hb) (by simp), hok, .of_eq hg⟩
    refine codeAny_mono ((F _ hKb (nsK hns)).run callerA [] s₁ H ⟨[.ref a], []⟩ [.ref a] [.ref a] _ _ hr e0 (hbind s₁ (.ref a)) (.cons rfl .nil) (hsp H hO hS)) fun r s' h => ?_
    cases r with
    | error e => exact (hCX H e s' h).elim
    | ok fl =>
      cases fl with
      | next => exact False.elim h
      | brk => exact False.elim h
      | cont => exact False.elim h
      | ret u =>
        obtain ⟨v, H', os, bare, un, hok', r', q⟩ := h
        have q' : v = .bl true := q
        subst q'
        obtain rfl : u = Value.bool true := r'
        refine ⟨rfl, OldK.of_keep fun b o e => ?_, os, bare⟩
        cases q : H b with
        | none => exact un.keep b o e q (by intro z; exact absurd (show b ∈ ([] : List Addr) from z) (by simp)) (by simp)
        | some u =>
          rcases hO b with z | ⟨ob, xs, z⟩
          · rw [q] at z; cases z
          · have z2 := un.frzs b ob _ z
            obtain ⟨e1, _⟩ := hok b _ z
            obtain ⟨e2, _⟩ := hok' b _ z2
            rw [e] at e1; cases e1
            exact e2
  cases hk : K.lookup a with
  | some o =>
    -- the script is one of the module's own objects
    have e := KX a o hk
    rw [ha] at e
    cases e
    refine core (fun _ => none) (fun _ => .inl rfl) (.inr ⟨_, vs.toArray, _, hk, rfl, rfl, rfl, by rw [List.size_toArray, lenV]; exact hl, by simpa using rv⟩) (fun b u z => by have z' : (none : Option HO) = some u := z; cases z') (fun b z => absurd rfl z) fun z => absurd rfl z
  | none =>
    refine core (fun b => if b = a then some (.frz { cls := .type "list", data := .seq vs.toArray } (.lst (ns.map V.int))) else none) (fun b => ?_) (.inl (.inr ⟨{ cls := .type "list", data := .seq vs.toArray }, if_pos rfl⟩)) (fun b u z => ?_) (fun b z => ?_) fun _ => hk
    · by_cases hb : b = a
      · exact .inr ⟨_, _, if_pos hb⟩
      · exact .inl (if_neg hb)
    · by_cases hb : b = a
      · have z' := (if_pos hb).symm.trans z
        cases z'
        subst hb
        exact ⟨ha, by rw [List.length_map]; exact hl, vs, _, rv, ha⟩
      · have z' := (if_neg hb).symm.trans z
        cases z'
    · by_cases hb : b = a
      · exact hb
      · exact absurd (if_neg hb) z
end L2

namespace L2
open PySem PySem.Spec PyProof.Rows

/-- the goal that k_head leaves (case hc), from the law's promise. F gives the function object fd (K's own) once, then the promise over every base -/
theorem walk_of {l : PySem.W.OpenLaw} {n k : Nat} {q : Program} {loose : List Str} {XP : (Str → Option Value) → Heap → Prop} {YP : World → Heap → Prop} {d : DefRec} {K : Params → PySem.W.Frag} {CX : World → CXT} {sp : World → Sp} {x : Str}
    (hn : l.most = some n) (hn2 : n ≤ sizeLine) (hdf : d.params.defaults = []) (hr : Room k callerA)
    (hY : ∀ (w : World) (h : Heap), YP w h → (K w.params).In h)
    (F : ∀ (w : World) (mg : Str → Option Value) (fa : Addr) (h : Heap), (K w.params).In h → h.Ns mainGlobals mg → mg d.name = some (.ref fa) →
      ∃ fd : FuncData, (∀ (s : Shared) (u : Value), BindsTo s fd ⟨[u], []⟩ [(x, u)]) ∧
        ∀ base : Heap, (K w.params).In base → base.Ns mainGlobals mg → FnOk l.prog w (K w.params) mg base (CX w) k fa fd [x] (sp w))
    (hsp : ∀ (w : World) (H : Hp) (a : Addr) (ns : List Int), ns.length ≤ n → Only H → SqL (K w.params) H a (ns.map V.int) → sp w [.ref a] H (fun v _ => v = .bl true) fun _ _ _ => False)
    (hCX : ∀ (w : World) (H : Hp) (s : Shared) (e : Value) (s' : Shared), CX w [] H s (fun _ _ _ => False) e s' → False) :
    PySem.W.WalkO q loose XP YP l.row.toRowW d [] (fun f vs => PySem.call f vs) := by
  refine Att.attach_call hn hdf fun w s₀ s₁ mg mb fa o pm cd doc a vs ns G Y ho hd hcd hmg hobj hints hlen hg => ?_
  have KX := hY w _ Y
  obtain ⟨fd, hb, hF⟩ := F w mg fa _ KX G.T.g hmg
  exact law_call KX G.T.g G.T.b G.T.builtins G.T.nolimit hg hobj hints (Nat.le_trans hlen hn2) hr hF hb (fun H hO hS => hsp w H a ns hlen hO hS) fun H e s' => hCX w H s₁ e s'
end L2

/- THE LAST THEOREM (shape; LID, My.* are yours):
   My.Adr: a structure of the addresses that your layer names (classes, functions); My.Txt K t: a structure (Prop) of the equations over K;
   My.txt_mk : {K} {implicit addresses ..} (e1 : nsIn K mainGlobals "law" = some (some (.ref f))) (e2 : K.lookup f = some ⟨oc, od, .func (fnOf "law" "law" params body scope dV kV doc pm an cdv ct), sl⟩) (e3 : codeIn K cdv "law" = true) .. : ∃ t, My.Txt K t

set_option maxRecDepth 100000 in
set_option maxHeartbeats 0 in
theorem PySem.Challenge.cw_LID_holds : PySem.Challenge.rw_LID.Holds := by
  w_on; o_law; k_head; (case hw => w_witness2)
  k_fill
  refine L2.walk_of (l := PySem.Challenge.rw_LID) (n := 63) (k := 40) (x := "script") (CX := fun w => ..) (sp := fun _ => My.sp_law) rfl (by decide) rfl ⟨rfl, by decide, by decide⟩ (fun w h Y => PySem.W.kIn_of Y) ?F ?S ?C
  case F =>
    intro w mg fa h KX G hmg
    have T : ∃ t, My.Txt (L2.KOf KX) t := by
      dsimp only [L2.KOf]                          -- K must stand as «<heap const> w.params» for k_is
      refine' My.txt_mk ?e1 ?e2 ?e3 ..
      (case e1 => PySem.W.k_is)                    -- in the order: a name -> its address -> its object -> its parts
      (case e2 => PySem.W.k_is)
      ..
    obtain ⟨t, T⟩ := T
    have e0 := hmg.symm.trans (PySem.W.mg_of KX G T.law)
    cases e0                                       -- fa is the law's own address
    exact ⟨_, fun s u => .of_eq rfl, fun base kb nb => My.law_fn T kb nb⟩     -- if «.of_eq rfl» comes too early: refine' ⟨_, ?b, fun base kb nb => My.law_fn T kb nb⟩; exact fun s u => .of_eq rfl
  case S => exact fun w H a ns hl hO hS => ..
  case C => exact ..
(the tactic k_is has no namespace: write k_is) -/

/-! SHORT WORDS over the layer: a def of the text, its body, what a loop and a test want. -/
namespace L2
open PySem PySem.Spec PyProof.Rows

/-! ### the text by places -/
def defArgs (s : Stmt) : Arguments := match s with
  | .FunctionDef _ a _ _ _ _ _ _ _ _ => a
  | _ => { posonlyargs := [], args := [], vararg := none, kwonlyargs := [], kw_defaults := [], kwarg := none, defaults := [] }
def defBody (s : Stmt) : List Stmt := match s with
  | .FunctionDef _ _ b _ _ _ _ _ _ _ => b
  | _ => []
def defScope (s : Stmt) : Scope := match s with
  | .FunctionDef _ _ _ _ _ _ sc _ _ _ => sc
  | _ => { kind := .function, names := [], isGenerator := false, isCoroutine := false }

/-! ### no exception leaves a def -/
abbrev CX0 : CXT := fun _ _ _ _ _ _ => False
abbrev E0 : XK := fun _ _ _ => False
theorem pass0 {X : Cx} : Passes CX0 X E0 := fun _ _ _ _ _ _ _ h => h.elim

/-! ### a def (or method) of the text as it stands behind the top -/
structure Fun (K : PySem.W.Frag) (x qual : Str) (st : Stmt) (f : Addr) (fd : FuncData) : Prop where
  ex : ∃ (oc : Value) (od : Option Addr) (kV doc pm : Value) (an : Option Addr) (cdv ct : Value) (osl : Array (Option Value)),
    fd = PySem.W.fnOf x qual (defArgs st) (defBody st) (defScope st) .none kV doc pm an cdv ct ∧ K.lookup f = some ⟨oc, od, .func fd, osl⟩ ∧ PySem.W.codeIn K cdv qual = true
  kp : PySem.W.keepIn K (.ref f) = true
section
variable {P : Program} {w : World} {K : PySem.W.Frag} {mg : Str → Option Value} {base : Heap}
/-- THE RULE for a def: its body as a term of rules, and the reading of that term -/
theorem Fun.ok {x qual : Str} {st : Stmt} {f : Addr} {fd : FuncData} {N ps : List Str} {k : Nat} {sp : Sp} (F : Fun K x qual st f fd) (S : FnScope N ps (defScope st)) (len : ∀ vs H Q E, sp vs H Q E → vs.length = ps.length)
    (hbody : ∀ (cdv : Value) (A : Around) (outer : List Env) (s : Shared) (H : Hp) (vs : List V) (Q : VK) (E : XK), Room k (A.deeper (envOfC qual (defScope st) s.heap.objs.size f cdv)) → sp vs H Q E →
      ∃ t, PSs (cxOf CX0 P w K mg base N qual (defScope st) f cdv A outer s H E).nox (defBody st) t ∧ t { nx := fun _ H' => Q .non H', rt := Q } (start N vs) H) : FnOk P w K mg base CX0 (k + 1) f fd ps sp := by
  obtain ⟨oc, od, kV, doc, pm, an, cdv, ct, osl, rfl, lk, hcd⟩ := F.ex
  refine fn_of lk hcd S len fun A outer s H vs Q E hr hsp => ?_
  obtain ⟨t, h, q⟩ := hbody cdv A outer s H vs Q E hr hsp
  exact ⟨t, h.nox, q⟩
/-- how its arguments bind (no defaults): h is «fun _ _ _ _ _ _ us hl => match us, hl with | [_, _], _ => rfl», one _ a parameter -/
theorem Fun.binds {x qual : Str} {st : Stmt} {f : Addr} {fd : FuncData} {ps : List Str} (F : Fun K x qual st f fd)
    (h : ∀ (kV doc pm : Value) (an : Option Addr) (cdv ct : Value) (us : List Value), us.length = ps.length → bindArgs (PySem.W.fnOf x qual (defArgs st) (defBody st) (defScope st) .none kV doc pm an cdv ct) ⟨us, []⟩ = pure (ps.zip us)) : Binds K fd ps [] := by
  obtain ⟨oc, od, kV, doc, pm, an, cdv, ct, osl, rfl, lk, hcd⟩ := F.ex
  exact .all (h kV doc pm an cdv ct)
theorem fun_mk {x qual : Str} {st : Stmt} {f : Addr} {oc : Value} {od an : Option Addr} {osl : Array (Option Value)} {kV doc pm cdv ct : Value} (l : K.lookup f = some ⟨oc, od, .func (PySem.W.fnOf x qual (defArgs st) (defBody st) (defScope st) .none kV doc pm an cdv ct), osl⟩)
    (c : PySem.W.codeIn K cdv qual = true) (k : PySem.W.keepIn K (.ref f) = true) : Fun K x qual st f (PySem.W.fnOf x qual (defArgs st) (defBody st) (defScope st) .none kV doc pm an cdv ct) := ⟨⟨oc, od, kV, doc, pm, an, cdv, ct, osl, rfl, l, c⟩, k⟩
end
/-! ### expressions in short: the name that stands in the i-th slot -/
section
variable {X : Cx}
theorem pv (i : Nat) {x : Str} {pos : Pos} (hN : X.N[i]? = some x := by rfl) (hv : Vis X.env.scope x := by first | exact Or.inl rfl | exact Or.inr (Or.inl rfl) | exact Or.inr (Or.inr rfl)) (hd : (x == ("__debug__" : Str)) = false := by decide)
    (hcd : (x == ("__classdict__" : Str)) = false := by decide) : PE X (.Name x pos) (tVar i) := pe_var hN hv hd hcd
end

/-! ### tests -/
theorem iteF {A B : Prop} (h : B) : if false = true then A else B := by
  rw [if_neg Bool.false_ne_true]
  exact h
theorem iteT {A B : Prop} (h : A) : if true = true then A else B := by
  rw [if_pos rfl]
  exact h
theorem ite2 {c A B : Prop} [Decidable c] (h1 : c → A) (h2 : ¬ c → B) : if c then A else B := by
  by_cases h : c
  · rw [if_pos h]
    exact h1 h
  · rw [if_neg h]
    exact h2 h
/-! ### heaps -/
/-- all that was tracked is as it was -/
def Same (H H' : Hp) : Prop := ∀ b o, H b = some o → H' b = some o
theorem Same.refl (H : Hp) : Same H H := fun _ _ h => h
theorem Same.trans {H H1 H2 : Hp} (a : Same H H1) (b : Same H1 H2) : Same H H2 := fun c o h => b c o (a c o h)
theorem Same.free {H H' : Hp} (e : Same H H') {l : Addr} (h : H' l = Option.none) : H l = Option.none := by
  cases q : H l with
  | none => rfl
  | some o =>
    rw [e l o q] at h
    cases h
theorem Same.seq {K : PySem.W.Frag} {H H' : Hp} {a : Addr} {xs : List V} (e : Same H H') (h : SqL K H a xs) : SqL K H' a xs := by
  rcases h with (h | ⟨o, h⟩) | h
  · exact .inl (.inl (e _ _ h))
  · exact .inl (.inr ⟨o, e _ _ h⟩)
  · exact .inr h

end L2

set_option Elab.async false
set_option linter.all false
set_option maxRecDepth 100000
set_option maxHeartbeats 4000000
namespace L3
open PySem PySem.Spec PyProof.Rows L2
abbrev St := L2.St

/-- the inner names' values: an own name has none yet, a captured one has its slot's -/
def sub (ix : List (Option Nat)) (σ : St) : St := ix.map fun o => o.bind fun j => (σ[j]?).join

theorem thnF {α : Type} {t : Sem α} {Q Q' : α → Shared → Prop} {M : Model} {A : Around} {E : Value → Shared → Prop} {s : Shared} (h : wpAny M A t Q (fun _ _ => False) s) (hQ : ∀ a s, Q a s → Q' a s) : wpAny M A t Q' E s :=
  wpAny_mono h hQ fun _ _ z => z.elim

/-- the tests behind a comprehension's for -/
def PTs (X : Cx) (ifs : List Expr) (t : TT) : Prop :=
  ∀ (pins : List (Addr × Obj)) (s : Shared) (σ : St) (H : Hp) (Q : Bool → Hp → Prop), Inv X pins σ H s → t σ H Q →
    wpAny (model X.prog X.w) X.A (forIn ifs true fun c r => if r = true then do let ok ← isTrue c X.env (eval c X.env); pure (ForInStep.yield ok) else pure (ForInStep.yield r)) (TP X pins σ Q) X.xe s
def tTrue : TT := fun _ H Q => Q true H
theorem pts_nil {X : Cx} : PTs X [] tTrue := fun _ _ _ H _ I h => wpAny_tests_nil ⟨H, I, h⟩
theorem pts_one {X : Cx} {c : Expr} {t : TT} (h : PT X c t) : PTs X [c] t := fun pins s σ H Q I q => wpAny_tests_one (h pins s σ H Q I q)

/-! ### what is captured -/
def closOf (scope : Scope) (env : Env) : List (Str × Addr) := (scope.names.filter fun y => y.2 == .free).reverse.map fun y => (y.1, (env.cells.lookup y.1).getD 0)

theorem clos_loop {env : Env} : ∀ (ns : List (Str × NameKind)) (acc : List (Str × Addr)), (∀ y ∈ ns, y.2 = .free → (env.cells.lookup y.1).isSome = true) →
    (forIn ns acc fun (x : Str × NameKind) (r : List (Str × Addr)) => if x.2 == .free then do let a ← cellOf env x.1; pure (ForInStep.yield ((x.1, a) :: r)) else pure (ForInStep.yield r) : Sem (List (Str × Addr))) =
      pure ((ns.filter fun y => y.2 == .free).reverse.map (fun y => (y.1, (env.cells.lookup y.1).getD 0)) ++ acc) := by
  intro ns
  induction ns with
  | nil => intro acc _; rfl
  | cons y r ih =>
    intro acc h
    have hr : ∀ z ∈ r, z.2 = .free → (env.cells.lookup z.1).isSome = true := fun z hz => h z (List.mem_cons_of_mem _ hz)
    rw [List.forIn_cons]
    by_cases hf : (y.2 == NameKind.free) = true
    · have hs := h y List.mem_cons_self (by simpa using hf)
      obtain ⟨c, hc⟩ := Option.isSome_iff_exists.mp hs
      have e1 : cellOf env y.1 = pure c := by unfold cellOf; rw [hc]
      rw [if_pos hf, e1, pure_bind, pure_bind]
      refine (ih _ hr).trans ?_
      rw [List.filter_cons_of_pos (by simpa using hf), List.reverse_cons, List.map_append]
      simp [hc]
    · rw [if_neg hf, pure_bind]
      refine (ih _ hr).trans ?_
      rw [List.filter_cons_of_neg (by simpa using hf)]
theorem clos_eq {scope : Scope} {env : Env} (h : ∀ y ∈ scope.names, y.2 = .free → (env.cells.lookup y.1).isSome = true) : closureFor scope env = pure (closOf scope env) := by
  have e := clos_loop (env := env) scope.names [] h
  rw [List.append_nil] at e
  unfold closureFor
  rw [show closOf scope env = (scope.names.filter fun y => y.2 == .free).reverse.map (fun y => (y.1, (env.cells.lookup y.1).getD 0)) from rfl]
  rw [← pure_bind (m := Sem) ((scope.names.filter fun y => y.2 == .free).reverse.map (fun y => (y.1, (env.cells.lookup y.1).getD 0))) pure, ← e]
theorem lookup_pairs {β : Type} (f : Str → β) : ∀ (l : List (Str × NameKind)) (x : Str), (l.map fun y => (y.1, f y.1)).lookup x = if x ∈ l.map (·.1) then some (f x) else none
  | [], x => by simp
  | y :: r, x => by
    rw [List.map_cons, List.lookup_cons, lookup_pairs f r x]
    by_cases e : x = y.1
    · subst e; simp
    · have hb : (x == y.1) = false := by simpa using e
      rw [hb]
      by_cases hm : x ∈ r.map (·.1)
      · rw [if_pos hm, if_pos (by rw [List.map_cons]; exact List.mem_cons_of_mem _ hm)]
      · rw [if_neg hm, if_neg (by rw [List.map_cons]; intro z; rcases List.mem_cons.mp z with z | z; exact e z; exact hm z)]
theorem clos_some {scope : Scope} {env : Env} {x : Str} {c : Addr} (h : ∀ y ∈ scope.names, y.2 = .free → (env.cells.lookup y.1).isSome = true) (e : (closOf scope env).lookup x = some c) : env.cells.lookup x = some c := by
  unfold closOf at e
  rw [lookup_pairs (fun z => (env.cells.lookup z).getD 0)] at e
  split at e
  · rename_i hx
    obtain ⟨y, hy, rfl⟩ := List.mem_map.mp hx
    obtain ⟨h1, h2⟩ := List.mem_filter.mp (List.mem_reverse.mp hy)
    obtain ⟨d, hd⟩ := Option.isSome_iff_exists.mp (h y h1 (by simpa using h2))
    have e' := Option.some.inj e
    rw [hd] at e' ⊢
    exact congrArg some e'
  · cases e
theorem clos_has {scope : Scope} {env : Env} {x : Str} (hx : (x, NameKind.free) ∈ scope.names) : ∃ c, (closOf scope env).lookup x = some c := by
  unfold closOf
  rw [lookup_pairs (fun z => (env.cells.lookup z).getD 0), if_pos]
  · exact ⟨_, rfl⟩
  · exact List.mem_map.mpr ⟨(x, .free), List.mem_reverse.mpr (List.mem_filter.mpr ⟨hx, by simp⟩), rfl⟩
theorem relabel_kind {env : Env} : ∀ {names : List (Str × NameKind)} {x : Str} {k : NameKind},
    (names.map fun (n, k) => if (k == NameKind.free && env.scope.kind == .function && env.kindOf n == some .cell) then (n, NameKind.cell) else (n, k)).lookup x = some k →
      names.lookup x = some k ∨ (k = .cell ∧ names.lookup x = some .free)
  | [], _, _, h => by simp at h
  | (n, k0) :: r, x, k, h => by
    rw [List.map_cons] at h
    dsimp only at h
    cases hx : x == n with
    | true =>
      by_cases hc : (k0 == NameKind.free && env.scope.kind == .function && env.kindOf n == some .cell) = true
      · rw [if_pos hc] at h
        simp only [List.lookup_cons, hx] at h ⊢
        have : k0 = .free := by
          have h1 := (Bool.and_eq_true _ _ ▸ ((Bool.and_eq_true _ _ ▸ hc).1)).1
          simpa using h1
        exact .inr ⟨(Option.some.inj h).symm, by rw [this]⟩
      · rw [if_neg hc] at h
        simp only [List.lookup_cons, hx] at h ⊢
        exact .inl h
    | false =>
      have h' : (r.map fun (n, k) => if (k == NameKind.free && env.scope.kind == .function && env.kindOf n == some .cell) then (n, NameKind.cell) else (n, k)).lookup x = some k := by
        by_cases hc : (k0 == NameKind.free && env.scope.kind == .function && env.kindOf n == some .cell) = true
        · rw [if_pos hc] at h; simpa only [List.lookup_cons, hx] using h
        · rw [if_neg hc] at h; simpa only [List.lookup_cons, hx] using h
      simp only [List.lookup_cons, hx]
      exact relabel_kind h'
theorem relabel_free {env : Env} : ∀ {names : List (Str × NameKind)} {x : Str}, names.lookup x = some .free →
    (names.map fun (n, k) => if (k == NameKind.free && env.scope.kind == .function && env.kindOf n == some .cell) then (n, NameKind.cell) else (n, k)).lookup x = some .cell ∨
    (names.map fun (n, k) => if (k == NameKind.free && env.scope.kind == .function && env.kindOf n == some .cell) then (n, NameKind.cell) else (n, k)).lookup x = some .free
  | [], _, h => by simp at h
  | (n, k0) :: r, x, h => by
    rw [List.map_cons]
    dsimp only
    cases hx : x == n with
    | true =>
      simp only [List.lookup_cons, hx] at h
      have e : k0 = .free := Option.some.inj h
      by_cases hc : (k0 == NameKind.free && env.scope.kind == .function && env.kindOf n == some .cell) = true
      · rw [if_pos hc]; exact .inl (by simp only [List.lookup_cons, hx])
      · rw [if_neg hc]; exact .inr (by simp only [List.lookup_cons, hx]; rw [e])
    | false =>
      simp only [List.lookup_cons, hx] at h
      have ih := relabel_free (env := env) h
      by_cases hc : (k0 == NameKind.free && env.scope.kind == .function && env.kindOf n == some .cell) = true
      · rw [if_pos hc]; simpa only [List.lookup_cons, hx] using ih
      · rw [if_neg hc]; simpa only [List.lookup_cons, hx] using ih

/-- what is asked of a comprehension's names; sc, N: the names around it -/
structure CompOk (sc : Scope) (N Nc : List Str) (ix : List (Option Nat)) (scope : Scope) : Prop where
  kind : scope.kind = .function
  nocell : ∀ y ∈ scope.names, y.2 ≠ .cell
  names : ∀ y ∈ scope.names, y.2 = .local → scope.names.lookup y.1 = some .local
  free : ∀ y ∈ scope.names, y.2 = .free → sc.names.lookup y.1 = some .cell ∨ sc.names.lookup y.1 = some .free
  len : ix.length = Nc.length
  chk : ((ix.zip Nc).all fun p => match p.1 with | none => true | some j => N[j]? == some p.2 && scope.names.lookup p.2 == some .free) = true
theorem CompOk.at_ {sc : Scope} {N Nc : List Str} {ix : List (Option Nat)} {scope : Scope} (o : CompOk sc N Nc ix scope) {i j : Nat} {x : Str} (h1 : ix[i]? = some (some j)) (h2 : Nc[i]? = some x) : N[j]? = some x ∧ scope.names.lookup x = some .free := by
  have hm : (some j, x) ∈ ix.zip Nc := by
    refine List.mem_of_getElem? (i := i) ?_
    rw [List.getElem?_zip_eq_some]
    exact ⟨h1, h2⟩
  have q := List.all_eq_true.mp o.chk _ hm
  have q' := Bool.and_eq_true _ _ ▸ q
  exact ⟨by simpa using q'.1, by simpa using q'.2⟩

/-- the context of a comprehension's block -/
def cxComp (X : Cx) (Nc : List Str) (scope : Scope) (cl : List (Str × Addr)) (C : Addr) (s : Shared) (H : Hp) (fp : List Addr) : Cx where
  prog := X.prog
  w := X.w
  K := X.K
  mg := X.mg
  base := X.base
  A := X.A
  N := Nc
  s₀ := s
  H₀ := H
  env := compEnvC scope cl C X.env
  outer := X.stack
  stack := X.stack
  ex := fp
  fn := fun x => (cl.lookup x).isNone
  calm := X.calm
  pn := X.pn
  xe := fun _ _ => False

/-- the turns of a comprehension, by an invariant: the new list stands at D -/
def CompW (J : It) (D : Addr) (g : TG) (tt : TT) (te : TE) (σ0 : St) (H1 : Hp) (Q : VK) : Prop :=
  ∃ W : Nat → Nat → St → Hp → Prop, (∃ m, W 0 m σ0 (upd H1 D (.lst []))) ∧ ∀ i m σ' H', W i m σ' H' → (J.stop i H' ∧ Q (.ref D) H') ∨
    (J.go i H' ∧ ∃ (N : V → St → Hp → Prop) (N0 : St → Hp → Prop), (∀ v σ2 H5, N v σ2 H5 → ∃ xs, H5 D = some (.lst xs) ∧ xs.length < sizeLine ∧ ∃ m', m' < m ∧ W (i + 1) m' σ2 (upd H5 D (.lst (xs ++ [v])))) ∧
      (∀ σ2 H4, N0 σ2 H4 → ∃ m', m' < m ∧ W (i + 1) m' σ2 H4) ∧ ∀ x H2, J.yld i H' x H2 → g x σ' H2 fun σ2 H3 => tt σ2 H3 fun c H4 => if c = true then te σ2 H4 fun v H5 => N v σ2 H5 else N0 σ2 H4)
def tComp (wi : TI) (ix : List (Option Nat)) (g : TG) (tt : TT) (te : TE) : TE := fun σ H Q => wi σ H fun J H1 => ∀ D, H1 D = none → CompW J D g tt te (sub ix σ) H1 Q

theorem loop_of {prog : Program} {w : World} {A : Around} {R : Result → Shared → Prop} {s : Shared} {elt target iter : Expr} {ifs : List Expr} {scope : Scope} {pos : Pos} {it acc : Value} {env : Env} (J : Nat → Shared → Prop)
    (turn : ∀ n s, J n s → wpAny (model prog w) A (pyNext it) (fun r s1 => match r with
      | none => R (.ok .next) s1
      | some v => wpAny (model prog w) A (letOwnedTupleGo target it v) (fun _ s2 => wpAny (model prog w) A (assign target env v) (fun _ s3 =>
          wpAny (model prog w) A (forIn ifs true fun c r => if r = true then do let ok ← isTrue c env (eval c env); pure (ForInStep.yield ok) else pure (ForInStep.yield r)) (fun ok s4 =>
            if ok = true then wpAny (model prog w) A (eval elt env) (fun x s5 => wpAny (model prog w) A (call (.builtin "list.append") [acc, x]) (fun _ s6 => ∃ m, m < n ∧ J m s6) (fun _ _ => False) s5) (fun _ _ => False) s4
            else ∃ m, m < n ∧ J m s4) (fun _ _ => False) s3) (fun _ _ => False) s2) (fun _ _ => False) s1) (fun _ _ => False) s)
    (n : Nat) (h : J n s) : codeAny (model prog w) A (.compLoop (.ListComp elt [⟨target, iter, ifs, 0⟩] scope pos) 0 it acc env) R s := by
  refine codeAny_loop rfl J (fun k t hJ => ?_) n h
  show wpAny _ A ((compTurn (.ListComp elt [⟨target, iter, ifs, 0⟩] scope pos) 0 it acc env).onRaise _) _ _ t
  refine wpAny_noted ?_
  rw [compTurn_list]
  refine wpAny_bind (wpAny_standAt (wpAny_bind (thnF (turn k t hJ) fun r s1 h1 => ?_)))
  cases r with
  | none => exact wpAny_pure h1
  | some v =>
    refine wpAny_bind (thnF h1 fun _ s2 h2 => wpAny_bind (thnF h2 fun _ s3 h3 => wpAny_bind (thnF h3 fun ok s4 h4 => ?_)))
    cases ok with
    | false => exact wpAny_pure ⟨rfl, h4⟩
    | true => exact wpAny_bind (wpAny_bind (thnF h4 fun x s5 h5 => wpAny_bind (thnF h5 fun _ s6 h6 => wpAny_pure (wpAny_pure ⟨rfl, h6⟩))))

section
variable {X : Cx} {pins : List (Addr × Obj)} {σ : St} {H : Hp} {s : Shared} {Nc : List Str} {ix : List (Option Nat)} {scope : Scope}
theorem all_cells (I : Inv X pins σ H s) (ok : CompOk X.env.scope X.N Nc ix scope) : ∀ y ∈ scope.names, y.2 = .free → (X.env.cells.lookup y.1).isSome = true := fun y hy hf => by
  obtain ⟨c, hc⟩ := I.ok.has y.1 (ok.free y hy hf)
  rw [hc]; rfl
/-- the block begins: s is the state with the new list, C the block's own dict -/
theorem comp_start {fp : List Addr} {h1 : Heap} {t' : Nat} (I : Inv X pins σ H s) (ok : CompOk X.env.scope X.N Nc ix scope) (hf : ∀ b ∈ fp, FpOk X pins H b) (hob : ∀ b ∈ fp, ∃ o, s.heap.get? b = some o)
    {m : Str → Option Value} (hn : h1.Ns s.heap.objs.size m) (hk : ∀ b o, s.heap.get? b = some o → h1.get? b = some o) :
    Inv (cxComp X Nc scope (closOf scope X.env) s.heap.objs.size s H fp) pins (sub ix σ) H { s with heap := h1, toks := t' } := by
  have ac := all_cells I ok
  have old : ∀ {b : Addr} {o : Obj}, s.heap.get? b = some o → b ≠ s.heap.objs.size := fun e => Nat.ne_of_lt (Heap.lt_size e)
  refine ⟨⟨I.ok.mod, ?_, I.ok.glob, I.ok.blt, Nat.le_refl _, ?_, ?_, ?_, I.ok.hd, I.ok.frames, .inl rfl, ?_, I.bs, Nat.le_trans I.ok.bsz I.sz, ?_, ?_, I.stack, I.stkFree⟩, rfl, I.bare, Un.kept hk, ⟨m, hn, ?_⟩, ?_, ?_, ?_, ?_, I.hok.kept hk, ?_⟩
  · exact ok.kind
  · intro x y c e1 e2
    exact I.ok.inj x y c (clos_some ac e1) (clos_some ac e2)
  · intro x hx
    have key : ∀ k, (relabel scope X.env).names.lookup x = some k → (k = .cell ∨ k = .free) → ∃ c, (closOf scope X.env).lookup x = some c := fun k e hkk => by
      rcases relabel_kind e with q | ⟨_, q⟩
      · rcases hkk with rfl | rfl
        · exact absurd rfl (ok.nocell _ (PySem.mem_of_lookup q))
        · exact clos_has (PySem.mem_of_lookup q)
      · exact clos_has (PySem.mem_of_lookup q)
    rcases hx with e | e
    · exact key _ e (.inl rfl)
    · exact key _ e (.inr rfl)
  · intro x c hfn e
    have e' : (closOf scope X.env).lookup x = some c := e
    have hfn' : ((closOf scope X.env).lookup x).isNone = true := hfn
    rw [e'] at hfn'; cases hfn'
  · intro b hb
    obtain ⟨o, e⟩ := hob b hb
    obtain ⟨f0, f1, f2, f3, f4, f5⟩ := hf b hb
    exact ⟨old e, fun x c q => f4 x c (clos_some ac q)⟩
  · intro b o e hb
    obtain ⟨f0, f1, f2, f3, f4, f5⟩ := hf b hb
    rcases f3 with z | z
    · exact I.ok.noex b o e z
    · exact absurd (Nat.lt_of_lt_of_le (Nat.lt_of_lt_of_le (Heap.lt_size e) I.ok.bsz) z) (Nat.lt_irrefl _)
  · intro b hb hz
    obtain ⟨f0, f1, f2, f3, f4, f5⟩ := hf b hb
    rcases List.mem_cons.mp (I.stkSub b hz) with z | z
    · exact f1 z
    · exact f2 z
  · intro i x v e1 e2 e3
    have e1 : Nc[i]? = some x := e1
    unfold sub at e2
    rw [List.getElem?_map] at e2
    cases hi : ix[i]? with
    | none => rw [hi] at e2; cases e2
    | some o =>
      cases o with
      | none => rw [hi] at e2; cases e2
      | some j =>
        obtain ⟨hN, hfree⟩ := ok.at_ hi e1
        have e4 : σ[j]? = some (some v) := by
          rw [hi] at e2
          have e2' : some ((σ[j]?).join) = some (some v) := e2
          have e5 := Option.some.inj e2'
          cases hj : σ[j]? with
          | none => rw [hj] at e5; cases e5
          | some z => rw [hj] at e5; exact congrArg some e5
        have hvis : Vis X.env.scope x := by
          rcases ok.free (x, .free) (PySem.mem_of_lookup hfree) rfl with q | q
          · exact .inr (.inl q)
          · exact .inr (.inr q)
        obtain ⟨m0, hn0, hl⟩ := I.loc
        obtain ⟨u, r, lk⟩ := hl j x v hN e4 hvis
        refine ⟨u, r, .inr ⟨relabel_free hfree, ?_⟩⟩
        rcases lk with ⟨q, _⟩ | ⟨_, c, hc, z⟩
        · rcases ok.free (x, .free) (PySem.mem_of_lookup hfree) rfl with q2 | q2
          · exact absurd (q.symm.trans q2) (by decide)
          · exact absurd (q.symm.trans q2) (by decide)
        · obtain ⟨d, hd⟩ := clos_has (env := X.env) (PySem.mem_of_lookup hfree)
          have := clos_some ac hd
          rw [hc] at this; cases this
          obtain ⟨oc, e5, e6⟩ := z
          exact ⟨c, hd, oc, hk c oc e5, e6⟩
  · intro x c e
    obtain ⟨v, oc, e5, e6⟩ := I.cell x c (clos_some ac e)
    exact ⟨v, oc, hk c oc e5, e6⟩
  · exact I.hok.fresh (Nat.le_refl _)
  · intro x c e
    exact I.freeC x c (clos_some ac e)
  · intro p hp
    obtain ⟨e, n, ne, nf, d⟩ := I.pin p hp
    refine ⟨hk _ _ e, n, old e, fun z => ?_, d⟩
    rcases List.mem_cons.mp (I.stkSub p.1 z) with q | q
    · exact ne q
    · exact nf q
  · unfold sub
    rw [List.length_map]
    exact ok.len
/-- the block has ended -/
theorem comp_end {fp : List Addr} {cl : List (Str × Addr)} {C : Addr} {σ' : St} {H' : Hp} {s' : Shared} {h' : Heap} (I : Inv X pins σ H s) (hf : ∀ b ∈ fp, FpOk X pins H b) (hC : s.heap.get? C = none)
    (J : Inv (cxComp X Nc scope cl C s H fp) pins σ' H' s') (sb : Heap.SameBut C s'.heap h') : Inv X pins σ H' { s' with heap := h' } := by
  have u : Un (frs X.stack) fp H H' s.heap s'.heap := J.base
  have hCf : H' C = none := J.free
  have hCn : ∀ {b : Addr} {o : Obj}, s.heap.get? b = some o → b ≠ C := fun e z => by rw [z, hC] at e; cases e
  refine I.call' (s' := { s' with heap := h' }) (ch := fp) J.os ⟨fun b o e n h1 h2 => ?_, fun b o e n h1 h2 => ?_, u.free, fun b o e h2 => ?_, u.tups, u.frzs, u.tbls⟩ ?_ J.bare fun b hb => ?_
  · exact (sb.2 b (hCn e)).trans (u.keep b o e n h1 h2)
  · obtain ⟨sl, q⟩ := u.slot b o e n h1 h2
    exact ⟨sl, (sb.2 b (hCn e)).trans q⟩
  · obtain ⟨o', q⟩ := u.there b o e h2
    exact ⟨o', (sb.2 b (hCn e)).trans q⟩
  · intro b o e
    refine (J.hok b o e).stay (fun c v hc q => (sb.2 c ?_).trans q) (fun _ q => q) fun _ _ q => q
    rintro rfl
    rcases hc with z | z
    · rw [← z, hCf] at e; cases e
    · rw [hCf] at z; cases z
  · obtain ⟨f0, f1, f2, f3, f4, f5⟩ := hf b hb
    exact ⟨f3, f1, f4, f5⟩

theorem comp_run {elt tg iter : Expr} {ifs : List Expr} {pos pos2 : Pos} {wi : TI} {g : TG} {tt : TT} {te : TE} {use : Option (Value → Sem Unit)} {QV : Value → Shared → Prop} {Q : VK} (I : L2.Inv X pins σ H s) (h : tComp wi ix g tt te σ H Q)
    (fin : ∀ (D C : Addr) (H' : Hp) (s' : Shared) (m : Str → Option Value), L2.Inv X pins σ H' s' → FpOk X pins H' C → s'.heap.Ns C m → Q (.ref D) H' → compPost (model X.prog X.w) X.A X.xe use QV (.ref D) C (.ok .next) s')
    (ok : CompOk X.env.scope X.N Nc ix scope) (hc : X.calm = true) (hi : PI X tg iter wi)
    (hg : ∀ cl C s H fp, PG (cxComp X Nc scope cl C s H fp) tg g) (ht : ∀ cl C s H fp, PTs (cxComp X Nc scope cl C s H fp) ifs tt) (he : ∀ cl C s H fp, PE (cxComp X Nc scope cl C s H fp) elt te)
    (hs : ∀ x, foldedSetIterable iter X.env x = pure x := by intro _; rfl) : wpAny (model X.prog X.w) X.A (comprehension (.ListComp elt [⟨tg, iter, ifs, 0⟩] scope pos) scope X.env pos2 (newList []) false (eval iter X.env) use) QV X.xe s := by
  refine wpAny_comprehension_free (use := use) (cl := closOf scope X.env) rfl hs (clos_eq (all_cells I ok)) ok.kind ok.names (thn (hi pins s σ H _ I h) fun v s1 q1 => thn q1 fun itv s2 q2 => ?_)
  obtain ⟨it, fp, tn, J, H1, e, I2, T, st2, f2, q⟩ := q2
  subst e
  have hD : H1 s2.heap.objs.size = none := I2.hok.fresh (Nat.le_refl _)
  obtain ⟨W, ⟨m0, w0⟩, turn⟩ := q _ hD
  refine wpAny_newObj_type ?_
  have I3 : Inv X pins σ (upd H1 s2.heap.objs.size (.lst [])) { s2 with heap := s2.heap.push { cls := .type "list", data := .seq ([] : List Value).toArray } } :=
    I2.laid (t' := s2.toks) (fun b u e => Heap.get?_push_of_some _ e) (Nat.le_refl _) ⟨Nat.zero_le _, [], 0, .nil, Heap.get?_push_size _ rfl⟩
  have hob2 := T.obj 0 _ st2
  have f3 : ∀ b ∈ fp, FpOk X pins (upd H1 s2.heap.objs.size (.lst [])) b := fun b hb => by
    obtain ⟨o, e, _⟩ := hob2 b hb
    obtain ⟨f0, fr⟩ := f2 b hb
    exact ⟨by rw [upd_ne (Nat.ne_of_lt (Heap.lt_size e))]; exact f0, fr⟩
  have st3 : tn 0 (s2.heap.push { cls := .type "list", data := .seq ([] : List Value).toArray }) := T.keep 0 _ _ st2 fun b _ o e => Heap.get?_push_of_some _ e
  generalize hs3 : ({ s2 with heap := s2.heap.push { cls := .type "list", data := .seq ([] : List Value).toArray } } : Shared) = s3 at I3 ⊢
  have st3' : tn 0 s3.heap := by rw [← hs3]; exact st3
  refine wpAny_newFunctionEnv ok.nocell (by intro y hy; simp at hy) (fun h1 hns hsb => ?_) ok.kind
  have k1 : ∀ b o, s3.heap.get? b = some o → h1.get? b = some o := fun b o e => (hsb.2 b (Nat.ne_of_lt (Heap.lt_size e))).trans (Heap.get?_push_of_some _ e)
  have hob3 : ∀ b ∈ fp, ∃ o, s3.heap.get? b = some o := fun b hb => let ⟨o, e, _⟩ := T.obj 0 _ st3' b hb; ⟨o, e⟩
  have I4 : Inv (cxComp X Nc scope (closOf scope X.env) s3.heap.objs.size s3 (upd H1 s2.heap.objs.size (.lst [])) fp) pins (sub ix σ) (upd H1 s2.heap.objs.size (.lst [])) { s3 with heap := h1, toks := s3.toks + ([] : List (Str × Value)).length } :=
    comp_start I3 ok f3 hob3 hns k1
  have st4 : tn 0 h1 := T.keep 0 _ _ st3' fun b _ o e => k1 b o e
  have hC : s3.heap.get? s3.heap.objs.size = none := Heap.get?_none_of_le (Nat.le_refl _)
  generalize hX : cxComp X Nc scope (closOf scope X.env) s3.heap.objs.size s3 (upd H1 s2.heap.objs.size (.lst [])) fp = Y at I4
  have stat : ∀ {H' : Hp}, (∀ b ∈ fp, H' b = none) → ∀ b ∈ fp, FpOk Y pins H' b := fun {H'} hn b hb => by
    obtain ⟨o, e⟩ := hob3 b hb
    obtain ⟨f0, f1, ff, f3', f4, f5⟩ := f3 b hb
    have nst : b ∉ frs X.stack := fun z => by
      rcases List.mem_cons.mp (I3.stkSub b z) with z | z
      · exact f1 z
      · exact ff z
    subst hX
    exact ⟨hn b hb, Nat.ne_of_lt (Heap.lt_size e), nst, .inl hb, fun x c q => f4 x c (clos_some (all_cells I3 ok) q), f5⟩
  have fin' : ∀ {σ' : St} {H' : Hp} {s' : Shared}, L2.Inv Y pins σ' H' s' → Q (.ref s2.heap.objs.size) H' → compPost (model X.prog X.w) X.A X.xe use QV (.ref s2.heap.objs.size) s3.heap.objs.size (.ok .next) s' := fun {σ' H' s'} J' qq => by
    subst hX
    obtain ⟨m', hn', _⟩ := id J'.loc
    have hCn : H' s3.heap.objs.size = none := J'.free
    exact fin _ _ H' s' m' (comp_end (h' := s'.heap) I3 f3 hC J' (.refl ..)) (I3.fpOk (Nat.le_refl _) hCn) hn' qq
  have loop : codeAny (model X.prog X.w) X.A (.compLoop (.ListComp elt [⟨tg, iter, ifs, 0⟩] scope pos) 0 (.ref it) (.ref s2.heap.objs.size) Y.env)
      (compPost (model X.prog X.w) X.A X.xe use QV (.ref s2.heap.objs.size) s3.heap.objs.size) { s3 with heap := h1, toks := s3.toks + ([] : List (Str × Value)).length } := by
    have eP : Y.prog = X.prog := by subst hX; rfl
    have eW : Y.w = X.w := by subst hX; rfl
    have eK : Y.K = X.K := by subst hX; rfl
    have eA : Y.A = X.A := by subst hX; rfl
    have eE : Y.xe = fun _ _ => False := by subst hX; rfl
    have eC : Y.calm = true := by subst hX; exact hc
    have hgY : PG Y tg g := by subst hX; exact hg _ _ _ _ _
    have htY : PTs Y ifs tt := by subst hX; exact ht _ _ _ _ _
    have heY : PE Y elt te := by subst hX; exact he _ _ _ _ _
    unfold PG at hgY
    unfold PTs at htY
    unfold PE at heY
    rw [eP, eW, eA, eE] at hgY htY heY
    refine loop_of (fun n s' => ∃ i σ' H', Inv Y pins σ' H' s' ∧ tn i s'.heap ∧ (∀ b ∈ fp, H' b = none) ∧ W i n σ' H') ?_ m0 ⟨0, sub ix σ, _, I4, st4, fun b hb => (f3 b hb).1, w0⟩
    rintro n s5 ⟨i, σ5, H5, I5, st5, fr5, w5⟩
    have TI := T.item Y eP eW eK eC i pins s5 σ5 H5 (fun _ _ => False) I5 (stat fr5) st5
    have TD := T.done Y eP eW eK eC i pins s5 σ5 H5 (fun _ _ => False) I5 (stat fr5) st5
    rw [eA] at TI TD
    rcases turn i n σ5 H5 w5 with ⟨stop, qn⟩ | ⟨go, N, N0, hN, hN0, step⟩
    · refine thn (TD stop) fun r s6 ⟨hr, I6⟩ => ?_
      subst hr
      exact fin' I6 qn
    · refine thn (TI go) fun r s6 ⟨u, hr, h6⟩ => ?_
      subst hr
      refine thn h6 fun _ s7 ⟨x, H7, I7, r7, y7, st7, fr7⟩ => ?_
      have I7' := I7.pinned (stat fr7) (T.obj _ _ st7)
      refine thn (hgY _ s7 σ5 H7 x u _ I7' r7 (step x H7 y7)) fun _ s8 ⟨σ8, H8, I8, q8⟩ => ?_
      refine thn (htY _ s8 σ8 H8 _ I8 q8) fun c s9 ⟨H9, I9, q9⟩ => ?_
      have back : ∀ {σa : St} {Ha : Hp} {sa : Shared}, Inv Y (pins ++ pinsAt fp s7.heap) σa Ha sa → (∃ m', m' < n ∧ W (i + 1) m' σa Ha) → ∃ m, m < n ∧ ∃ i σ' H', Inv Y pins σ' H' sa ∧ tn i sa.heap ∧ (∀ b ∈ fp, H' b = none) ∧ W i m σ' H' := fun {σa Ha sa} Ia ⟨m', hm, wa⟩ => by
        refine ⟨m', hm, i + 1, σa, Ha, Ia.unpinned, T.keep _ _ _ st7 fun b hb o e => (Ia.pin (b, o) (List.mem_append_right _ (List.mem_append_right _ (mem_pinsAt hb e)))).1, fun b hb => ?_, wa⟩
        obtain ⟨o, e, d⟩ := T.obj _ _ st7 b hb
        exact (Ia.pin (b, o) (List.mem_append_right _ (List.mem_append_right _ (mem_pinsAt hb e)))).2.1
      cases c with
      | false => exact back I9 (hN0 _ _ (by simpa using q9))
      | true =>
        rw [if_pos rfl] at q9 ⊢
        refine thn (heY _ s9 σ8 H9 _ I9 q9) fun z s10 ⟨v10, H10, I10, r10, q10⟩ => ?_
        obtain ⟨xs, hx, hz, q10⟩ := hN _ _ _ q10
        have ap := mt_append (X := Y) (pins ++ pinsAt fp s7.heap) s10 σ8 H10 (.ref s2.heap.objs.size) [v10] (.ref s2.heap.objs.size) [z] (fun _ Hb => ∃ m', m' < n ∧ W (i + 1) m' σ8 Hb) I10 rfl (.cons r10 .nil) ⟨_, xs, v10, rfl, rfl, hx, hz, q10⟩
        rw [eP, eW, eA, eE] at ap
        exact thn ap fun _ s11 ⟨_, H11, I11, _, q11⟩ => back I11 q11
  have eenv : Y.env = compEnvC scope (closOf scope X.env) s3.heap.objs.size X.env := by subst hX; rfl
  rw [eenv] at loop
  exact codeAny_compStart_list loop (T.self X.A 0 _ _ _ st4 loop)
theorem pe_comp {elt tg iter : Expr} {ifs : List Expr} {pos : Pos} {wi : TI} {g : TG} {tt : TT} {te : TE} (ok : CompOk X.env.scope X.N Nc ix scope) (hc : X.calm = true) (hi : PI X tg iter wi)
    (hg : ∀ cl C s H fp, PG (cxComp X Nc scope cl C s H fp) tg g) (ht : ∀ cl C s H fp, PTs (cxComp X Nc scope cl C s H fp) ifs tt) (he : ∀ cl C s H fp, PE (cxComp X Nc scope cl C s H fp) elt te)
    (hs : ∀ x, foldedSetIterable iter X.env x = pure x := by intro _; rfl) : PE X (.ListComp elt [⟨tg, iter, ifs, 0⟩] scope pos) (tComp wi ix g tt te) := by
  intro pins s σ H Q I h
  rw [eval_ListComp]
  refine comp_run (use := none) I h (fun D C H' s' m I' f hn qq => ?_) ok hc hi hg ht he hs
  obtain ⟨f0, f1, f2, f3, f4, f5⟩ := f
  exact ⟨m, hn, fun h' sb => ⟨.ref D, H', I'.turned (t' := s'.toks) (fun b o hb e => (sb.2 b hb).trans e) f0 f1 f3 f4 f5, rfl, qq⟩⟩
/-- name = [..]: the name is stored ahead of the block's end -/
theorem ps_setComp {i : Nat} {x : Str} {elt tg iter : Expr} {ifs : List Expr} {pos spos pos' : Pos} {wi : TI} {g : TG} {tt : TT} {te : TE} (hN : X.N.Nodup) (hi : X.N[i]? = some x) (hx : X.env.kindOf x = some .local)
    (ok : CompOk X.env.scope X.N Nc ix scope) (hc : X.calm = true) (hit : PI X tg iter wi)
    (hg : ∀ cl C s H fp, PG (cxComp X Nc scope cl C s H fp) tg g) (ht : ∀ cl C s H fp, PTs (cxComp X Nc scope cl C s H fp) ifs tt) (he : ∀ cl C s H fp, PE (cxComp X Nc scope cl C s H fp) elt te)
    (hsw : swapsWith (.ListComp elt [⟨tg, iter, ifs, 0⟩] scope pos) (some (.Name x pos')) spos.line X.env = pure true := by rfl)
    (hs : ∀ x, foldedSetIterable iter X.env x = pure x := by intro _; rfl) : PS X (.Assign [.Name x pos'] (.ListComp elt [⟨tg, iter, ifs, 0⟩] scope pos) spos) (tAsg (tComp wi ix g tt te) (gName i)) := by
  intro pins s σ H D I h
  rw [exec_Assign_Name_used _ _ _ _ hsw]
  refine wpAny_bind (wpAny_standAt (wpAny_bind ?_))
  show wpAny _ X.A (do let _ ← comprehension (.ListComp elt [⟨tg, iter, ifs, 0⟩] scope pos) scope X.env _ (newList []) false (eval iter X.env) (some (assign (.Name x pos') X.env))) _ _ s
  refine wpAny_bind (thn (comp_run (use := some (assign (.Name x pos') X.env)) (QV := fun _ s' => SP X pins D .next s') I h (fun L C H' s' m I' f hn qq => ?_) ok hc hit hg ht he hs) fun _ s' q => wpAny_pure (wpAny_pure q))
  obtain ⟨f0, f1, f2, f3, f4, f5⟩ := f
  refine wpAny_assign_Name (store_ok2 (v := .ref L) I' hN hi (.inl hx) rfl (fun s2 I2 ⟨a, sb, ha⟩ => ?_) (.inr hx))
  have hCa : C ≠ a := by
    rintro rfl
    rcases ha with z | z
    · exact f1 z
    · exact f4 _ _ z rfl
  exact ⟨m, hn.sameBut sb hCa, fun h' sb' => ⟨_, H', I2.turned (t' := s2.toks) (fun b o hb e => (sb'.2 b hb).trans e) f0 f1 f3 f4 f5, qq⟩⟩
end
end L3

set_option Elab.async false
set_option linter.all false
set_option maxRecDepth 100000
set_option maxHeartbeats 4000000
namespace L3
open PySem PySem.Spec PyProof.Rows L2

section
variable {prog : Program} {w : World} {A : Around} {E : Value → Shared → Prop} {R : Result → Shared → Prop}

set_option maxHeartbeats 8000000 in
end

/-- a set of so many things stands at a -/
def SetN (a : Addr) (n : Nat) : HO := .ext fun h => ∃ o es ep t, h.get? a = some o ∧ o.ExactSet ∧ o.data = .set es ep t ∧ t.fits es.size = true ∧ es.size = n

section
variable {X : Cx}
/-- len of such a set -/
theorem call_lenS : CallR X (.builtin "len") (fun xs H Q => ∃ a n, xs = [.ref a] ∧ H a = some (SetN a n) ∧ n < 4000 ∧ Q (.int n) H) := by
  intro pins s σ H xs us Q I r h
  obtain ⟨a, n, rfl, ha, hn, q⟩ := h
  obtain ⟨u, rfl, ru⟩ := vals1 r
  obtain rfl : u = Value.ref a := ru
  obtain ⟨⟨o, es, ep, t, e1, e2, e3, e4, e5⟩, _⟩ := I.hok a _ ha
  refine call_len_set e1 e2 e3 e4 (by omega) ?_
  exact ⟨.int n, H, I.tok _, ⟨_, by rw [e5]⟩, q⟩
end
end L3

set_option Elab.async false
set_option linter.all false
set_option maxRecDepth 100000
set_option maxHeartbeats 4000000
namespace L3
open PySem PySem.Spec PyProof.Rows L2

/-! ### sorting -/
def sortI (ns : List Int) : List Int := ns.mergeSort fun a b => decide (a ≤ b)
def leS (a b : Str) : Bool := !decide (b.cps.toList < a.cps.toList)
def sortS (ss : List Str) : List Str := ss.mergeSort leS
theorem vals_bools : ∀ {bs : List Bool} {us : List Value}, Vals (bs.map V.bl) us → ∀ (i : Nat) v, us[i]? = some v → ∃ b, bs[i]? = some b ∧ v = .bool b
  | [], _, .nil, i, v, h => by simp at h
  | b :: r, _, .cons a c, 0, v, h => by simp at h; subst h; exact ⟨b, rfl, a⟩
  | b :: r, _, .cons a c, i + 1, v, h => by
    obtain ⟨b', e, q⟩ := vals_bools c i v (by simpa using h)
    exact ⟨b', by simpa using e, q⟩

section
variable {X : Cx}
/-! ### all, any of a list of truths -/
theorem range_all {bs : List Bool} : ((List.range bs.length).all fun i => (bs[i]?).getD true) = bs.all id := by
  induction bs with
  | nil => rfl
  | cons b r ih =>
    rw [List.length_cons, List.range_succ_eq_map, List.all_cons, List.all_map, List.all_cons, ← ih]
    rfl
theorem range_any {bs : List Bool} : ((List.range bs.length).any fun i => (bs[i]?).getD false) = bs.any id := by
  induction bs with
  | nil => rfl
  | cons b r ih =>
    rw [List.length_cons, List.range_succ_eq_map, List.any_cons, List.any_map, List.any_cons, ← ih]
    rfl
theorem call_all (hc : X.calm = true) : CallR X (.builtin "all") (fun xs H Q => ∃ (p : Addr) (bs : List Bool), xs = [.ref p] ∧ SqL X.K H p (bs.map V.bl) ∧ Q (.bl (bs.all id)) H) := by
  intro pins s σ H xs us Q I r h
  obtain ⟨p, bs, rfl, hq, q⟩ := h
  obtain ⟨u, rfl, ru⟩ := vals1 r
  obtain rfl : u = Value.ref p := ru
  obtain ⟨its, rv, pl, hz⟩ := I.list hq
  have el := rv.length
  rw [List.length_map] at el
  have hlt : p < s.heap.objs.size := by obtain ⟨_, e, _⟩ := pl.isList; exact Heap.lt_size e
  refine call_all_walk (wpAny_pyIter_list pl.isList ?_)
  refine ⟨s.heap.objs.size, [s.heap.objs.size, p], [s.heap.objs.size], its.toArray.size, _, _, fun i => (bs[i]?).getD true, rfl, Walks.list (A := X.A.in1) (by simpa using I.ok.hd hc) _ p (Nat.ne_of_lt hlt) its.toArray,
    ⟨⟨_, Heap.get?_push_size _ rfl, rfl, rfl⟩, pl.isList.push _⟩, fun i v s' Q' E' hP hQ => ?_, fun h' tk hk => ?_⟩
  · obtain ⟨b, e, rfl⟩ := vals_bools rv i v (by simpa using hP)
    simp only [e, Option.getD_some] at hQ
    exact wpAny_truthy_bool hQ
  · rw [List.size_toArray, ← el, range_all]
    exact ⟨.bl _, H, I.kept fun b o e => hk b o (by simpa using Nat.ne_of_lt (Heap.lt_size e)) (Heap.get?_push_of_some _ e), rfl, q⟩
theorem call_any (hc : X.calm = true) : CallR X (.builtin "any") (fun xs H Q => ∃ (p : Addr) (bs : List Bool), xs = [.ref p] ∧ SqL X.K H p (bs.map V.bl) ∧ Q (.bl (bs.any id)) H) := by
  intro pins s σ H xs us Q I r h
  obtain ⟨p, bs, rfl, hq, q⟩ := h
  obtain ⟨u, rfl, ru⟩ := vals1 r
  obtain rfl : u = Value.ref p := ru
  obtain ⟨its, rv, pl, hz⟩ := I.list hq
  have el := rv.length
  rw [List.length_map] at el
  have hlt : p < s.heap.objs.size := by obtain ⟨_, e, _⟩ := pl.isList; exact Heap.lt_size e
  refine call_any_walk (wpAny_pyIter_list pl.isList ?_)
  refine ⟨s.heap.objs.size, [s.heap.objs.size, p], [s.heap.objs.size], its.toArray.size, _, _, fun i => (bs[i]?).getD false, rfl, Walks.list (A := X.A.in1) (by simpa using I.ok.hd hc) _ p (Nat.ne_of_lt hlt) its.toArray,
    ⟨⟨_, Heap.get?_push_size _ rfl, rfl, rfl⟩, pl.isList.push _⟩, fun i v s' Q' E' hP hQ => ?_, fun h' tk hk => ?_⟩
  · obtain ⟨b, e, rfl⟩ := vals_bools rv i v (by simpa using hP)
    simp only [e, Option.getD_some] at hQ
    exact wpAny_truthy_bool hQ
  · rw [List.size_toArray, ← el, range_any]
    exact ⟨.bl _, H, I.kept fun b o e => hk b o (by simpa using Nat.ne_of_lt (Heap.lt_size e)) (Heap.get?_push_of_some _ e), rfl, q⟩

/-! ### range(n) as a value, list(range(n)) -/
def upTo (n : Int) : List Int := (List.range n.toNat).map fun (k : Nat) => (k : Int)
theorem vals_range {its : List Value} {n : Nat} {lo : Int} (h : ItemsOf (fun i v => ∃ t, v = .int (lo + i * 1) t) its.toArray n) : Vals ((List.range n).map fun (k : Nat) => V.int (lo + (k : Int))) its := by
  obtain ⟨h1, h2⟩ := h
  rw [List.size_toArray] at h1
  induction its generalizing n lo with
  | nil => simp at h1; subst h1; exact .nil
  | cons u r ih =>
    cases n with
    | zero => simp at h1
    | succ n =>
      rw [List.range_succ_eq_map, List.map_cons, List.map_map]
      obtain ⟨t, e⟩ := h2 0 u (by simp)
      refine .cons ⟨t, by rw [e]; simp⟩ ?_
      have := ih (n := n) (lo := lo + 1) (by simpa using h1) (fun j v hj => by
        obtain ⟨t, e⟩ := h2 (j + 1) v (by simpa using hj)
        exact ⟨t, by rw [e]; congr 1; push_cast; omega⟩)
      refine (show Vals _ r from ?_)
      have e2 : (List.range n).map (fun (k : Nat) => V.int (lo + 1 + (k : Int))) = (List.range n).map ((fun (k : Nat) => V.int (lo + (k : Int))) ∘ Nat.succ) := by
        apply List.map_congr_left
        intro k _
        simp only [Function.comp]
        congr 1
        push_cast
        omega
      rw [← e2]; exact this
theorem call_list_rng (hc : X.calm = true) : CallR X (.type "list") (fun xs H Q => ∃ (p : Addr) (j : Int), xs = [.ref p] ∧ H p = some (.rng 0 j) ∧ 0 ≤ j ∧ j ≤ 1000000 ∧ ∀ l, H l = none → Q (.ref l) (upd H l (.lst ((upTo j).map V.int)))) := by
  intro pins s σ H xs us Q I r h
  obtain ⟨p, j, rfl, hp, h0, h1, q⟩ := h
  obtain ⟨u, rfl, ru⟩ := vals1 r
  obtain rfl : u = Value.ref p := ru
  obtain ⟨t, u, v, e⟩ := I.hok p _ hp
  refine call_list_range (a := 0) (b := j) (c := 1) (n := j.toNat) (I.ok.hd hc) e (small_one (by omega) (by omega) (by omega) (by omega)) (by rw [rangeSize_one]; split <;> omega) (by omega) fun h' tk acc c' hk he hi => ?_
  have hv : Vals ((upTo j).map V.int) acc.toList := by
    have := vals_range (its := acc.toList) (n := j.toNat) (lo := 0) (by simpa using hi)
    unfold upTo
    rw [List.map_map]
    have e2 : (List.range j.toNat).map (fun (k : Nat) => V.int (0 + (k : Int))) = (List.range j.toNat).map (V.int ∘ fun (k : Nat) => (k : Int)) := by
      apply List.map_congr_left
      intro k _
      simp
    rw [← e2]; exact this
  have hz : ((upTo j).map V.int).length ≤ sizeLine := by unfold upTo; rw [List.length_map, List.length_map, List.length_range, sizeLine_eq]; omega
  exact ⟨.ref s.heap.objs.size, _, I.laid (o := .lst ((upTo j).map V.int)) hk (Nat.le_refl _) ⟨hz, acc.toList, c', hv, by simpa using he⟩, rfl, q _ (I.hok.fresh (Nat.le_refl _))⟩

/-! ### xs[::-1] -/
end

/-! ### == of things within things -/
mutual
inductive Dp (K : PySem.W.Frag) (H : Hp) : V → PyData → Prop
  | non : Dp K H .non .none
  | bl (b) : Dp K H (.bl b) (.bool b)
  | int (i) : Dp K H (.int i) (.int i)
  | str (x) : Dp K H (.str x) (.str x)
  | lst {a xs ds} : SqL K H a xs → DpAll K H xs ds → Dp K H (.ref a) (.list ds)
  | tup {a xs ds} : SqT K H a xs → DpAll K H xs ds → Dp K H (.ref a) (.tuple ds)
inductive DpAll (K : PySem.W.Frag) (H : Hp) : List V → List PyData → Prop
  | nil : DpAll K H [] []
  | cons {v d vs ds} : Dp K H v d → DpAll K H vs ds → DpAll K H (v :: vs) (d :: ds)
end
section
variable {X : Cx} {pins : List (Addr × Obj)} {σ : St} {H : Hp} {s : Shared}
mutual
theorem Dp.reads (I : Inv X pins σ H s) : ∀ {v : V} {d : PyData} {u : Value}, Dp X.K H v d → RelV v u → ∃ as, Reads s.heap u d as
  | _, _, u, .non, r => by cases (show u = Value.none from r); exact ⟨_, .none⟩
  | _, _, u, .bl b, r => by cases (show u = Value.bool b from r); exact ⟨_, .bool b⟩
  | _, _, u, .int i, r => by obtain ⟨t, e⟩ := (show ∃ t, u = Value.int i t from r); cases e; exact ⟨_, .int i t⟩
  | _, _, u, .str x, r => by obtain ⟨t, e⟩ := (show ∃ t, u = Value.str x t from r); cases e; exact ⟨_, .str x t⟩
  | _, _, u, .lst (a := a) h hs, r => by
    cases (show u = Value.ref a from r)
    obtain ⟨its, rv, pl, _⟩ := I.list h
    obtain ⟨o, ho, hc, n, hd⟩ := pl.isList
    obtain ⟨as, q⟩ := DpAll.reads I hs rv
    exact ⟨_, .list ho hc hd (by simpa using q)⟩
  | _, _, u, .tup (a := a) h hs, r => by
    cases (show u = Value.ref a from r)
    obtain ⟨its, rv, ⟨o, ho, hc, n, hd⟩, _⟩ := I.tuple h
    obtain ⟨as, q⟩ := DpAll.reads I hs rv
    exact ⟨_, .tuple ho hc hd (by simpa using q)⟩
theorem DpAll.reads (I : Inv X pins σ H s) : ∀ {vs : List V} {ds : List PyData} {us : List Value}, DpAll X.K H vs ds → Vals vs us → ∃ as, ReadsAll s.heap us ds as
  | _, _, _, .nil, .nil => ⟨_, .nil⟩
  | _, _, _, .cons h hs, .cons r rs => by
    obtain ⟨as, a⟩ := h.reads I r
    obtain ⟨bs, b⟩ := hs.reads I rs
    exact ⟨_, .cons a b⟩
end
def rEqD (K : PySem.W.Frag) (neg : Bool) : R2 := fun x y H Q => ∃ d e, Dp K H x d ∧ Dp K H y e ∧ d.canLay0 = true ∧ e.canLay0 = true ∧ d.depth ≤ 60 ∧ Q (.bl (if neg then !PyData.eqv d e else PyData.eqv d e)) H
theorem op_eqD (hu : X.A.units + 64 < cLine) : OpR X (compareOp .Eq) (rEqD X.K false) := by
  intro pins s σ H x y u v Q I rx ry h
  obtain ⟨d, e, hx, hy, c1, c2, dp, q⟩ := h
  obtain ⟨as, a⟩ := hx.reads I rx
  obtain ⟨bs, b⟩ := hy.reads I ry
  exact SeqAt.compareEq_reads a b c1 c2 (by omega) ⟨.bl _, H, I, rfl, q⟩
theorem op_neD (hu : X.A.units + 64 < cLine) : OpR X (compareOp .NotEq) (rEqD X.K true) := by
  intro pins s σ H x y u v Q I rx ry h
  obtain ⟨d, e, hx, hy, c1, c2, dp, q⟩ := h
  obtain ⟨as, a⟩ := hx.reads I rx
  obtain ⟨bs, b⟩ := hy.reads I ry
  exact SeqAt.compareNe_reads a b c1 c2 (by omega) ⟨.bl _, H, I, rfl, q⟩

/-! ### isinstance(x, T), T built in -/
def rIsi (K : PySem.W.Frag) (T : String) : List V → Hp → VK → Prop := fun xs H Q => ∃ x t b, xs = [x, .ty T] ∧ TyOf K H x t ∧ PySem.W.kitOne K t (.type T) = some b ∧ Q (.bl b) H
theorem call_isi (T : String) : CallR X (.builtin "isinstance") (rIsi X.K T) := by
  intro pins s σ H xs us Q I r h
  obtain ⟨x, t, b, rfl, ht, hk, q⟩ := h
  obtain ⟨u, v, rfl, ru, rv⟩ := vals2 r
  obtain rfl : v = Value.type T := rv
  exact isinst_ok I ru ht hk fun tk => ⟨.bl b, H, I.tok _, rfl, q⟩
end
example (K : PySem.W.Frag) : PySem.W.kitOne K (.type "int") (.type "list") = some false := by rfl
example (K : PySem.W.Frag) : PySem.W.kitOne K (.type "bool") (.type "int") = some true := by rfl
end L3

set_option Elab.async false
set_option linter.all false
set_option maxRecDepth 100000
set_option maxHeartbeats 4000000
namespace L3
open PySem PySem.Spec PyProof.Rows L2

section
variable {X : Cx} {pins : List (Addr × Obj)} {σ : St} {H : Hp} {s : Shared} {h' : Heap}
/-- records of ours turned, and one new thing is tracked -/
theorem Inv.turnedLaid {ch : List Addr} {p : Addr} {o : HO} {t' : Nat} (I : L2.Inv X pins σ H s) (k : ∀ b u, b ∉ ch → s.heap.get? b = some u → h'.get? b = some u) (hob : ∀ b ∈ ch, ∃ u, h'.get? b = some u) (hf : ∀ b ∈ ch, FpOk X pins H b) (hp : s.heap.objs.size ≤ p)
    (new : ObjOk X.prog X.w (upd H p o) h' p o) : L2.Inv X pins σ (upd H p o) { s with heap := h', toks := t' } := by
  have hn : H p = none := I.hok.fresh hp
  have old : ∀ {b : Addr} {u : Obj}, s.heap.get? b = some u → b ≠ p := fun e => Nat.ne_of_lt (Nat.lt_of_lt_of_le (Heap.lt_size e) hp)
  refine I.step (g' := s.gens) (d' := s.drawn) (ch := ch) (fun b hb => ?_) (fun b u _ _ hc e _ => k b u hc e) (fun b u _ _ hc e _ => ⟨u.slots, k b u hc e⟩) (fun b u _ e n => by rw [upd_ne (old e)]; exact n)
    (fun b u hc e => ⟨u, k b u hc e⟩) (fun b xs e => by rw [upd_ne (ne_of_none e hn)]; exact e) (fun b u xs e => by rw [upd_ne (ne_of_none e hn)]; exact e) (fun b ps e => ⟨#[], by rw [upd_ne (ne_of_none e hn), e]; simp⟩)
    (fun m hm => ?_) (fun b u e => ?_) I.bare
  · obtain ⟨f0, f1, f2, f3, f4, f5⟩ := hf b hb
    exact ⟨f3, f1, f4, f5⟩
  · obtain ⟨ob, es, ep, ho, r⟩ := hm
    exact ⟨ob, es, ep, k _ ob (fun z => (hf _ z).2.1 rfl) ho, r⟩
  · by_cases hb : b = p
    · subst hb; rw [upd_same] at e; cases e; exact new
    · rw [upd_ne hb] at e
      have nch : ∀ c v, H c = some v → c ∉ ch := fun c v q z => by rw [(hf c z).1] at q; cases q
      refine (I.hok b u e).stay (fun c v hc q => k c v ?_ q) (fun c q => by rw [upd_ne (ne_of_none q hn)]; exact q) fun c xs q => by rw [upd_ne (ne_of_none q hn)]; exact q
      rcases hc with rfl | hc
      · exact nch _ _ e
      · exact nch _ _ hc
end

section
variable {X : Cx}
end
end L3

set_option Elab.async false
set_option linter.all false
set_option maxRecDepth 100000
set_option maxHeartbeats 4000000
namespace L3
open PySem PySem.Spec PyProof.Rows L2

/-! ### heaps: what is new -/
def New (H H' : Hp) : Hp := fun b => if (H b).isSome = true then none else H' b
def hide (D : Addr) (H : Hp) : Hp := fun b => if b = D then none else H b
theorem New.of {H H' : Hp} {b : Addr} {o : HO} (h : New H H' b = some o) : H b = none ∧ H' b = some o := by
  unfold New at h
  split at h
  · cases h
  · rename_i q
    refine ⟨?_, h⟩
    cases e : H b with
    | none => rfl
    | some u => rw [e] at q; exact absurd rfl q
theorem New.mk {H H' : Hp} {b : Addr} {o : HO} (h : H b = none) (h' : H' b = some o) : New H H' b = some o := by
  unfold New
  rw [h]
  exact h'
theorem same_upd {H : Hp} {p : Addr} {o : HO} (h : H p = none) : Same H (upd H p o) := fun b u e => by rw [upd_ne (ne_of_none e h)]; exact e
theorem hide_sub {D : Addr} {H : Hp} : Same (hide D H) H := fun b o h => by
  unfold hide at h
  split at h
  · cases h
  · exact h
theorem hide_some {D b : Addr} {H : Hp} {o : HO} (h : hide D H b = some o) : b ≠ D ∧ H b = some o := by
  unfold hide at h
  split at h
  · cases h
  · rename_i q; exact ⟨q, h⟩
theorem hide_mk {D b : Addr} {H : Hp} {o : HO} (n : b ≠ D) (h : H b = some o) : hide D H b = some o := by
  unfold hide
  rw [if_neg n]; exact h
/-- all but one address -/
def SameX (D : Addr) (H H' : Hp) : Prop := ∀ b o, b ≠ D → H b = some o → H' b = some o
theorem Same.x {D : Addr} {H H' : Hp} (h : Same H H') : SameX D H H' := fun b o _ e => h b o e
theorem SameX.refl {D : Addr} (H : Hp) : SameX D H H := fun _ _ _ e => e
theorem SameX.trans {D : Addr} {H H1 H2 : Hp} (a : SameX D H H1) (b : SameX D H1 H2) : SameX D H H2 := fun c o n e => b c o n (a c o n e)
theorem SameX.upd {D : Addr} {H H' : Hp} {o : HO} (a : SameX D H H') : SameX D H (upd H' D o) := fun c u n e => by rw [upd_ne n]; exact a c u n e
theorem SameX.same {D : Addr} {H H' : Hp} (a : SameX D H H') (h : H D = none) : Same H H' := fun c u e => a c u (ne_of_none e h) e
/-! ### a comprehension's reading -/
theorem comp_gen {J : It} {n : Nat} {D : Addr} {g : TG} {tt : TT} {te : TE} {σ0 : St} {H0 : Hp} {Q : VK} (Pv : Nat → St → Hp → Prop) (h0 : Pv 0 σ0 (upd H0 D (.lst [])))
    (hgo : ∀ i σ H, i < n → Pv i σ H → J.go i H) (hst : ∀ σ H, Pv n σ H → J.stop n H)
    (hs : ∀ i x σ H H2, i < n → Pv i σ H → J.yld i H x H2 → ∀ (N : V → St → Hp → Prop) (N0 : St → Hp → Prop), (∀ v σ2 H5 ys, H5 D = some (.lst ys) → ys.length < sizeLine → Pv (i + 1) σ2 (upd H5 D (.lst (ys ++ [v]))) → N v σ2 H5) → (∀ σ2 H4, Pv (i + 1) σ2 H4 → N0 σ2 H4) →
      g x σ H2 fun σ2 H3 => tt σ2 H3 fun c H4 => if c = true then te σ2 H4 fun v H5 => N v σ2 H5 else N0 σ2 H4)
    (hd : ∀ σ H, Pv n σ H → Q (.ref D) H) :
    CompW J D g tt te σ0 H0 Q := by
  refine ⟨fun i m σ H => m = n - i ∧ i ≤ n ∧ Pv i σ H, ⟨n, by simp, Nat.zero_le _, h0⟩, ?_⟩
  rintro i m σ H ⟨rfl, hi, p⟩
  by_cases hlt : i < n
  · refine .inr ⟨hgo i σ H hlt p, fun v σ2 H5 => ∃ ys, H5 D = some (.lst ys) ∧ ys.length < sizeLine ∧ Pv (i + 1) σ2 (upd H5 D (.lst (ys ++ [v]))), fun σ2 H4 => Pv (i + 1) σ2 H4, ?_, ?_, ?_⟩
    · rintro v σ2 H5 ⟨ys, a, b, c⟩
      exact ⟨ys, a, b, n - (i + 1), by omega, rfl, hlt, c⟩
    · intro σ2 H4 q
      exact ⟨n - (i + 1), by omega, rfl, hlt, q⟩
    · intro x H2 y
      exact hs i x σ H H2 hlt p y _ _ (fun v σ2 H5 ys a b c => ⟨ys, a, b, c⟩) fun _ _ q => q
  · have e : i = n := by omega
    subst e
    exact .inl ⟨hst σ H p, hd σ H p⟩

/-- [f(x) for x in xs]: what each element is, by the heap that is new at its turn -/
theorem comp_map {K : PySem.W.Frag} {a D : Addr} {xs : List V} {te : TE} {τ : St} {H0 : Hp} {Q : VK} (hD : H0 D = none) (hq : SqL K H0 a xs) (hz : xs.length ≤ sizeLine) (R : Nat → V → Hp → Prop) (mono : ∀ i v H H', Same H H' → R i v H → R i v H')
    (step : ∀ i x H (N : V → Hp → Prop), xs[i]? = some x → Same H0 H → (∀ v H4, Same H H4 → R i v (New H H4) → N v H4) → te (some x :: τ) H N)
    (fin : ∀ H' ys, H' D = some (.lst ys) → Same H0 H' → ys.length = xs.length → (∀ i v, ys[i]? = some v → R i v (New H0 H')) → Q (.ref D) H') :
    CompW (Itl K a) D (gName 0) tTrue te (none :: τ) H0 Q := by
  refine comp_gen (n := xs.length) (fun i σ H => ∃ z ys, σ = z :: τ ∧ H D = some (.lst ys) ∧ ys.length = i ∧ Same H0 H ∧ ∀ j v, ys[j]? = some v → R j v (hide D (New H0 H))) ?_ ?_ ?_ ?_ ?_
  · exact ⟨none, [], rfl, upd_same, rfl, same_upd hD, fun j v e => by simp at e⟩
  · rintro i σ H hi ⟨z, ys, rfl, _, _, s, _⟩
    exact ⟨xs, xs[i], s.seq hq, by simp [hi]⟩
  · rintro σ H ⟨z, ys, rfl, _, _, s, _⟩
    exact ⟨xs, s.seq hq, Nat.le_refl _⟩
  · rintro i x σ H H2 hi ⟨z, ys, rfl, hy, hl, s, r⟩ ⟨rfl, hx⟩ N N0 hN hN0
    show te (some x :: τ) H2 _
    refine step i x H2 _ (hx xs (s.seq hq)) s fun v H4 s4 r4 => ?_
    refine hN v _ H4 ys (s4 _ _ hy) (by omega) ⟨some x, ys ++ [v], rfl, upd_same, by rw [List.length_append, List.length_singleton, hl], ?_, ?_⟩
    · exact (SameX.upd (Same.x (s.trans s4))).same hD
    · intro j w e
      by_cases hj : j < ys.length
      · rw [List.getElem?_append_left hj] at e
        refine mono j w _ _ ?_ (r j w e)
        intro b o hb
        obtain ⟨nb, hb⟩ := hide_some hb
        obtain ⟨h1, h2⟩ := New.of hb
        exact hide_mk nb (New.mk h1 (by rw [upd_ne nb]; exact s4 _ _ h2))
      · have ej : j = ys.length := by
          have := (List.getElem?_eq_some_iff.mp e).1
          rw [List.length_append, List.length_singleton] at this
          omega
        subst ej
        simp at e
        subst e
        rw [hl]
        refine mono i v _ _ ?_ r4
        intro b o hb
        obtain ⟨h1, h2⟩ := New.of hb
        have nb : b ≠ D := fun z => by subst z; rw [hy] at h1; cases h1
        exact hide_mk nb (New.mk (s.free h1) (by rw [upd_ne nb]; exact h2))
  · rintro σ H ⟨z, ys, rfl, hy, hl, s, r⟩
    exact fin H ys hy s hl fun i v e => mono i v _ _ hide_sub (r i v e)

/-! ### rules for a kind that is not known ahead -/
section
variable {X : Cx}
def rLen (K : PySem.W.Frag) : List V → Hp → VK → Prop := fun xs H Q => (∃ p ys, xs = [.ref p] ∧ (SqL K H p ys ∨ SqT K H p ys) ∧ Q (.int ys.length) H) ∨ ((∃ z, xs = [.str z] ∧ z.length ≤ sizeLine ∧ Q (.int z.length) H) ∨ ∃ a n, xs = [.ref a] ∧ H a = some (SetN a n) ∧ n < 4000 ∧ Q (.int n) H)
theorem call_lenA : CallR X (.builtin "len") (rLen X.K) := call_len_seq.or (call_len_str.or call_lenS)
def rListA (K : PySem.W.Frag) : List V → Hp → VK → Prop := fun xs H Q => (∃ p ys, xs = [.ref p] ∧ (SqL K H p ys ∨ SqT K H p ys) ∧ ∀ l, H l = none → Q (.ref l) (upd H l (.lst ys))) ∨ (∃ (p : Addr) (j : Int), xs = [.ref p] ∧ H p = some (.rng 0 j) ∧ 0 ≤ j ∧ j ≤ 1000000 ∧ ∀ l, H l = none → Q (.ref l) (upd H l (.lst ((upTo j).map V.int))))
theorem call_listA (hc : X.calm = true) : CallR X (.type "list") (rListA X.K) := call_list_of.or (call_list_rng hc)
end
def compChk (sc : Scope) (N Nc : List Str) (ix : List (Option Nat)) (scope : Scope) : Bool :=
  decide (scope.kind = .function) && scope.names.all (fun y => decide (y.2 ≠ .cell)) && scope.names.all (fun y => decide (y.2 = .local → scope.names.lookup y.1 = some .local)) &&
  scope.names.all (fun y => decide (y.2 = .free → sc.names.lookup y.1 = some .cell ∨ sc.names.lookup y.1 = some .free)) && decide (ix.length = Nc.length) &&
  (ix.zip Nc).all fun p => match p.1 with | none => true | some j => N[j]? == some p.2 && scope.names.lookup p.2 == some .free
theorem CompOk.of {sc : Scope} {N Nc : List Str} {ix : List (Option Nat)} {scope : Scope} (h : compChk sc N Nc ix scope = true) : CompOk sc N Nc ix scope := by
  unfold compChk at h
  simp only [Bool.and_eq_true] at h
  obtain ⟨⟨⟨⟨⟨h1, h2⟩, h3⟩, h4⟩, h5⟩, h6⟩ := h
  exact ⟨of_decide_eq_true h1, fun y hy => of_decide_eq_true (List.all_eq_true.mp h2 y hy), fun y hy => of_decide_eq_true (List.all_eq_true.mp h3 y hy), fun y hy => of_decide_eq_true (List.all_eq_true.mp h4 y hy), of_decide_eq_true h5, h6⟩

/-! ### over the signs of a text -/
section
variable {X : Cx} {tg : Expr}
end

/-! ### the same rules, the module's part named apart -/
section
variable {X : Cx} {K : PySem.W.Frag}
theorem call_lenK (hK : X.K = K) : CallR X (.builtin "len") (rLen K) := by subst hK; exact call_lenA
def rAll (K : PySem.W.Frag) : List V → Hp → VK → Prop := fun xs H Q => ∃ (p : Addr) (bs : List Bool), xs = [.ref p] ∧ SqL K H p (bs.map V.bl) ∧ Q (.bl (bs.all id)) H
def rAny (K : PySem.W.Frag) : List V → Hp → VK → Prop := fun xs H Q => ∃ (p : Addr) (bs : List Bool), xs = [.ref p] ∧ SqL K H p (bs.map V.bl) ∧ Q (.bl (bs.any id)) H
theorem call_allK (hK : X.K = K) (hc : X.calm = true) : CallR X (.builtin "all") (rAll K) := by subst hK; exact call_all hc
theorem call_anyK (hK : X.K = K) (hc : X.calm = true) : CallR X (.builtin "any") (rAny K) := by subst hK; exact call_any hc
theorem call_listK (hK : X.K = K) (hc : X.calm = true) : CallR X (.type "list") (rListA K) := by subst hK; exact call_listA hc
def rTupleA (K : PySem.W.Frag) : List V → Hp → VK → Prop := fun xs H Q => ∃ p ys, xs = [.ref p] ∧ ((SqL K H p ys ∧ ∀ l, H l = none → Q (.ref l) (upd H l (.tup ys))) ∨ (SqT K H p ys ∧ Q (.ref p) H))
theorem call_tupleK (hK : X.K = K) : CallR X (.type "tuple") (rTupleA K) := by subst hK; exact call_tuple_of
theorem call_isiK (hK : X.K = K) (T : String) : CallR X (.builtin "isinstance") (rIsi K T) := by subst hK; exact call_isi T
theorem ix_listK (hK : X.K = K) : IxR X (rIxL K) := by subst hK; exact ix_list
theorem ix_tupK (hK : X.K = K) : IxR X (rIxT K) := by subst hK; exact ix_tup
theorem sl_listK (hK : X.K = K) : SlR X (rSlL K) := by subst hK; exact sl_list
theorem op_eqDK (hK : X.K = K) (hu : X.A.units + 64 < cLine) : OpR X (compareOp .Eq) (rEqD K false) := by subst hK; exact op_eqD hu
theorem op_neDK (hK : X.K = K) (hu : X.A.units + 64 < cLine) : OpR X (compareOp .NotEq) (rEqD K true) := by subst hK; exact op_neD hu
theorem pi_listK {tg l : Expr} {tl : TE} (hK : X.K = K) (hl : PE X l tl) : PI X tg l (iList K tl) := by subst hK; exact pi_list hl
theorem pg_tupK {es : List Expr} {k : Nat} {t : TGs} {n : Nat} {pos : Pos} (hK : X.K = K) (hc : X.calm = true) (h : PGs X es t)
    (hn : (assignEach es X.env).length = n := by rfl) (hst : (assignEach es X.env).findIdx? (·.1) = none := by rfl) : PG X (.Tuple es k pos) (gTup K n t) := by subst hK; exact pg_tup hc h hn hst
end
end L3

set_option Elab.async false
set_option linter.all false
set_option maxRecDepth 100000
set_option maxHeartbeats 4000000
namespace L3
open PySem PySem.Spec L2

def isLow (c : Nat) : Bool := decide (97 ≤ c ∧ c ≤ 122)
def isNameS (z : Str) : Bool := decide (1 ≤ z.length) && decide (z.length ≤ 8) && z.cps.toList.all isLow
/-! ### keys -/
end L3

set_option Elab.async false
set_option linter.all false
set_option maxRecDepth 100000
set_option maxHeartbeats 4000000
namespace L3
open PySem PySem.Spec L2

/-! ### lists and tuples of texts, of ints, of such -/
def LS (H : Hp) (v : V) (ss : List Str) : Prop := ∃ a, v = .ref a ∧ H a = some (.lst (ss.map V.str))
def LI (H : Hp) (v : V) (ns : List Int) : Prop := ∃ a, v = .ref a ∧ H a = some (.lst (ns.map V.int))
def TS (H : Hp) (v : V) (ss : List Str) : Prop := ∃ a, v = .ref a ∧ H a = some (.tup (ss.map V.str))
def TIn (H : Hp) (v : V) (ns : List Int) : Prop := ∃ a, v = .ref a ∧ H a = some (.tup (ns.map V.int))
def LL {α : Type} (r : Hp → V → α → Prop) (H : Hp) (v : V) (xs : List α) : Prop := ∃ a vs, v = .ref a ∧ H a = some (.lst vs) ∧ vs.length = xs.length ∧ ∀ (i : Nat) v x, vs[i]? = some v → xs[i]? = some x → r H v x
def LT {α : Type} (r : Hp → V → α → Prop) (H : Hp) (v : V) (xs : List α) : Prop := ∃ a vs, v = .ref a ∧ H a = some (.tup vs) ∧ vs.length = xs.length ∧ ∀ (i : Nat) v x, vs[i]? = some v → xs[i]? = some x → r H v x
/-- what a world is made of -/
structure WD where
  signs : List (List Str)
  ways : List (List Int)
  starts : List Int
  fair : List Str
structure PartsV (H : Hp) (s w st f : V) (d : WD) : Prop where
  s : LL LS H s d.signs
  w : LL LI H w d.ways
  st : LI H st d.starts
  f : LS H f d.fair
structure Good (d : WD) : Prop where
  n1 : 1 ≤ d.signs.length
  n20 : d.signs.length ≤ 20
  wl : d.ways.length = d.signs.length
  sn : ∀ ss ∈ d.signs, ss.Nodup ∧ (∀ x ∈ ss, isNameS x = true) ∧ ss.length ≤ 5
  wn : ∀ ns ∈ d.ways, ns.Nodup ∧ ns ≠ [] ∧ (∀ x ∈ ns, 0 ≤ x ∧ x < d.signs.length) ∧ ns.length ≤ 20
  stn : d.starts.Nodup ∧ d.starts ≠ [] ∧ (∀ x ∈ d.starts, 0 ≤ x ∧ x < d.signs.length) ∧ d.starts.length ≤ 20
  fn : d.fair.Nodup ∧ (∀ x ∈ d.fair, isNameS x = true) ∧ d.fair.length ≤ 3
/-! ### a world as an object -/
def wfs (t1 t2 t3 t4 : V) : List (Str × V) := [("room_signs", t1), ("room_ways", t2), ("start_rooms", t3), ("fair_names", t4)]
theorem n14 : ¬ (("room_signs" : Str) = "fair_names") := by decide +kernel
structure WorldAt (C : Addr) (H : Hp) (p : Addr) (d : WD) : Prop where
  ex : ∃ dx t1 t2 t3 t4, H p = some (.ins C dx (wfs t1 t2 t3 t4)) ∧ LT TS H t1 (d.signs.map sortS) ∧ LT TIn H t2 (d.ways.map sortI) ∧ TIn H t3 (sortI d.starts) ∧ TS H t4 d.fair
end L3

set_option Elab.async false
set_option linter.all false
set_option maxRecDepth 100000
set_option maxHeartbeats 4000000
namespace L3
open PySem PySem.Spec L2

/-! ### things within things as data, for == -/
def dI (ns : List Int) : PyData := .list (ns.map PyData.int)
def dS (ss : List Str) : PyData := .list (ss.map PyData.str)
def Fine (n : Nat) (d : PyData) : Prop := d.canLay0 = true ∧ d.depth ≤ n
theorem fineAll {α : Type} {f : α → PyData} {n : Nat} {xs : List α} (h : ∀ x ∈ xs, Fine n (f x)) : PyData.canLayAll0 (xs.map f) = true ∧ PyData.depthAll (xs.map f) ≤ n := by
  induction xs with
  | nil => exact ⟨by simp [PyData.canLayAll0], by simp [PyData.depthAll]⟩
  | cons x r ih =>
    obtain ⟨a, b⟩ := ih fun y hy => h y (List.mem_cons_of_mem _ hy)
    obtain ⟨c, d⟩ := h x List.mem_cons_self
    rw [List.map_cons]
    exact ⟨by rw [PyData.canLayAll0, c, a]; rfl, by rw [PyData.depthAll]; exact Nat.max_le.mpr ⟨d, b⟩⟩
theorem fineL {α : Type} {f : α → PyData} {n : Nat} {xs : List α} (h : ∀ x ∈ xs, Fine n (f x)) : Fine (n + 1) (.list (xs.map f)) := by
  obtain ⟨a, b⟩ := fineAll h
  exact ⟨by rw [PyData.canLay0]; exact a, by rw [PyData.depth]; omega⟩
theorem fineI (ns : List Int) : Fine 1 (dI ns) := fineL fun x _ => ⟨by simp [PyData.canLay0], by simp [PyData.depth]⟩
section
variable {K : PySem.W.Frag} {H : Hp}
theorem dpAll_map {α : Type} {g : α → V} {f : α → PyData} (h : ∀ x, Dp K H (g x) (f x)) : ∀ xs : List α, DpAll K H (xs.map g) (xs.map f)
  | [] => .nil
  | x :: r => .cons (h x) (dpAll_map h r)
theorem LI.dp {v : V} {ns : List Int} (h : LI H v ns) : Dp K H v (dI ns) := by
  obtain ⟨a, rfl, e⟩ := h
  exact .lst (SqL.of e) (dpAll_map (fun x => .int x) ns)
end
/-- a list of ints == []: where it is not so, there is one -/
theorem eqD_nil {K : PySem.W.Frag} {H : Hp} {a b : Addr} {ns : List Int} {Q : VK} (h1 : H a = some (.lst (ns.map V.int))) (h2 : H b = some (.lst [])) (q : ∀ c : Bool, (c = true ↔ ns = []) → Q (.bl c) H) : rEqD K false (.ref a) (.ref b) H Q := by
  refine ⟨dI ns, .list [], LI.dp ⟨a, rfl, h1⟩, .lst (SqL.of h2) .nil, (fineI ns).1, by simp [PyData.canLay0, PyData.canLayAll0], Nat.le_trans (fineI ns).2 (by decide), ?_⟩
  refine q _ ?_
  cases ns with
  | nil => simp [dI, PyData.eqv, PyData.eqvAll]
  | cons x r => simp [dI, PyData.eqv, PyData.eqvAll]
end L3

set_option Elab.async false
set_option linter.all false
set_option maxRecDepth 100000
set_option maxHeartbeats 4000000
namespace L3
open PySem PySem.Spec L2
theorem SameX.updN {p D : Addr} {H H' : Hp} {o : HO} (s : SameX p H H') (h : H D = none) : SameX p H (L2.upd H' D o) := fun b u n e => by
  rw [upd_ne (ne_of_none e h)]
  exact s b u n e
theorem SameX.free {p D : Addr} {H H' : Hp} (s : SameX p H H') (np : D ≠ p) (h : H' D = none) : H D = none := by
  cases e : H D with
  | none => rfl
  | some o => rw [s D o np e] at h; cases h
end L3
namespace L3
open PySem PySem.Spec L2
theorem updK {H : Hp} {p F : Addr} {o o' : HO} (h : H p = some o) (n : p ≠ F) : upd H F o' p = some o := by rw [upd_ne n]; exact h
end L3
namespace L3
end L3
namespace L3
open PySem PySem.Spec L2
end L3

set_option Elab.async false
set_option linter.all false
set_option maxRecDepth 100000
set_option maxHeartbeats 4000000
namespace L3
open PySem PySem.Spec L2
/-! ### some lists may change -/
end L3

set_option Elab.async false
set_option linter.all false
set_option maxRecDepth 100000
set_option maxHeartbeats 4000000
namespace L3
open PySem PySem.Spec PyProof.Rows L2
section
variable {X : Cx} {pins : List (Addr × Obj)} {σ : St} {H : Hp} {s : Shared} {h' : Heap}
theorem Inv.turnedM {ch : List Addr} {t' : Nat} (I : L2.Inv X pins σ H s) (k : ∀ b u, b ∉ ch → s.heap.get? b = some u → h'.get? b = some u) (hf : ∀ b ∈ ch, FpOk X pins H b) : L2.Inv X pins σ H { s with heap := h', toks := t' } := by
  have nch : ∀ c v, H c = some v → c ∉ ch := fun c v q z => by rw [(hf c z).1] at q; cases q
  refine I.step (g' := s.gens) (d' := s.drawn) (ch := ch) (fun b hb => ?_) (fun b u _ _ hc e _ => k b u hc e) (fun b u _ _ hc e _ => ⟨u.slots, k b u hc e⟩) (fun _ _ _ _ n => n)
    (fun b u hc e => ⟨u, k b u hc e⟩) (fun _ _ e => e) (fun _ _ _ e => e) (fun b ps e => ⟨#[], by rw [e]; simp⟩) (fun m hm => ?_) (fun b u e => ?_) I.bare
  · obtain ⟨f0, f1, f2, f3, f4, f5⟩ := hf b hb
    exact ⟨f3, f1, f4, f5⟩
  · obtain ⟨ob, es, ep, ho, r⟩ := hm
    exact ⟨ob, es, ep, k _ ob (fun z => (hf _ z).2.1 rfl) ho, r⟩
  · refine (I.hok b u e).stay (fun c v hc q => k c v ?_ q) (fun _ q => q) fun _ _ q => q
    rcases hc with rfl | hc
    · exact nch _ _ e
    · exact nch _ _ hc
end
/-- zip of the lists at a and b: a new pair each turn -/
def Itz (K : PySem.W.Frag) (a b : Addr) : It :=
  ⟨fun i H => ∃ xs ys x y, SqL K H a xs ∧ SqL K H b ys ∧ xs[i]? = some x ∧ ys[i]? = some y, fun i H x H' => ∃ p v w, x = .ref p ∧ H p = none ∧ H' = upd H p (.tup [v, w]) ∧ (∀ xs, SqL K H a xs → xs[i]? = some v) ∧ ∀ ys, SqL K H b ys → ys[i]? = some w, fun i H => ∃ xs ys, SqL K H a xs ∧ SqL K H b ys ∧ (xs.length ≤ i ∨ ys.length ≤ i)⟩
theorem neA {a b : Nat} (h : a < b ∨ b < a) : (a : Addr) ≠ b := fun e => by subst e; omega
theorem apart_of (I l1 l2 : Nat) (h1 : l1 < I) (h2 : l2 < I) : ZipApart (I + 4) (I + 2) (I + 3) I (I + 1) l1 l2 := by
  constructor <;> (refine neA ?_; omega)
theorem turn_zip {P : Program} {w : World} {K : PySem.W.Frag} {elts : List Expr} {k1 : Nat} {pt : Pos} (a b z TI TO i1 i2 : Addr) (D : ZipApart z TI TO i1 i2 a b) :
    Turn P w K (.Tuple elts k1 pt) (Itz K a b) [z, TI, TO, i1, i2] z (fun i h => IsZip h z TI TO .none ∧ IsPair h TI (.ref i1) (.ref i2) ∧ (∃ u v, IsPair h TO u v) ∧ h.IsListIter i1 a i ∧ h.IsListIter i2 b i) where
  mem := by simp
  obj := fun i h st c hb => by
    obtain ⟨hz, hTI, ⟨u, v, hTO⟩, ⟨o1, e1, c1, d1⟩, ⟨o2, e2, c2, d2⟩⟩ := st
    rcases (by simpa using hb : c = z ∨ c = TI ∨ c = TO ∨ c = i1 ∨ c = i2) with rfl | rfl | rfl | rfl | rfl
    · exact ⟨_, hz, fun v q => by
        have q' : Data.fields _ = Data.cell v := q
        cases q'⟩
    · exact ⟨_, hTI, fun v q => by
        have q' : Data.seq _ _ = Data.cell v := q
        cases q'⟩
    · exact ⟨_, hTO, fun v q => by
        have q' : Data.seq _ _ = Data.cell v := q
        cases q'⟩
    · exact ⟨o1, e1, fun v q => by rw [d1] at q; cases q⟩
    · exact ⟨o2, e2, fun v q => by rw [d2] at q; cases q⟩
  keep := fun i h h' st k => by
    obtain ⟨hz, hTI, ⟨u, v, hTO⟩, h1, h2⟩ := st
    exact ⟨k z (by simp) _ hz, k TI (by simp) _ hTI, ⟨u, v, k TO (by simp) _ hTO⟩, h1.at fun o q => k i1 (by simp) o q, h2.at fun o q => k i2 (by simp) o q⟩
  item := by
    intro X hP hw hK hc i pins s σ H E I hf st hg
    subst hP hw hK
    obtain ⟨xs, ys, x, y, hq1, hq2, hx, hy⟩ := hg
    obtain ⟨its1, rv1, p1, hz1⟩ := I.list hq1
    obtain ⟨its2, rv2, p2, hz2⟩ := I.list hq2
    obtain ⟨u1, hu1, ru1⟩ := rv1.get hx
    obtain ⟨u2, hu2, ru2⟩ := rv2.get hy
    obtain ⟨hz, hTI, ⟨tu, tv, hTO⟩, hi1, hi2⟩ := st
    refine wpAny_pyNext_zip_item D hz hTI hTO hi1 hi2 p1.isList p2.isList (x := u1) (y := u2) (by simpa using hu1) (by simpa using hu2) fun h1 b1 b2 b3 b4 b5 b6 b7 => ?_
    refine ⟨_, rfl, wpAny_letOwnedTupleGo_zip b1 fun h2 c1 c2 => ?_⟩
    have c2' : Heap.SameBut z h1 h2 := c2
    have ltz : z < s.heap.objs.size := Heap.lt_size hz
    have hit1 : h2.IsListIter i1 a (i + 1) := b3.at fun o q => (c2'.2 i1 D.i1z).trans q
    have hit2 : h2.IsListIter i2 b (i + 1) := b4.at fun o q => (c2'.2 i2 D.i2z).trans q
    have hTO2 : IsPair h2 TO u1 u2 := (c2'.2 TO D.TOz).trans b2
    have hTI2 : IsPair h2 TI (.ref i1) (.ref i2) := (c2'.2 TI D.TIz).trans (b7 TI _ D.TIz D.TITO D.TIi1 D.TIi2 hTI)
    have ht : h2.get? s.heap.objs.size = some { cls := .type "tuple", data := .seq #[u1, u2] } := (c2'.2 _ (Nat.ne_of_gt ltz)).trans b5
    have I2 : L2.Inv X pins σ (upd H s.heap.objs.size (.tup [x, y])) { s with heap := h2, toks := s.toks } := by
      refine Inv.turnedLaid (ch := [z, TI, TO, i1, i2]) I (fun c o hb q => ?_) (fun c hb => ?_) hf (Nat.le_refl _) ?_
      · have hb' : c ≠ z ∧ c ≠ TI ∧ c ≠ TO ∧ c ≠ i1 ∧ c ≠ i2 := by simpa using hb
        exact (c2'.2 c hb'.1).trans (b7 c o hb'.1 hb'.2.2.1 hb'.2.2.2.1 hb'.2.2.2.2 q)
      · rcases (by simpa using hb : c = z ∨ c = TI ∨ c = TO ∨ c = i1 ∨ c = i2) with rfl | rfl | rfl | rfl | rfl
        · exact ⟨_, c1⟩
        · exact ⟨_, hTI2⟩
        · exact ⟨_, hTO2⟩
        · obtain ⟨o, q, _⟩ := hit1; exact ⟨o, q⟩
        · obtain ⟨o, q, _⟩ := hit2; exact ⟨o, q⟩
      · exact ⟨by show 2 ≤ sizeLine; decide, [u1, u2], .cons ru1 (.cons ru2 .nil), ⟨_, ht, rfl, _, rfl⟩⟩
    have hn := I.hok.fresh (Nat.le_refl s.heap.objs.size)
    refine ⟨.ref s.heap.objs.size, _, I2, rfl, ⟨_, x, y, rfl, hn, rfl, fun zs q => by rw [I.list_inj q hq1]; exact hx, fun zs q => by rw [I.list_inj q hq2]; exact hy⟩, ⟨c1, hTI2, ⟨_, _, hTO2⟩, hit1, hit2⟩, fun c hb => ?_⟩
    have lb : c < s.heap.objs.size := by
      rcases (by simpa using hb : c = z ∨ c = TI ∨ c = TO ∨ c = i1 ∨ c = i2) with rfl | rfl | rfl | rfl | rfl
      · exact ltz
      · exact Heap.lt_size hTI
      · exact Heap.lt_size hTO
      · obtain ⟨o, q, _⟩ := hi1; exact Heap.lt_size q
      · obtain ⟨o, q, _⟩ := hi2; exact Heap.lt_size q
    rw [upd_ne (Nat.ne_of_lt lb)]
    exact (hf c hb).1
  done := by
    intro X hP hw hK hc i pins s σ H E I hf st hg
    subst hP hw hK
    obtain ⟨xs, ys, hq1, hq2, hx⟩ := hg
    obtain ⟨its1, rv1, p1, hz1⟩ := I.list hq1
    obtain ⟨its2, rv2, p2, hz2⟩ := I.list hq2
    obtain ⟨hz, hTI, ⟨tu, tv, hTO⟩, hi1, hi2⟩ := st
    have l1 := rv1.length
    have l2 := rv2.length
    have hend : its1.toArray[i]? = none ∨ its2.toArray[i]? = none := by
      rcases hx with hx | hx
      · exact .inl (by simp; omega)
      · exact .inr (by simp; omega)
    refine wpAny_pyNext_zip_end (I.ok.hd hc) D hz hTI hTO hi1 hi2 p1.isList p2.isList hend fun h' eb => ⟨rfl, ?_⟩
    exact Inv.turnedM (ch := [z, TI, TO, i1, i2]) (t' := s.toks) I (fun c o hb q => by
      have hb' : c ≠ z ∧ c ≠ TI ∧ c ≠ TO ∧ c ≠ i1 ∧ c ≠ i2 := by simpa using hb
      exact eb c o hb'.1 hb'.2.2.1 hb'.2.2.2.1 hb'.2.2.2.2 q) hf
  self := fun _ _ _ _ _ st h => wpAny_pyIter_zip st.1 h
section
variable {X : Cx}
def iZip (K : PySem.W.Frag) (ta : TA) : TI := fun σ H R => ta σ H fun vs H1 => ∃ a b xs ys, vs = [.ref a, .ref b] ∧ SqL K H1 a xs ∧ SqL K H1 b ys ∧ R (Itz K a b) H1
theorem pi_zip {elts : List Expr} {k1 : Nat} {pt : Pos} {a b : Expr} {ta : TA} {p pos : Pos} (hg : Gl X "zip") (hm : X.mg "zip" = none) (ha : PA X [a, b] ta) (hs : starEach [a, b] X.env = [(false, eval a X.env), (false, eval b X.env)] := by rfl) (hs2 : starEach [b] X.env = [(false, eval b X.env)] := by rfl) :
    PI X (.Tuple elts k1 pt) (.Call (.Name "zip" p) [a, b] [] pos) (iZip X.K ta) := by
  intro pins s σ H R I h
  refine Call_ (ld_blt I hg hm PyProof.Rows.boot_zip (PyProof.Rows.callWith_type1 (thn (ha pos pins s σ H _ I h) fun us s1 ⟨vs, H1, I1, r1, q1⟩ => ?_) (by rw [hs, hs2]) (by rw [hs2]; rfl)))
  obtain ⟨l1, l2, xs, ys, rfl, hq1, hq2, q⟩ := q1
  obtain ⟨u, v, rfl, ru, rv⟩ := vals2 r1
  obtain rfl : u = Value.ref l1 := ru
  obtain rfl : v = Value.ref l2 := rv
  obtain ⟨its1, rv1, p1, hz1⟩ := I1.list hq1
  obtain ⟨its2, rv2, p2, hz2⟩ := I1.list hq2
  have lt1 : l1 < s1.heap.objs.size := by obtain ⟨_, e, _⟩ := p1.isList; exact Heap.lt_size e
  have lt2 : l2 < s1.heap.objs.size := by obtain ⟨_, e, _⟩ := p2.isList; exact Heap.lt_size e
  refine call_zip_2 p1.isList p2.isList fun h' a1 a2 a3 a4 a5 a6 a7 => wpAny_pyIter_zip a1 ?_
  have I2 : L2.Inv X pins σ H1 { s1 with heap := h' } := I1.kept (t' := s1.toks) a7
  refine ⟨s1.heap.objs.size + 4, [s1.heap.objs.size + 4, s1.heap.objs.size + 2, s1.heap.objs.size + 3, s1.heap.objs.size, s1.heap.objs.size + 1], _, _, H1, rfl, I2, turn_zip l1 l2 _ _ _ _ _ (apart_of _ _ _ lt1 lt2), ⟨a1, a2, ⟨_, _, a3⟩, a4, a5⟩, fun c hb => ?_, q⟩
  have lb : s1.heap.objs.size ≤ c := by
    rcases (by simpa using hb : c = s1.heap.objs.size + 4 ∨ c = s1.heap.objs.size + 2 ∨ c = s1.heap.objs.size + 3 ∨ c = s1.heap.objs.size ∨ c = s1.heap.objs.size + 1) with rfl | rfl | rfl | rfl | rfl <;> first | exact Nat.le_add_right _ _ | exact Nat.le_refl _
  exact I1.fpOk lb (I1.hok.fresh lb)
theorem pi_zipK {elts : List Expr} {k1 : Nat} {pt : Pos} {a b : Expr} {ta : TA} {p pos : Pos} {K : PySem.W.Frag} (hK : X.K = K) (hg : Gl X "zip") (hm : X.mg "zip" = none) (ha : PA X [a, b] ta) (hs : starEach [a, b] X.env = [(false, eval a X.env), (false, eval b X.env)] := by rfl) (hs2 : starEach [b] X.env = [(false, eval b X.env)] := by rfl) :
    PI X (.Tuple elts k1 pt) (.Call (.Name "zip" p) [a, b] [] pos) (iZip K ta) := by subst hK; exact pi_zip hg hm ha hs hs2
end
end L3

set_option Elab.async false
set_option linter.all false
set_option maxRecDepth 100000
set_option maxHeartbeats 4000000
namespace L3
open PySem PySem.Spec PyProof.Rows L2
section
variable {X : Cx}
/-! ### xs.index(y), xs.insert(i, y), xs[i] = y, is not False, {} -/
def rInsert : V → List V → Hp → VK → Prop := fun x vs H Q => ∃ l xs k y, x = .ref l ∧ vs = [.int k, y] ∧ H l = some (.lst xs) ∧ 0 ≤ k ∧ k ≤ xs.length ∧ xs.length < sizeLine ∧ Q .non (upd H l (.lst (xs.take k.toNat ++ y :: xs.drop k.toNat)))
theorem Vals.take {xs : List V} {us : List Value} (h : Vals xs us) (k : Nat) : Vals (xs.take k) (us.take k) := by
  induction k generalizing xs us with
  | zero => exact .nil
  | succ k ih =>
    cases h with
    | nil => exact .nil
    | cons r t => exact .cons r (ih t)
theorem Vals.drop {xs : List V} {us : List Value} (h : Vals xs us) (k : Nat) : Vals (xs.drop k) (us.drop k) := by
  induction k generalizing xs us with
  | zero => exact h
  | succ k ih =>
    cases h with
    | nil => exact .nil
    | cons r t => exact ih t
theorem Vals.set {xs : List V} {us : List Value} {y : V} {u : Value} (h : Vals xs us) (ry : RelV y u) (k : Nat) : Vals (xs.set k y) (us.set k u) := by
  induction k generalizing xs us with
  | zero =>
    cases h with
    | nil => exact .nil
    | cons r t => exact .cons ry t
  | succ k ih =>
    cases h with
    | nil => exact .nil
    | cons r t => exact .cons r (ih t)
theorem mt_insert : MtM X "list.insert" rInsert := by
  intro pins s σ H x vs v us Q I rx rv h
  obtain ⟨l, xs, k, y, rfl, rfl, hH, hk0, hk1, hz, q⟩ := h
  cases rx
  obtain ⟨u1, u2, rfl, r1, r2⟩ := rv.two
  obtain ⟨t, rfl⟩ := (show ∃ t, u1 = Value.int k t from r1)
  obtain ⟨z, its, n, r, hl, e⟩ := I.lstM hH
  have hfit : ¬ (!Builtin.List.listFitsIndex k) = true := by
    rw [fitsIndex_of hk0 (by rw [sizeLine_eq] at hz; omega)]
    decide
  have hsz : its.toArray.size ≤ sizeLine := by rw [List.size_toArray]; omega
  refine call_meets F.slot_list_insert ⟨_, e, rfl⟩ F.entry_list_insert (F.args_list_insert_3 _ _ _) (AutoListH.list_insert_list_int_val_1 l its.toArray n k t u2 hfit hsz) ⟨e, ?_⟩
  refine ⟨.non, _, I.lset (its' := its.take k.toNat ++ u2 :: its.drop k.toNat) hH e ?_ ((Vals.take r _).append (.cons r2 (Vals.drop r _))) ?_, rfl, q⟩
  · have hk : (if k < 0 then (k + ((its.toArray.size : Nat) : Int)).toNat else min k.toNat its.toArray.size) = k.toNat := by
      rw [if_neg (by omega), List.size_toArray]
      omega
    show ((its.toArray.extract 0 _).push u2 ++ its.toArray.extract _) = _
    rw [hk]
    apply Array.toList_inj.mp
    simp
    exact List.take_of_length_le (by rw [List.length_drop]; omega)
  · rw [List.length_append, List.length_cons, List.length_take, List.length_drop]
    omega
theorem Inv.big {pins : List (Addr × Obj)} {σ : St} {H : Hp} {s : Shared} (I : L2.Inv X pins σ H s) : sysModules < s.heap.objs.size := by
  have h : mainGlobals < s.heap.objs.size := (I.mod.glob.keeps I.bk).lt
  exact Nat.lt_trans (by decide) h
theorem dk_empty {P : Program} {w : World} {H : Hp} (h : Heap) (hb : sysModules < h.objs.size) : ObjOk P w H (h.push { cls := .type "dict", data := .dict #[] }) h.objs.size (.dK []) :=
  ⟨Nat.zero_le _, beq_eq_false_iff_ne.mpr (Ne.symm (Nat.ne_of_lt hb)), [], .nil, Heap.DictOf.new h⟩
def tDNewK : TE := fun _ H Q => ∀ p, H p = none → Q (.ref p) (upd H p (.dK []))
theorem pe_dnewK {pos : Pos} : PE X (.Dict [] [] pos) tDNewK := fun pins s σ H Q I h =>
  wpAny_Dict_empty ⟨.ref s.heap.objs.size, _, I.laid (a := s.heap.objs.size) (o := .dK []) (t' := s.toks) (fun _ _ q => Heap.get?_push_of_some _ q) (Nat.le_refl _) (dk_empty s.heap (Inv.big I)), rfl, h _ (I.hok.fresh (Nat.le_refl _))⟩
end
section
variable {prog : Program} {w : World} {A : Around} {E : Value → Shared → Prop} {s : Shared}
end
section
variable {X : Cx}
end
end L3

set_option Elab.async false
set_option linter.all false
set_option maxRecDepth 100000
set_option maxHeartbeats 4000000
namespace L3
open PySem PySem.Spec PyProof.Rows L2
/-! ### sum of lists -/
section
variable {prog : Program} {w : World} {A : Around} {R : Result → Shared → Prop} {I : Addr} {fp wr : List Addr} {n : Nat} {P : Nat → Value → Prop} {St : Nat → Heap → Prop}
end
section
variable {X : Cx}
end
end L3

set_option Elab.async false
set_option linter.all false
set_option maxRecDepth 100000
set_option maxHeartbeats 4000000
namespace L3
open PySem PySem.Spec L2
section
variable {X : Cx} {K : PySem.W.Frag}
theorem pt_truthK {a : Expr} {ta : TE} (hK : X.K = K) (ha : PE X a ta) (he : ∀ whole, isTrue a X.env whole = (do let v ← whole; standAt a.pos; holding [v] (truthy v))) :
    PT X a (fun σ H Q => ta σ H fun x H' => ∃ k, TruV K x H' k ∧ Q k H') := by subst hK; exact pt_truth ha he
end
/-- for, over any iterator of n turns -/
theorem for_gen {J : It} {n : Nat} {g : TG} {tb : L2.TS} {D : Ends} {σ : St} {H : Hp} (Pv : Nat → St → Hp → Prop) (h0 : Pv 0 σ H) (hgo : ∀ i σ H, i < n → Pv i σ H → J.go i H) (hst : ∀ σ H, Pv n σ H → J.stop n H)
    (hs : ∀ i x σ H H2, i < n → Pv i σ H → J.yld i H x H2 → g x σ H2 fun σ2 H3 => tb { D with nx := Pv (i + 1), ct := Pv (i + 1), bk := D.nx } σ2 H3) (hd : ∀ σ H, Pv n σ H → D.nx σ H) :
    ∃ W : Nat → Nat → St → Hp → Prop, (∃ m, W 0 m σ H) ∧ ∀ i m σ H, W i m σ H →
      (J.stop i H ∧ D.nx σ H) ∨ (J.go i H ∧ ∃ N : St → Hp → Prop, (∀ σ' H', N σ' H' → ∃ m', m' < m ∧ W (i + 1) m' σ' H') ∧ ∀ x H', J.yld i H x H' → g x σ H' fun σ2 H2 => tb { D with nx := N, ct := N, bk := D.nx } σ2 H2) := by
  refine ⟨fun i m σ H => m = n - i ∧ i ≤ n ∧ Pv i σ H, ⟨n, by simp, Nat.zero_le _, h0⟩, ?_⟩
  rintro i m σ H ⟨rfl, hi, p⟩
  by_cases hlt : i < n
  · exact .inr ⟨hgo i σ H hlt p, Pv (i + 1), fun σ' H' p' => ⟨n - (i + 1), by omega, rfl, hlt, p'⟩, fun x H' y => hs i x σ H H' hlt p y⟩
  · have e : i = n := by omega
    subst e
    exact .inl ⟨hst σ H p, hd σ H p⟩

/-! ### runs as plain functions -/
theorem cutV_from (xs : List V) (k : Nat) (h : k ≤ xs.length) : cutV xs (some (k : Int)) none = xs.drop k := by
  unfold cutV
  rw [HT.sIx_nat, HT.sIx_none, Nat.min_eq_left h]
  exact List.take_of_length_le (by rw [List.length_drop]; omega)
theorem cutV_to (xs : List V) (k : Nat) (h : k ≤ xs.length) : cutV xs none (some (k : Int)) = xs.take k := by
  unfold cutV
  rw [HT.sIx_nat, HT.sIx_none, Nat.min_eq_left h]
  simp
end L3
namespace L3
open PySem PySem.Spec L2
theorem cut_tail (xs : List V) : cutV xs (some 1) none = xs.drop 1 := by
  cases xs with
  | nil => rfl
  | cons x r => exact cutV_from (x :: r) 1 (by simp)
theorem cut_head (xs : List V) : cutV xs none (some 1) = xs.take 1 := by
  cases xs with
  | nil => rfl
  | cons x r => exact cutV_to (x :: r) 1 (by simp)
end L3

set_option Elab.async false
set_option linter.all false
set_option maxRecDepth 100000
set_option maxHeartbeats 4000000
namespace L3
open PySem PySem.Spec L2
end L3
namespace L3
open PySem PySem.Spec L2
/-- a statement, then the rest, with a word of one's own between -/
theorem pss_join {X : Cx} {st : Stmt} {rest : List Stmt} {t u : L2.TS} (h1 : PS X st t) (h2 : PSs X rest u) : PSs X (st :: rest) (fun D σ H => ∃ J : St → Hp → Prop, t { D with nx := J } σ H ∧ ∀ σ' H', J σ' H' → u D σ' H') := by
  intro pins s σ H D I h
  obtain ⟨J, h, hj⟩ := h
  refine wpAny_execs_cons (thn (h1 pins s σ H { D with nx := J } I h) fun f s1 q => ?_)
  cases f with
  | next =>
    obtain ⟨σ', H', I', q⟩ := q
    exact h2 pins s1 σ' H' D I' (hj _ _ q)
  | ret v => exact q
  | brk => exact q
  | cont => exact q
end L3

set_option Elab.async false
set_option linter.all false
set_option maxRecDepth 100000
set_option maxHeartbeats 4000000
namespace L3
open PySem PySem.Spec L2
end L3
namespace L3
open PySem PySem.Spec L2
end L3

set_option Elab.async false
set_option linter.all false
set_option maxRecDepth 100000
set_option maxHeartbeats 4000000
namespace L3
open PySem PySem.Spec PyProof.Rows L2
/-! ### texts: join, split, int, str, slice, >= -/
section
variable {X : Cx}
/-- str(x), x a text or an int -/
theorem call_str_any : CallR X (.type "str") (fun xs H Q => (∃ i, xs = [.int i] ∧ i.natAbs.log2 < 1920 ∧ Q (.str (toString i)) H) ∨ ∃ z, xs = [.str z] ∧ Q (.str z) H) := by
  refine call_str_int.or ?_
  intro pins s σ H xs us Q I r h
  obtain ⟨z, rfl, q⟩ := h
  obtain ⟨u, rfl, ru⟩ := vals1 r
  obtain ⟨t, rfl⟩ := (show ∃ t, u = Value.str z t from ru)
  exact PySem.P.str_of_str ⟨.str z, H, I, ⟨_, rfl⟩, q⟩
end
section
variable {prog : Program} {w : World} {A : Around} {E : Value → Shared → Prop} {s : Shared}
end
section
variable {X : Cx}
end
section
variable {prog : Program} {w : World} {A : Around} {E : Value → Shared → Prop} {s : Shared}
end
section
variable {X : Cx}
end
end L3

set_option Elab.async false
set_option linter.all false
set_option maxRecDepth 100000
set_option maxHeartbeats 4000000
namespace L3
open PySem PySem.Spec PyProof.Rows L2
/-! ### words, lines, a world's text -/
def free (c : Nat) (z : Str) : Prop := c ∉ z.cps.toList

def dT (d : WD) : PyData := .list (d.signs.map dS ++ d.ways.map dI ++ [dI d.starts, dS d.fair])
/-- what is asked of a world's data that is written -/
structure Writ (d : WD) : Prop where
  gd : Good d
  rm : ∀ n : Int, n < d.signs.length → n < 20 ∨ d.signs.length ≤ 20
end L3
namespace L3
open PySem PySem.Spec PyProof.Rows L2
section
variable {X : Cx} {K : PySem.W.Frag}
end
end L3
namespace L3
open PySem PySem.Spec PyProof.Rows L2
theorem atI_back {α : Type} {xs : List α} {k : Nat} (h1 : 1 ≤ k) (h2 : k ≤ xs.length) : atI xs (-(k : Int)) = xs[xs.length - k]? := by
  have e : ixN xs.length (-(k : Int)) = some (xs.length - k) := by
    unfold ixN
    rw [if_neg (by omega), if_pos (by omega)]
    congr 1
    omega
  unfold atI
  rw [e]
  rfl
end L3

set_option Elab.async false
set_option linter.all false
set_option maxRecDepth 100000
set_option maxHeartbeats 4000000
namespace L3
open PySem PySem.Spec PyProof.Rows L2
/-! ### an exception in flight whose context is None -/
section
variable {M : Model} {A : Around} {E : Value → Shared → Prop} {s : Shared} {base : Heap} {env : Env} {outer : List Env} {L e : Addr} {cls fl : Value} {Q : Unit → Shared → Prop}
end
end L3

set_option Elab.async false
set_option linter.all false
set_option maxRecDepth 100000
set_option maxHeartbeats 4000000
namespace L3
open PySem PySem.Spec PyProof.Rows L2
/-! ### exceptions of one's own classes: how they lie behind a call -/
/-- the exception at a, of the class at C, with its traceback at T; neither was there in h0, neither is tracked -/
def FlyN (h0 : Heap) (H : Hp) (h : Heap) (a C T : Addr) : Prop :=
  h0.get? a = none ∧ h0.get? T = none ∧ H a = none ∧ H T = none ∧ T ≠ a ∧
  ∃ oe vs oT ts a0, h.get? a = some oe ∧ oe.cls = .ref C ∧ oe.data = .fields vs ∧ vs[0]? = some a0 ∧ vs[1]? = some (.ref T) ∧ h.get? T = some oT ∧ oT.data = .fields ts ∧ ts[3]? = some .none ∧ vs[2]? = some .none
/-- an exception behind a call -/
def CXe (P : Program) (w : World) : CXT := fun outer H s E e s' =>
  ∃ a C T H', e = .ref a ∧ s'.os = s.os ∧ AllBare s'.gens ∧ Un (frs outer) [] H H' s.heap s'.heap ∧ HOk P w H' s'.heap ∧ FlyN s.heap H' s'.heap a C T ∧ E e (some C) H'

section
variable {P : Program} {w : World} {K : PySem.W.Frag} {mg : Str → Option Value} {base : Heap} {N : List Str} {qual : Str} {scope : Scope} {f : Addr} {cd : Value} {A : Around} {outer : List Env} {s₀ : Shared} {H₀ : Hp} {E : XK}
end
section
variable {K : PySem.W.Frag} {mg : Str → Option Value} {base : Heap} {x : Str} {C : Addr} {bmB : List Value} {newId : String}
end
section
variable {X : Cx} {x : Str} {C : Addr} {e : Expr} {es : List Expr} {t : TA} {E : XK} {B newId initId : String} {bmB : List Value} {np cpos pos : Pos}
end
end L3

set_option Elab.async false
set_option linter.all false
set_option maxRecDepth 100000
set_option maxHeartbeats 4000000
namespace L3
open PySem PySem.Spec PyProof.Rows L2
/-! ### try, except -/
/-- what is wanted of an exception that a suite lets out: the names and the heap behind it -/
abbrev XS := Value → Option Addr → L2.St → Hp → Prop
def XP (X : Cx) (pins : List (Addr × Obj)) (E : XS) (e : Value) (s' : Shared) : Prop := ∃ σ H s, L2.Inv X pins σ H s ∧ CXe X.prog X.w X.stack H s (fun e c H' => E e c σ H') e s'
section
variable {X : Cx} {k : Nat} {f C : Addr} {fd : FuncData} {ps : List Str} {sp : Sp} {x : Str} {p pos : Pos} {e : Expr} {es : List Expr} {t : TA}
end
section
variable {X : Cx} {pins : List (Addr × Obj)} {σ : L2.St} {H : Hp} {s : Shared}
end
end L3

set_option Elab.async false
set_option linter.all false
set_option maxRecDepth 100000
set_option maxHeartbeats 4000000
namespace L3
open PySem PySem.Spec PyProof.Rows L2
section
variable {X : Cx} {pins : List (Addr × Obj)} {σ : L2.St} {H H' : Hp} {s s' : Shared} {a C T : Addr}
end
section
variable {X : Cx} {i : Nat} {n cn : Str} {D : Addr} {b₀ : Stmt} {body suite : List Stmt} {np hpos pos : Pos}
end
end L3

set_option Elab.async false
set_option linter.all false
set_option maxRecDepth 100000
set_option maxHeartbeats 4000000
namespace L3
open PySem PySem.Spec PySem.Calls PyProof.Rows PySem.W L2 Builtin Builtin.ObjectAttr Builtin.Getset_descriptor
/-! ### isinstance of a caught exception -/
section
variable {prog : Program} {w : PySem.World} {A : Around} {E : Value → Shared → Prop} {h : Heap} {g : Array GenState} {d : Drawn} {t : Nat} {os : OsState} {K : Frag} {a C : Addr}
/-- what is needed of a class of exceptions -/
structure ExcK (K : Frag) (C : Addr) : Prop where
  ga : findIn K (.ref C) "__getattribute__" = some (some (.builtin "BaseException.__getattribute__"))
  gh : findIn K (.ref C) "__getattr__" = some none
  ob : mroIn K C (.type "object") = some true
  be : mroIn K C (.type "BaseException") = some true
  cl : findIn K (.ref C) "__class__" = some (some (.builtin "object.__class__"))
  gt : specialIn K (.builtin "object.__class__") "__get__" = some (some (.builtin "getset_descriptor.__get__"))
  tk : takesIn K (.builtin "object.__class__") = some true
  hd : hasDictIn K C = true
end
section
variable {X : Cx}
end
end L3

set_option Elab.async false
set_option linter.all false
set_option maxRecDepth 100000
set_option maxHeartbeats 4000000
namespace L3
open PySem PySem.Spec PyProof.Rows L2
/-! ### defs that raise -/
section
variable {P : Program} {w : World} {K : PySem.W.Frag} {mg : Str → Option Value} {base : Heap}
end
section
variable {P : Program} {w : World} {K : PySem.W.Frag} {mg : Str → Option Value} {base : Heap} {N : List Str} {qual : Str} {scope : Scope} {f : Addr} {cd : Value} {A : Around} {outer : List Env} {s₀ : Shared} {H₀ : Hp} {E : XK}
end
section
variable {X : Cx} {k : Nat} {f C : Addr} {fd : FuncData} {ps : List Str} {sp : Sp} {x : Str} {p pos : Pos} {e : Expr} {es : List Expr} {t : TA}
end
end L3

set_option Elab.async false
set_option linter.all false
set_option maxRecDepth 100000
set_option maxHeartbeats 4000000
namespace L3
open PySem PySem.Spec PyProof.Rows L2
/-! ### what makes no world -/
end L3

set_option Elab.async false
set_option linter.all false
set_option maxRecDepth 100000
set_option maxHeartbeats 4000000
namespace L3
open PySem PySem.Spec PyProof.Rows L2
/-! ### {key: number}, both constants -/
section
variable {X : Cx} {i j1 j2 : Nat} {pos p1 p2 : Pos}
end
end L3

set_option Elab.async false
set_option linter.all false
set_option maxRecDepth 100000
set_option maxHeartbeats 1000000
namespace L3
open PySem PySem.Spec PyProof.Rows L2
/-! ### displays of many constants, in one step -/
section
variable {X : Cx} {e : Expr} {es : List Expr} {v : V} {vs : List V} {t : TA}
end
/-! ### an argument, a display's item, that is no starred one: the item's own form is looked at alone -/
def starB : Expr → Bool
  | .Starred _ _ => true
  | _ => false
theorem star_c {e : Expr} {es : List Expr} {env : Env} (h : starB e = false) : starEach (e :: es) env = (false, eval e env) :: starEach es env := by
  cases e <;> first | rfl | cases h
theorem pa_c {X : Cx} {e : Expr} {es : List Expr} {te : TE} {t : TA} (ha : PE X e te) (hr : PA X es t) (h : starB e = false := by rfl) : PA X (e :: es) (tCons te t) := pa_cons ha hr (star_c h)
/-- the same, as a thing of its own (so that what it says is not looked into) -/
structure QA (X : Cx) (es : List Expr) (t : TA) : Prop where
  h : PA X es t
end L3

set_option Elab.async false
set_option linter.all false
set_option maxRecDepth 100000
set_option maxHeartbeats 4000000
namespace L3
open PySem PySem.Spec PyProof.Rows L2
/-! ### a comprehension some of whose own names are taken by one within it -/
structure CompOkC (sc : Scope) (N Nc : List Str) (ix : List (Option Nat)) (scope : Scope) : Prop where
  kind : scope.kind = .function
  cells : ∀ y ∈ scope.names, y.2 = .cell → scope.names.lookup y.1 = some .cell
  names : ∀ y ∈ scope.names, y.2 = .local → scope.names.lookup y.1 = some .local
  free : ∀ y ∈ scope.names, y.2 = .free → sc.names.lookup y.1 = some .cell ∨ sc.names.lookup y.1 = some .free
  len : ix.length = Nc.length
  chk : ((ix.zip Nc).all fun p => match p.1 with | none => true | some j => N[j]? == some p.2 && scope.names.lookup p.2 == some .free) = true
section
variable {X : Cx} {pins : List (Addr × Obj)} {σ : St} {H : Hp} {s : Shared} {Nc : List Str} {ix : List (Option Nat)} {scope : Scope}
end
end L3

set_option Elab.async false
set_option linter.all false
set_option maxRecDepth 100000
set_option maxHeartbeats 4000000
namespace L3
open PySem PySem.Spec PyProof.Rows L2
/-! ### a list made longer by a tuple -/
section
variable {X : Cx} {K : PySem.W.Frag}
end
/-! ### del xs[k:] -/
section
variable {X : Cx}
end
/-! ### a dict of the module: texts to ints -/
structure DicK (K : PySem.W.Frag) (P : Params) (D : Addr) (kvs : List (Str × Int)) : Prop where
  ex : ∃ (es : Array DictEntry) (n : Nat), K.lookup D = some ⟨.type "dict", none, .dict es n, #[]⟩ ∧ PySem.W.KeysLit P es.toList
  at_ : ∀ p ∈ kvs, ∃ t, PySem.W.nsIn K D p.1 = some (some (.int p.2 t))
  lo : (D == sysModules) = false
section
variable {X : Cx} {K : PySem.W.Frag} {P : Params}
end
/-! ### the script + a list -/
end L3

set_option Elab.async false
set_option linter.all false
set_option maxRecDepth 100000
set_option maxHeartbeats 4000000
namespace L3
open PySem PySem.Spec L2
/-! ### sentences: trees of tuples -/
inductive Lb where
  | yes
  | sign (s : Str)
  | op (w : Str)
  | wit (m : Int)
  | many (w : Str)
inductive Tr where
  | node (c : Lb) (ks : List Tr)
def Tr.lb : Tr → Lb
  | .node c _ => c
def Tr.ks : Tr → List Tr
  | .node _ ks => ks
def W1 : List Str := ["all", "some", "not", "next", "always", "ever", "before", "once", "sofar"]
def W2 : List Str := ["until", "since"]
def lbOk : Lb → Nat → Prop
  | .yes, n => n = 0
  | .sign s, n => n = 0 ∧ isNameS s = true
  | .op w, n => (w ∈ W1 ∧ n = 1) ∨ (w ∈ W2 ∧ n = 2)
  | .wit m, n => (0 ≤ m ∧ m ≤ 5) ∧ n = 2
  | .many w, n => (w = "and" ∨ w = "or") ∧ n ≤ 8
/-- the tuple at a, of the heap or of the module; vs: the sentences that stand right in it -/
def Shape (K : PySem.W.Frag) (H : Hp) (a : Addr) (vs : List V) : Lb → Prop
  | .yes => vs = [] ∧ SqT K H a [.str "yes"]
  | .sign s => vs = [] ∧ SqT K H a [.str "sign", .str s]
  | .op w => SqT K H a (.str w :: vs)
  | .wit m => SqT K H a (.str "within" :: .int m :: vs)
  | .many w => ∃ b, SqT K H a [.str w, .ref b] ∧ SqT K H b vs
def At (K : PySem.W.Frag) : Nat → Hp → V → Tr → Prop
  | 0, _, _, _ => False
  | n + 1, H, v, t => ∃ a vs, v = .ref a ∧ Shape K H a vs t.lb ∧ lbOk t.lb t.ks.length ∧ vs.length = t.ks.length ∧ ∀ (i : Nat) u k, vs[i]? = some u → t.ks[i]? = some k → At K n H u k
variable {K : PySem.W.Frag}
def AtL (K : PySem.W.Frag) (n : Nat) (H : Hp) (vs : List V) (ts : List Tr) : Prop := vs.length = ts.length ∧ ∀ (i : Nat) u k, vs[i]? = some u → ts[i]? = some k → At K n H u k
/-! ### rooms or ways; the order in which they are gone through -/

mutual
def post : Tr → List Tr
  | .node c ks => postL ks ++ [.node c ks]
def postL : List Tr → List Tr
  | [] => []
  | t :: r => post t ++ postL r
end
/-! the stack: what is told of all so far, by F -/
mutual
def valT {α : Type} (F : Lb → List α → α) : Tr → α
  | .node c ks => F c (valL F ks)
def valL {α : Type} (F : Lb → List α → α) : List Tr → List α
  | [] => []
  | t :: r => valT F t :: valL F r
end
section
variable {α : Type} {F : Lb → List α → α}

end

/-! ### small helps -/
/-! ### isinstance(x, tuple), also of the module's; == of deep things -/
def rIsT (K : PySem.W.Frag) : List V → Hp → VK → Prop := fun xs H Q => ∃ x, xs = [x, .ty "tuple"] ∧ ((∃ a ys, x = .ref a ∧ SqT K H a ys ∧ Q (.bl true) H) ∨ ∃ t, TyOf K H x t ∧ PySem.W.kitOne K t (.type "tuple") = some false ∧ Q (.bl false) H)
theorem call_isT {X : Cx} (hK : X.K = K) : CallR X (.builtin "isinstance") (rIsT K) := by
  subst hK
  intro pins s σ H xs us Q I r h
  obtain ⟨x, rfl, h⟩ := h
  obtain ⟨u, v, rfl, ru, rv⟩ := vals2 r
  obtain rfl : v = Value.type "tuple" := rv
  rcases h with ⟨a, ys, rfl, hq, q⟩ | ⟨t, ht, hk, q⟩
  · obtain rfl : u = Value.ref a := ru
    obtain ⟨its, r, ⟨o, h1, h2, h3⟩, hz⟩ := I.tuple hq
    exact PySem.W.kia_one (b := true) PySem.W.kitx_tuple I.kIn ⟨o, h1, h2⟩ rfl (fun z => nomatch z) fun tk => ⟨.bl true, H, I.tok _, rfl, q⟩
  · exact isinst_ok I ru ht hk fun tk => ⟨.bl false, H, I.tok _, rfl, q⟩
theorem Room.units2 {k : Nat} {A : Around} (r : Room k A) : A.units + 195 < cLine := by have := r.un; omega
end L3

set_option Elab.async false
set_option linter.all false
set_option maxRecDepth 100000
set_option maxHeartbeats 4000000
namespace L3
open PySem PySem.Spec PyProof.Rows L2
/-! ### for x in reversed(xs) -/
section
variable {X : Cx} {K : PySem.W.Frag} {tg : Expr}
end
end L3

set_option Elab.async false
set_option linter.all false
set_option maxRecDepth 100000
set_option maxHeartbeats 4000000
namespace L3
open PySem PySem.Spec L2
/-! ### cores -/
abbrev nYes : Tr := .node .yes []
abbrev nNot (t : Tr) : Tr := .node (.op "not") [t]
abbrev nNext (t : Tr) : Tr := .node (.op "next") [t]
abbrev nSome (t : Tr) : Tr := .node (.op "some") [t]
abbrev nAnd (a b : Tr) : Tr := .node (.many "and") [a, b]
abbrev nUnt (a b : Tr) : Tr := .node (.op "until") [a, b]
abbrev nSin (a b : Tr) : Tr := .node (.op "since") [a, b]
def andT : List Tr → Tr
  | [] => nYes
  | [x] => x
  | x :: y :: r => nAnd x (andT (y :: r))
def orT : List Tr → Tr
  | [] => nNot nYes
  | [x] => x
  | x :: y :: r => nNot (nAnd (nNot x) (nNot (orT (y :: r))))
def withinT : Nat → Tr → Tr → Tr
  | 0, _, s => s
  | n + 1, f, s => nNot (nAnd (nNot s) (nNot (nAnd f (nNext (withinT n f s)))))
def coreF (c : Lb) (cs : List Tr) : Tr := match c with
  | .yes => nYes
  | .sign s => .node (.sign s) []
  | .many w => if w = "and" then andT cs else orT cs
  | .wit m => withinT m.toNat (cs.getD 0 nYes) (cs.getD 1 nYes)
  | .op w => if w = "all" then nNot (nSome (nNot (cs.getD 0 nYes))) else if w = "ever" then nUnt nYes (cs.getD 0 nYes) else if w = "always" then nNot (nUnt nYes (nNot (cs.getD 0 nYes)))
    else if w = "once" then nSin nYes (cs.getD 0 nYes) else if w = "sofar" then nNot (nSin nYes (nNot (cs.getD 0 nYes))) else .node (.op w) cs
/-! measures: each by one step -/
def mx (l : List Nat) : Nat := l.foldr max 0
def hgt : Tr → Nat := valT fun _ hs => mx hs + 1
/-! what is true of a measure at coreF -/
section
end
/-! ### cores of cores -/
/-! ### all of it, by the height -/
/-! ### tuples that are sentences -/
theorem cut_init (xs : List V) (h : 0 < xs.length) : cutV xs none (some (-1)) = xs.take (xs.length - 1) := by
  unfold cutV
  have e1 : HT.sIx xs.length 0 none = 0 := rfl
  have e2 : HT.sIx xs.length xs.length (some (-1)) = xs.length - 1 := by unfold HT.sIx; simp; omega
  rw [e1, e2]
  simp
theorem atI_last {xs : List V} {u : V} : atI (xs ++ [u]) (-1) = some u := by
  have := atI_back (xs := xs ++ [u]) (k := 1) (by decide) (by simp)
  simpa using this
end L3

set_option Elab.async false
set_option linter.all false
set_option maxRecDepth 100000
set_option maxHeartbeats 4000000
namespace L3
open PySem PySem.Spec L2
/-! ### a sentence as data -/
end L3

set_option Elab.async false
set_option linter.all false
set_option maxRecDepth 100000
set_option maxHeartbeats 4000000
namespace L3
open PySem PySem.Spec L2
/-! ### what is_formed says False of -/
/-! ### sentences with something in them that is none -/
inductive Bt where
  | lf
  | nd (c : Lb) (ks : List Bt)

mutual
def bsz : Bt → Nat
  | .lf => 1
  | .nd _ ks => bszL ks + 1
def bszL : List Bt → Nat
  | [] => 0
  | b :: r => bsz b + bszL r
end


end L3

set_option Elab.async false
set_option linter.all false
set_option maxRecDepth 100000
set_option maxHeartbeats 4000000
namespace L3
open PySem PySem.Spec L2
/-! ### k12: where something that is none is put in -/
end L3


set_option Elab.async false
set_option linter.all false
set_option maxRecDepth 100000
/-! THE HAND LAYER, for ints, bools, texts, own classes, DICTS (int and text keys), calls, loops. Paste it whole ahead of your own text; what your proof does not reach may be deleted. -/
namespace L2
open PySem PySem.Spec PyProof.Rows

end L2

namespace L2
open PySem PySem.Spec PyProof.Rows

section
variable (P : Program) (w : World)
end

section
variable {P : Program} {w : World} {H H' : Hp} {h h' : Heap} {a : Addr} {o : HO}
end

section
variable {P : Program} {w : World} {H : Hp} {h h' : Heap} {x e : Addr} {o' : HO}
end

/-! ### kept unless tracked; of the frames at fs (the callers') the slots may change (an exception that passes writes there); of the records at ex (iterators) nothing is said -/
section
variable {fs fs' ex ex' : List Addr} {H H1 H2 : Hp} {h h1 h2 h' : Heap} {a x e : Addr} {o : HO}
end

/-! ### the heap without what is tracked -/
/-! ### OpenK's ledger, filled with every new object but one -/
end L2

namespace L2
open PySem PySem.Spec PyProof.Rows

section
variable {X : Cx} {pins : List (Addr × Obj)} {σ : List (Option V)} {H H' : Hp} {s : Shared} {h' : Heap}

end

/-! ### the judgements -/
end L2

namespace L2
open PySem PySem.Spec PyProof.Rows
section
variable {X : Cx}

/-! ### names and constants -/
/-! ### arithmetic -/
variable {a b : Expr} {ta tb : TE} {pos : Pos}
/-! ### comparisons -/
/-! ### and, or, not -/
variable {tA tB' : TT} {rest : List Expr}
end
end L2

namespace L2
open PySem PySem.Spec PyProof.Rows

/-! ### a list, a tuple that is read: tracked, frozen, or an object of the module -/
section
variable {X : Cx} {pins : List (Addr × Obj)} {σ : St} {H : Hp} {s : Shared} {a : Addr} {xs ys : List V}
end

/-! ### another wish about exceptions -/
section
variable {X : Cx} {pins : List (Addr × Obj)} {σ : St} {H : Hp} {s : Shared} {E : Value → Shared → Prop}
end

/-! ### blocks and small statements -/
section
variable {X : Cx} {st : Stmt} {rest : List Stmt} {t u : TS} {e : Expr} {te : TE} {pos : Pos}
end

/-! ### targets -/
section
variable {X : Cx} {pos : Pos}
end

/-! ### while -/
section
variable {X : Cx} {pos : Pos}
end

/-! ### what a loop or a comprehension walks -/
end L2

namespace L2
open PySem PySem.Spec PyProof.Rows
section
variable {X : Cx} {tg : Expr}
/-! ### for -/
end

/-! ### the forms one uses -/
end L2

namespace L2
open PySem PySem.Spec PyProof.Rows

section
variable {X : Cx} {a b c : Expr} {ta tb tc : TE} {pos : Pos}

/-! ### ints -/
/-! ### bools among ints: n += (a < b) -/
end

/-! ### comparisons -/
section
variable {X : Cx} {a b c : Expr} {ta tb tc : TE} {pos : Pos}
/-! ### truth -/
/-! ### strs and bytes -/
/-! ### scalar builtins, by CallR -/
end
end L2

namespace L2
open PySem PySem.Spec PyProof.Rows

/-! ### an instance, its attributes a map -/
section
variable {prog : Program} {w : World} {A : Around} {E : Value → Shared → Prop} {s : Shared} {K : PySem.W.Frag} {x dx C f : Addr} {mA : Str → Option Value} {name : Str} {v : Value}

end

/-! ### the attributes as a list of pairs -/
section
variable {P : Program} {w : World} {H H' : Hp} {h h' : Heap} {a C dx : Addr} {fs fs' : List (Str × V)}
end

/-! ### what of the text a class must have -/
section
variable {X : Cx} {pins : List (Addr × Obj)} {σ : St} {H : Hp} {s : Shared} {a C dx : Addr} {fs : List (Str × V)} {f : Str} {v : V} {A : Around} {E : Value → Shared → Prop}

end

/-! ### readings and rules -/
section
variable {X : Cx} {o e value : Expr} {f : Str} {pos pos' tpos : Pos} {ta tv : TE}
end

/-! ### isinstance -/
section
variable {X : Cx} {pins : List (Addr × Obj)} {σ : St} {H : Hp} {s : Shared} {A : Around} {E : Value → Shared → Prop} {Q : Value → Shared → Prop} {c : Value} {b : Bool}
end
end L2

namespace L2
open PySem PySem.Spec PyProof.Rows

/-! ### room -/
/-! ### argument lists and displays -/
section
variable {X : Cx} {e : Expr} {es : List Expr} {te : TE} {t : TA} {pos : Pos}
end

/-! ### what a def promises -/
section
variable {X : Cx} {pins : List (Addr × Obj)} {σ : St} {H : Hp} {s s' : Shared}
end

/-! ### calls -/
section
variable {X : Cx} {CX : CXT} {k : Nat} {f C : Addr} {fd : FuncData} {ps : List Str} {sp : Sp} {dvs : List V} {ds : List Value} {E : XK} {x m : Str} {p pos apos : Pos} {e o : Expr} {es : List Expr} {ta : TE} {t : TA}

end

/-! ### keywords -/
section
variable {X : Cx} {CX : CXT} {k : Nat} {f C : Addr} {fd : FuncData} {ps ks : List Str} {sp : Sp} {E : XK} {x m : Str} {p pos apos kpos : Pos} {e o : Expr} {es : List Expr} {kws : List Keyword} {te ta : TE} {t tk : TA} {nm : Option Str}
variable {g : List Value → List Value → List Value} {gV : List V → List V → List V}
end

/-! ### a def's body keeps its promise -/
end L2

namespace L2
open PySem PySem.Spec PyProof.Rows
section
variable {X : Cx} {x : Str} {p pos : Pos} {e : Expr} {es : List Expr} {t : TA} {id T : String} {r : List V → Hp → VK → Prop}

end
end L2

namespace L2
open PySem PySem.Spec PyProof.Rows

/-! ### lists of pairs as tables -/
section
variable {κ : Type} [DecidableEq κ]
theorem RelO.isSome_eq {o : Option V} {u : Option Value} (r : RelO o u) : o.isSome = u.isSome := by
  cases o with
  | none => cases u with
    | none => rfl
    | some _ => exact (show False from r).elim
  | some _ => cases u with
    | none => exact (show False from r).elim
    | some _ => rfl
end


/-! ### a tracked dict, its keys ints and texts or tuples of these -/
theorem kV_is {P : Program} {w : World} {k : Key} {u : Value} (r : RelV (kV k) u) : (mixKind P w).is k u = true := by
  cases k with
  | inl i => obtain ⟨t, e⟩ := (show ∃ t, u = Value.int i t from r); subst e; exact mixKind_int P w i t
  | inr x => obtain ⟨t, e⟩ := (show ∃ t, u = Value.str x t from r); subst e; exact mixKind_str P w x t
theorem items_are {P : Program} {w : World} : ∀ {ks : List Key} {us : List Value}, Vals (ks.map kV) us → ItemsAre (mixKind P w) ks us
  | [], _, r => by rw [List.map_nil] at r; cases r; exact .nil
  | k :: ks, _, r => by
    rw [List.map_cons] at r
    cases r with
    | cons h t => exact .cons (kV_is h) (items_are t)

section
variable {P : Program} {w : World} {H : Hp} {h : Heap} {a : Addr}
end

section
variable {X : Cx} {pins : List (Addr × Obj)} {σ : St} {H : Hp} {s : Shared} {a : Addr} {y v : V} {u r : Value} {o : Option V} {A : Around} {E : Value → Shared → Prop}

theorem Inv.big (I : Inv X pins σ H s) : sysModules < s.heap.objs.size := by
  have h : mainGlobals < s.heap.objs.size := (I.mod.glob.keeps I.bk).lt
  exact Nat.lt_trans (by decide) h

/-- a dict's object is replaced -/
theorem d_write {h' : Heap} {t' : Nat} {ob : HO} (I : Inv X pins σ H s) (mu : Mut (H a)) (hs : Heap.SameBut a s.heap h') (he : ∃ q, h'.get? a = some q) (new : ObjOk X.prog X.w (upd H a ob) h' a ob) :
    Inv X pins σ (upd H a ob) { s with heap := h', toks := t' } :=
  I.write (x := a) (e := a) mu (.inl rfl) (fun b q hb z => (hs.2 b hb).trans z) he new
end

section
variable {X : Cx} {pins : List (Addr × Obj)} {σ : St} {H : Hp} {s : Shared} {a : Addr} {kvs : List (Key × V)} {k : Key} {u : Value} {A : Around} {E : Value → Shared → Prop}
end


/-! ### readings and rules -/
/-- the element of a subscription, not a slice -/
def NoSl (i : Expr) : Prop := ∀ ov iv, subscripted i false ov iv = operate [ov, iv] (getItem ov iv)
theorem subD_of {prog : Program} {w : World} {A : Around} {E : Value → Shared → Prop} {s : Shared} {env : Env} {value slice : Expr} {pos : Pos} {T id : String} {Q : Value → Shared → Prop}
    (hl : typeLookup (.type T) "__getitem__" = pure (some (.builtin id))) (hs : NoSl slice)
    (h : wpAny (model prog w) A (eval value env) (fun o s₁ => wpAny (model prog w) A (eval slice env) (fun i s₂ => s₂.TypeIs o T ∧ wpAny (model prog w) A (getItem o i) Q E s₂) E s₁) E s) :
    wpAny (model prog w) A (eval (.Subscript value slice pos) env) Q E s := by
  refine Subscript_ (wpAny_mono h (fun o s₁ h₁ => wpAny_mono h₁ (fun i s₂ h₂ => ?_) fun _ _ x => x) fun _ _ x => x)
  obtain ⟨hT, h₂⟩ := h₂
  unfold subscriptTail
  refine wpAny_bind ?_
  rw [getitemInPython_of_ne hT.not_modules]
  refine wpAny_bind (wpAny_specialOf hT hl ?_)
  have fin : wpAny (model prog w) A (subscripted slice false o i) (fun r s₃ => wpAny (model prog w) A (letTemporaryGo value o r >>= fun _ => pure r) Q E s₃) E s₂ := by
    rw [hs o i]
    exact wpAny_operating (wpAny_mono h₂ (fun r s₃ h₃ => wpAny_bind (wpAny_letTemporaryGo (wpAny_pure h₃))) fun _ _ x => x)
  first
    | exact wpAny_pure (wpAny_bind fin)
    | exact wpAny_bind (wpAny_pure (wpAny_bind fin))
    | exact wpAny_bind fin

section
variable {X : Cx} {o i e value : Expr} {pos pos' tpos : Pos} {td ty tv : TE}
end


/-! ### displays -/
theorem dk_empty {P : Program} {w : World} {H : Hp} (h : Heap) (hb : sysModules < h.objs.size) : ObjOk P w H (h.push { cls := .type "dict", data := .dict #[] }) h.objs.size (.dK []) :=
  ⟨Nat.zero_le _, beq_eq_false_iff_ne.mpr (Ne.symm (Nat.ne_of_lt hb)), [], .nil, Heap.DictOf.new h⟩
/-- {}, to be a dict of the kind that is wanted -/
def tDNewK : TE := fun _ H Q => ∀ p, H p = none → Q (.ref p) (upd H p (.dK []))
section
variable {X : Cx} {pos : Pos}
theorem pe_dnewK : PE X (.Dict [] [] pos) tDNewK := fun pins s σ H Q I h =>
  wpAny_Dict_empty ⟨.ref s.heap.objs.size, _, I.laid (a := s.heap.objs.size) (o := .dK []) (t' := s.toks) (fun _ _ q => Heap.get?_push_of_some _ q) (Nat.le_refl _) (dk_empty s.heap I.big), rfl, h _ (I.hok.fresh (Nat.le_refl _))⟩
end

/-! ### methods -/
/-- a method call o.m(e) of a built-in, with one argument: what must be seen of the text -/
structure M1 (X : Cx) (o : Expr) (m : Str) (apos : Pos) (e : Expr) (cpos : Pos) : Prop where
  base : attributeBase o m X.env (eval o X.env) = eval o X.env
  few : ((backTo cpos (starEach [e] X.env)).all (fun x => !x.1) && (backToKw cpos (keywordEach [] X.env)).all (fun x => x.1.isSome)
    && decide (([e] : List Expr).length + ([] : List Keyword).length + (if ([] : List Keyword).isEmpty then 0 else 1) < 30)) = true
  line : (apos.endLine == cpos.line) = true
  trees : backTo cpos (starEach [e] X.env) = [(false, eval e X.env)]
structure M2 (X : Cx) (o : Expr) (m : Str) (apos : Pos) (e f : Expr) (cpos : Pos) : Prop where
  base : attributeBase o m X.env (eval o X.env) = eval o X.env
  few : ((backTo cpos (starEach [e, f] X.env)).all (fun x => !x.1) && (backToKw cpos (keywordEach [] X.env)).all (fun x => x.1.isSome)
    && decide (([e, f] : List Expr).length + ([] : List Keyword).length + (if ([] : List Keyword).isEmpty then 0 else 1) < 30)) = true
  line : (apos.endLine == cpos.line) = true
  trees : backTo cpos (starEach [e, f] X.env) = [(false, eval e X.env), (false, eval f X.env)]

section
variable {X : Cx} {pins : List (Addr × Obj)} {σ : St} {H : Hp} {s : Shared} {a : Addr} {y d : V} {u r : Value} {o : Option V} {A : Around} {E : Value → Shared → Prop}
end

section
variable {X : Cx} {o e f : Expr} {apos cpos : Pos} {td ty tx : TE}
end

/-! ### dict(d): a copy -/
section
variable {X : Cx} {pins : List (Addr × Obj)} {σ : St} {H : Hp} {s : Shared} {a : Addr} {kvs : List (Key × V)} {A : Around} {E : Value → Shared → Prop}
end


section
variable {X : Cx} {pins : List (Addr × Obj)} {σ : St} {H : Hp} {s : Shared} {a : Addr} {y : V} {u : Value} {A : Around} {E : Value → Shared → Prop}
end
end L2

namespace Att
open PySem PySem.W PySem.Calls PyProof.Rows

/-! ### the script -/
/-! ### the attachment: holds_open's last premise (the goal 'hc' behind k_head) from a wpAny of the law's body -/
/-! ### rules over ANY heap (no ledger) from facts about the written part K: the library's own take a ledger (News) for what they write -/
section
variable {prog : Program} {w : World} {A : Around} {E : Value → Shared → Prop} {s : Shared} {K : Frag}

/-! the whole heap as the ledger: makes every rule that writes through a ledger a rule over any heap -/
end
end Att

namespace L2
open PySem PySem.Spec PyProof.Rows

end L2

namespace L2
open PySem PySem.Spec PyProof.Rows

end L2

/- THE LAST THEOREM (shape; LID, My.* are yours):
   My.Adr: a structure of the addresses that your layer names (classes, functions); My.Txt K t: a structure (Prop) of the equations over K;
   My.txt_mk : {K} {implicit addresses ..} (e1 : nsIn K mainGlobals "law" = some (some (.ref f))) (e2 : K.lookup f = some ⟨oc, od, .func (fnOf "law" "law" params body scope dV kV doc pm an cdv ct), sl⟩) (e3 : codeIn K cdv "law" = true) .. : ∃ t, My.Txt K t

set_option maxRecDepth 100000 in
set_option maxHeartbeats 0 in
theorem PySem.Challenge.cw_LID_holds : PySem.Challenge.rw_LID.Holds := by
  w_on; o_law; k_head; (case hw => w_witness2)
  k_fill
  refine L2.walk_of (l := PySem.Challenge.rw_LID) (n := 63) (k := 40) (x := "script") (CX := fun w => ..) (sp := fun _ => My.sp_law) rfl (by decide) rfl ⟨rfl, by decide, by decide⟩ (fun w h Y => PySem.W.kIn_of Y) ?F ?S ?C
  case F =>
    intro w mg fa h KX G hmg
    have T : ∃ t, My.Txt (L2.KOf KX) t := by
      dsimp only [L2.KOf]                          -- K must stand as «<heap const> w.params» for k_is
      refine' My.txt_mk ?e1 ?e2 ?e3 ..
      (case e1 => PySem.W.k_is)                    -- in the order: a name -> its address -> its object -> its parts
      (case e2 => PySem.W.k_is)
      ..
    obtain ⟨t, T⟩ := T
    have e0 := hmg.symm.trans (PySem.W.mg_of KX G T.law)
    cases e0                                       -- fa is the law's own address
    exact ⟨_, fun s u => .of_eq rfl, fun base kb nb => My.law_fn T kb nb⟩     -- if «.of_eq rfl» comes too early: refine' ⟨_, ?b, fun base kb nb => My.law_fn T kb nb⟩; exact fun s u => .of_eq rfl
  case S => exact fun w H a ns hl hO hS => ..
  case C => exact ..
(the tactic k_is has no namespace: write k_is) -/

/-! SHORT WORDS over the layer: a def of the text, its body, what a loop and a test want. -/
namespace L2
open PySem PySem.Spec PyProof.Rows

/-! ### the text by places -/
/-! ### no exception leaves a def -/
/-! ### a def (or method) of the text as it stands behind the top -/
section
variable {P : Program} {w : World} {K : PySem.W.Frag} {mg : Str → Option Value} {base : Heap}
end
/-! ### expressions in short: the name that stands in the i-th slot -/
section
variable {X : Cx}
end

/-! ### tests -/
/-! ### heaps -/
/-! ### a dict's pairs: keys that differ -/
section
variable {κ : Type} [DecidableEq κ]
end
end L2


set_option Elab.async false
set_option linter.all false
set_option maxRecDepth 100000
set_option maxHeartbeats 4000000
namespace L3
open PySem PySem.Spec PyProof.Rows L2
section
variable {X : Cx} {K : PySem.W.Frag}
/-! ### x in a list, by data -/
def rInB (K : PySem.W.Frag) (neg : Bool) : R2 := fun x y H Q => ∃ ds d, Dp K H y (.list ds) ∧ Dp K H x d ∧ PyData.canLayAll0 ds = true ∧ d.canLay0 = true ∧ d.depth ≤ 190 ∧ Q (.bl (if neg then !(ds.any fun z => PyData.eqv z d) else ds.any fun z => PyData.eqv z d)) H
theorem op_notInB (hK : X.K = K) (hu : X.A.units + 195 < cLine) : OpR X (compareOp .NotIn) (rInB K true) := by
  subst hK
  intro pins s σ H x y u v Q I rx ry h
  obtain ⟨ds, d, hy, hx, c1, c2, dp, q⟩ := h
  obtain ⟨as, a⟩ := hy.reads I ry
  obtain ⟨bs, b⟩ := hx.reads I rx
  exact SeqAt.notIn_list_reads a b c1 c2 (by have := Nat.min_le_right (PyData.depthAll ds) d.depth; omega) ⟨.bl _, H, I, rfl, q⟩
/-! ### sets of ints -/
end
/-! ### sentences whose tuples are all the heap's -/
def ShH (H : Hp) (a : Addr) (vs : List V) : Lb → Prop
  | .yes => vs = [] ∧ H a = some (.tup [.str "yes"])
  | .sign s => vs = [] ∧ H a = some (.tup [.str "sign", .str s])
  | .op w => H a = some (.tup (.str w :: vs))
  | .wit m => H a = some (.tup (.str "within" :: .int m :: vs))
  | .many w => ∃ b, H a = some (.tup [.str w, .ref b]) ∧ H b = some (.tup vs)
def TAt : Nat → Hp → V → Tr → Prop
  | 0, _, _, _ => False
  | n + 1, H, v, t => ∃ a vs, v = .ref a ∧ ShH H a vs t.lb ∧ lbOk t.lb t.ks.length ∧ vs.length = t.ks.length ∧ ∀ (i : Nat) u k, vs[i]? = some u → t.ks[i]? = some k → TAt n H u k
def SameU (H H' : Hp) : Prop := ∀ a xs, H a = some (.tup xs) → H' a = some (.tup xs)
theorem Same.u {H H' : Hp} (s : Same H H') : SameU H H' := fun a xs e => s _ _ e
theorem SameX.u {p : Addr} {H H' : Hp} {o : HO} (s : SameX p H H') (hp : H p = some o) (ho : ∀ xs, o ≠ .tup xs) : SameU H H' := fun a xs e => s _ _ (fun z => by rw [z, hp] at e; cases e; exact ho _ rfl) e
def TAtL (n : Nat) (H : Hp) (vs : List V) (ts : List Tr) : Prop := vs.length = ts.length ∧ ∀ (i : Nat) u k, vs[i]? = some u → ts[i]? = some k → TAt n H u k
end L3

set_option Elab.async false
set_option linter.all false
set_option maxRecDepth 100000
set_option maxHeartbeats 4000000
namespace L3
open PySem PySem.Spec PyProof.Rows L2
/-! ### each only once -/
section
open Classical
end
/-! ### what stands in it, not within some -/

/-! ### gone through with a stack -/
end L3

set_option Elab.async false
set_option linter.all false
set_option maxRecDepth 100000
set_option maxHeartbeats 4000000
namespace L3
open PySem PySem.Spec PyProof.Rows L2
/-! ### rows with numbers -/
def nK (is : List Nat) : List Key := is.map fun (i : Nat) => (Sum.inl ((i : Nat) : Int) : Key)
def keyOf : Lb → List Nat → List Key
  | .yes, _ => [.inr "yes"]
  | .sign z, _ => [.inr "sign", .inr z]
  | .wit m, is => .inr "within" :: .inl m :: nK is
  | .op w, is => .inr w :: nK is
  | .many w, is => .inr w :: nK is
def IsRow (ps : List Tr) (t : Tr) (ks : List Key) : Prop := ∃ is : List Nat, is.length = t.ks.length ∧ (∀ (j : Nat) k i, t.ks[j]? = some k → is[j]? = some i → ps[i]? = some k) ∧ ks = keyOf t.lb is
/-! ### the dict of rows -/
def numR : Nat → List (List Key) → List (List Key × V)
  | _, [] => []
  | n, k :: r => (k, .int (n : Int)) :: numR (n + 1) r
/-! ### a table -/
structure TbAt (C : Addr) (H : Hp) (r P R D : Addr) (ps : List Tr) : Prop where
  obj : ∃ dx, H r = some (.ins C dx [("parts", .ref P), ("rows", .ref R), ("numbers", .ref D)])
  pl : ∃ n pv, H P = some (.lst pv) ∧ TAtL n H pv ps
  rl : ∃ rv rks, H R = some (.lst rv) ∧ rv.length = ps.length ∧ rks.length = ps.length ∧ (∀ (i : Nat) v ks, rv[i]? = some v → rks[i]? = some ks → ∃ b, v = .ref b ∧ H b = some (.tup (ks.map kV))) ∧ (∀ (i : Nat) t ks, ps[i]? = some t → rks[i]? = some ks → IsRow ps t ks) ∧ H D = some (.dT (numR 0 rks))
  nd : ps.Nodup
  pr : P ≠ R
end L3
namespace L3
open PySem L2
end L3

set_option Elab.async false
set_option linter.all false
set_option maxRecDepth 100000
set_option maxHeartbeats 4000000
namespace L3
open PySem PySem.Spec PyProof.Rows L2
/-! ### a dict with tuples of ints and texts as keys, of the heap or of the module -/
abbrev XE := List (List Key × Addr × V)
abbrev XPr : XE → List (List Key × Addr × Value) → Prop := Paired fun p q => p.1 = q.1 ∧ p.2.1 = q.2.1 ∧ RelV p.2.2 q.2.2
def DxAt (Pm : Params) (a : Addr) (es : XE) (h : Heap) : Prop := es.length ≤ sizeLine ∧ (a == sysModules) = false ∧ ∃ (P : Program) (w : World) (xs : List (List Key × Addr × Value)), w.params = Pm ∧ XPr es xs ∧
  ∃ o fs ep, h.get? a = some o ∧ o.ExactDict ∧ o.data = .dict fs ep ∧ fs.toList = xs.map (entryOfKey (tupleKind (mixKind P w))) ∧ (xs.map (·.1)).Nodup
def DxO (Pm : Params) (a : Addr) (es : XE) : HO := .ext (DxAt Pm a es)
section
variable {X : Cx} {pins : List (Addr × Obj)} {σ : L3.St} {H : Hp} {s : Shared} {a : Addr} {y v : V} {u r : Value} {o : Option V} {A : Around} {E : Value → Shared → Prop} {Pm : Params}
theorem key_ofK {ks : List Key} {b : Addr} (I : L2.Inv X pins σ H s) (e : SqT X.K H b (ks.map kV)) : (tupleKind (mixKind X.prog X.w)).is s.heap ks b := by
  obtain ⟨its, r, t, _⟩ := I.tuple e
  obtain ⟨o, h1, h2, n, h3⟩ := t
  exact ⟨o, its.toArray, n, h1, h2, h3, by simpa using items_are r⟩
end
section
variable {X : Cx} {K : PySem.W.Frag} {o i e value : Expr} {pos pos' : Pos} {td ty tv : TE} {Pm : Params}
end
end L3

set_option Elab.async false
set_option linter.all false
set_option maxRecDepth 100000
set_option maxHeartbeats 4000000
namespace L3
open PySem PySem.Spec PyProof.Rows L2
/-! ### how many different parts a core has -/
end L3

set_option Elab.async false
set_option linter.all false
set_option maxRecDepth 100000
set_option maxHeartbeats 4000000
namespace L3
open PySem PySem.Spec PyProof.Rows L2
/-! ### a table, its rows of the heap or of the module -/
def numX : Nat → List (List Key × Addr) → XE
  | _, [] => []
  | n, e :: r => (e.1, e.2, .int (n : Int)) :: numX (n + 1) r
structure TbK (K : PySem.W.Frag) (Pm : Params) (C : Addr) (H : Hp) (r P R D : Addr) (ps : List Tr) : Prop where
  obj : ∃ dx, H r = some (.ins C dx [("parts", .ref P), ("rows", .ref R), ("numbers", .ref D)])
  pl : ∃ n pv, H P = some (.lst pv) ∧ AtL K n H pv ps
  rl : ∃ rows : List (List Key × Addr), H R = some (.lst (rows.map fun e => .ref e.2)) ∧ rows.length = ps.length ∧ (∀ e ∈ rows, SqT K H e.2 (e.1.map kV)) ∧ (∀ (i : Nat) t e, ps[i]? = some t → rows[i]? = some e → IsRow ps t e.1) ∧ H D = some (DxO Pm D (numX 0 rows))
  nd : ps.Nodup
  pr : P ≠ R
variable {K : PySem.W.Frag} {Pm : Params}
section
variable {X : Cx}
end
end L3

set_option Elab.async false
set_option linter.all false
set_option maxRecDepth 100000
set_option maxHeartbeats 4000000
namespace L3
open PySem PySem.Spec PyProof.Rows
/-! ### a sort whose comparisons all answer gives the same things in some order -/
def CmpOk (prog : Program) (w : World) (A : Around) (k : SortKind) (s : Shared) (xs : Array Keyed) : Prop :=
  ∀ p ∈ xs.toList, ∀ q ∈ xs.toList, ∀ (E : Value → Shared → Prop) (Q : Bool → Shared → Prop), (∀ b, Q b s) → wpAny (model prog w) A (keyLt' k p.1 q.1) Q E s
structure PBase (k : SortKind) (a₀ : Array Keyed) (st : SortSt) : Prop where
  perm : (arrOf st).Perm a₀
  kind : kindOf st = k
  failed : failedOf st = none
  pend : pendingOf st = #[]
theorem PBase.size {k : SortKind} {a₀ : Array Keyed} {st : SortSt} (h : PBase k a₀ st) : (arrOf st).size = a₀.size := h.perm.size_eq
theorem PBase.set {k : SortKind} {a₀ : Array Keyed} {st : SortSt} (h : PBase k a₀ st) {xs : Array Keyed} (hp : xs.Perm (arrOf st)) : PBase k a₀ (setArr st xs) :=
  ⟨hp.trans h.perm, h.kind, h.failed, h.pend⟩
section
variable {prog : Program} {w : World} {A : Around} {E : Value → Shared → Prop} {s : Shared} {a₀ : Array Keyed} {k : SortKind}
theorem wpS_ltP {st : SortSt} {i j : Nat} {Q : Option Bool → SortSt → Prop} (hC : CmpOk prog w A k s a₀) (hB : PBase k a₀ st) (hi : i < a₀.size) (hj : j < a₀.size) (h : ∀ b, Q (some b) st) :
    wpS (model prog w) A E s (ltAt' i j) Q st := by
  have at_ : ∀ {i : Nat}, i < a₀.size → ∃ p, (arrOf st)[i]? = some p ∧ p ∈ a₀.toList := fun {i} hi => by
    have hi' : i < (arrOf st).size := by rw [hB.size]; exact hi
    exact ⟨(arrOf st)[i], getElem?_pos _ i hi', (Array.perm_iff_toList_perm.mp hB.perm).mem_iff.mp (by simp)⟩
  obtain ⟨p, hp, mp⟩ := at_ hi
  obtain ⟨q, hq, mq⟩ := at_ hj
  rw [ltAt'_eq]
  refine wpS_bind (wpS_get ?_)
  show wpS _ _ _ _ (do let x ← elem' (arrOf st) i; let y ← elem' (arrOf st) j; lt' x y) Q st
  rw [elem'_eq, elem'_eq, hp, hq]
  refine wpS_bind (wpS_pure (wpS_bind (wpS_pure ?_)))
  rw [lt'_eq]
  refine wpS_bind (wpS_get ?_)
  rw [hB.kind]
  refine wpS_bind (wpS_lift (wpAny_attempt (hC p mp q mq _ _ fun b => ⟨rfl, ?_⟩)))
  exact wpS_pure (h b)
theorem wpS_binarySortP {st : SortSt} {n ok : Nat} {Q : Bool → SortSt → Prop} (hC : CmpOk prog w A k s a₀) (hn : n ≤ a₀.size) (hok : ok ≤ n) (hB : PBase k a₀ st)
    (h : ∀ st', PBase k a₀ st' → Q true st') : wpS (model prog w) A E s (binarySort' 0 n ok) Q st := by
  rw [binarySort'_eq]
  simp only [Nat.zero_add]
  refine wpS_bind (wpS_mono (wpS_forRange (I := fun _ c st' => c = (none, ()) ∧ PBase k a₀ st') (Q := fun c st' => c = (none, ()) ∧ PBase k a₀ st') ?step (fun _ _ z => z) ⟨rfl, hB⟩) ?post)
  case post =>
    rintro c st' ⟨rfl, hB'⟩
    exact wpS_pure (h st' hB')
  case step =>
    rintro i c st' hak hkn ⟨rfl, hB'⟩
    refine wpS_bind (wpS_mono (wpS_forRange (I := fun x c st'' => st'' = st' ∧ ∃ l r, c = (none, l, r) ∧ r ≤ i) (Q := fun c st'' => st'' = st' ∧ ∃ l r, c = (none, l, r)) ?istep ?ifin ⟨rfl, 0, i, rfl, Nat.le_refl _⟩) ?ipost)
    case ifin =>
      rintro c st'' ⟨rfl, l, r, rfl, _⟩
      exact ⟨rfl, l, r, rfl⟩
    case istep =>
      rintro x c st'' _ hxk ⟨rfl, l, r, rfl, hr⟩
      dsimp only
      by_cases hge : l ≥ r
      · rw [if_pos hge]
        exact wpS_pure ⟨rfl, l, r, rfl⟩
      · rw [if_neg hge]
        refine wpS_bind (wpS_ltP hC hB' (by omega) (by omega) fun b => ?_)
        cases b
        case true =>
          simp only [if_true]
          exact wpS_pure ⟨rfl, l, (l + r) / 2, rfl, by omega⟩
        case false =>
          simp only [Bool.false_eq_true, if_false]
          exact wpS_pure ⟨rfl, (l + r) / 2 + 1, r, rfl, hr⟩
    case ipost =>
      rintro c st'' ⟨rfl, l, r, rfl⟩
      show wpS _ _ _ _ (do moveDown' i l; pure (ForInStep.yield (none, ()))) _ _
      rw [moveDown'_eq]
      exact wpS_bind (wpS_modify (wpS_pure ⟨rfl, hB'.set (bubble_perm _ _ _)⟩))
theorem wpS_ascLoopP {st : SortSt} {a nrem : Nat} {Q : AscSt → SortSt → Prop} (hC : CmpOk prog w A k s a₀) (hn : nrem ≤ a₀.size) (ha : 1 ≤ a) (han : a ≤ nrem) (hB : PBase k a₀ st)
    (h : ∀ n, a ≤ n → n ≤ nrem → Q (none, n) st) : wpS (model prog w) A E s (ascLoop a nrem) Q st := by
  unfold ascLoop
  refine wpS_forRange (I := fun x c st' => st' = st ∧ c = (none, x)) ?step ?fin ⟨rfl, rfl⟩
  case fin =>
    rintro c st' ⟨rfl, rfl⟩
    rw [show max a nrem = nrem by omega]
    exact h nrem han (Nat.le_refl _)
  case step =>
    rintro x c st' hax hxn ⟨rfl, rfl⟩
    dsimp only
    refine wpS_bind (wpS_ltP hC hB (by omega) (by omega) fun b => ?_)
    cases b
    case true => simp only [if_true]; exact wpS_pure (h x hax (by omega))
    case false => simp only [Bool.false_eq_true, if_false]; exact wpS_pure ⟨rfl, rfl⟩
theorem wpS_tail3P {st : SortSt} {n nrem : Nat} {Q : Option Nat → SortSt → Prop} (hC : CmpOk prog w A k s a₀) (hn : nrem ≤ a₀.size) (h1 : 1 ≤ n) (hnn : n ≤ nrem) (hB : PBase k a₀ st)
    (h : ∀ m st', PBase k a₀ st' → 1 ≤ m → m ≤ nrem → Q (some m) st') : wpS (model prog w) A E s (tail3 n nrem) Q st := by
  unfold tail3
  refine wpS_bind (wpS_reverse ?_)
  have hB' : PBase k a₀ (setArr st (mirror (arrOf st) 0 n ((n - 0) / 2))) := hB.set (mirror_perm _ _ _ _)
  exact wpS_bind (wpS_ascLoopP hC hn h1 hnn hB' fun m hm1 hm2 => wpS_pure (h m _ hB' (by omega) hm2))
theorem wpS_descLoopP {st : SortSt} {n nrem : Nat} {Q : DescSt → SortSt → Prop} (hC : CmpOk prog w A k s a₀) (hn : nrem ≤ a₀.size) (h1 : 1 ≤ n) (hnn : n ≤ nrem) (hB : PBase k a₀ st)
    (h : ∀ m neq st', PBase k a₀ st' → n ≤ m → m ≤ nrem → Q (none, m, neq) st') : wpS (model prog w) A E s (descLoop n nrem) Q st := by
  unfold descLoop
  refine wpS_forRange (I := fun x c st' => ∃ neq, c = (none, x, neq) ∧ PBase k a₀ st') ?step ?fin ⟨0, rfl, hB⟩
  case fin =>
    rintro c st' ⟨neq, rfl, hB'⟩
    rw [show max n nrem = nrem by omega]
    exact h nrem neq st' hB' hnn (Nat.le_refl _)
  case step =>
    rintro x c st' hax hxn ⟨neq, rfl, hB'⟩
    dsimp only
    refine wpS_bind (wpS_ltP hC hB' (by omega) (by omega) fun b => ?_)
    cases b
    case true =>
      simp only [if_true]
      by_cases hneq : neq > 0
      · rw [if_pos hneq]
        exact wpS_bind (wpS_reverse (wpS_pure ⟨0, rfl, hB'.set (mirror_perm _ _ _ _)⟩))
      · rw [if_neg hneq]
        exact wpS_pure ⟨0, rfl, hB'⟩
    case false =>
      simp only [Bool.false_eq_true, if_false]
      refine wpS_bind (wpS_ltP hC hB' (by omega) (by omega) fun b => ?_)
      cases b
      case true => simp only [if_true]; exact wpS_pure (h x neq st' hB' hax (by omega))
      case false => simp only [Bool.false_eq_true, if_false]; exact wpS_pure ⟨neq + 1, rfl, hB'⟩
theorem wpS_descPartP {st : SortSt} {n nrem : Nat} {Q : Option Nat → SortSt → Prop} (hC : CmpOk prog w A k s a₀) (hn : nrem ≤ a₀.size) (hnn : n + 1 ≤ nrem) (hB : PBase k a₀ st)
    (h : ∀ m st', PBase k a₀ st' → 1 ≤ m → m ≤ nrem → Q (some m) st') : wpS (model prog w) A E s (descPart n nrem) Q st := by
  unfold descPart
  refine wpS_bind (wpS_lift (wpAny_rule ⟨rfl, ?_⟩))
  refine wpS_bind (wpS_descLoopP hC hn (by omega) hnn hB fun m neq st' hB' hm1 hm2 => ?_)
  dsimp only
  by_cases hneq : neq > 0
  · rw [if_pos hneq]
    exact wpS_bind (wpS_reverse (wpS_tail3P hC hn (by omega) hm2 (hB'.set (mirror_perm _ _ _ _)) h))
  · rw [if_neg hneq]
    exact wpS_tail3P hC hn (by omega) hm2 hB' h
theorem wpS_countRunP {st : SortSt} {nrem : Nat} {Q : Option Nat → SortSt → Prop} (hC : CmpOk prog w A k s a₀) (hn : nrem ≤ a₀.size) (h1 : 1 ≤ nrem) (hB : PBase k a₀ st)
    (h : ∀ m st', PBase k a₀ st' → 1 ≤ m → m ≤ nrem → Q (some m) st') : wpS (model prog w) A E s (countRun' 0 nrem) Q st := by
  rw [countRun0_eq]
  refine wpS_bind (wpS_ascLoopP hC hn (Nat.le_refl 1) h1 hB fun n hn1 hn2 => ?_)
  dsimp only
  by_cases hnn : n = nrem
  · rw [if_pos (by simpa using hnn)]
    exact wpS_pure (h n st hB hn1 hn2)
  · rw [if_neg (by simpa using hnn)]
    by_cases hgt : n > 1
    · rw [if_pos hgt]
      refine wpS_bind (wpS_ltP hC hB (by omega) (by omega) fun b => ?_)
      cases b
      case true => simp only [if_true]; exact wpS_pure (h n st hB hn1 hn2)
      case false =>
        simp only [Bool.false_eq_true, if_false]
        exact wpS_bind (wpS_reverse (wpS_descPartP hC hn (by omega) (hB.set (mirror_perm _ _ _ _)) h))
    · rw [if_neg hgt]
      exact wpS_descPartP hC hn (by omega) hB h
def PDone (a₀ : Array Keyed) (st : SortSt) : Prop := (arrOf st).Perm a₀ ∧ failedOf st = none ∧ pendingOf st = #[(0, a₀.size, 0)]
theorem PBase.done {st : SortSt} (hB : PBase k a₀ st) : PDone a₀ (setPending st ((pendingOf st).push (0, a₀.size, 0))) :=
  ⟨hB.perm, hB.failed, by show (pendingOf st).push _ = _; rw [hB.pend]; rfl⟩
theorem wpS_sortRunsP {st : SortSt} {Q : Unit → SortSt → Prop} (hC : CmpOk prog w A k s a₀) (hB : PBase k a₀ st) (h2 : 2 ≤ a₀.size) (h64 : a₀.size < 64)
    (h : ∀ st', (arrOf st').Perm a₀ → failedOf st' = none → Q () st') : wpS (model prog w) A E s sortRuns' Q st := by
  rw [sortRuns'_eq]
  refine wpS_bind (wpS_get ?_)
  dsimp only
  have hmr : minRun' a₀.size a₀.size 0 = a₀.size := by
    obtain ⟨f, hf⟩ : ∃ f, a₀.size = f + 1 := ⟨a₀.size - 1, by omega⟩
    have : minRun' (f + 1) a₀.size 0 = a₀.size := by rw [minRun'_succ, if_pos h64]; rfl
    rwa [← hf] at this
  simp only [hB.size, hmr]
  refine wpS_bind (wpS_mono (wpS_forRange
    (I := fun x c st' => (x = 0 ∧ c = (none, 0) ∧ PBase k a₀ st') ∨ (1 ≤ x ∧ c = (none, a₀.size) ∧ PDone a₀ st'))
    (Q := fun c st' => c = (none, a₀.size) ∧ PDone a₀ st') ?step ?fin (.inl ⟨rfl, rfl, hB⟩)) ?post)
  case fin =>
    rintro c st' (⟨hx, _, _⟩ | ⟨_, hc, hD⟩)
    · omega
    · exact ⟨hc, hD⟩
  case step =>
    rintro x c st' _ hx (⟨rfl, rfl, hB'⟩ | ⟨hx1, rfl, hD⟩)
    · dsimp only
      rw [if_neg (by omega)]
      simp only [Nat.sub_zero, Nat.min_self, Nat.zero_add]
      refine wpS_bind (wpS_countRunP hC (Nat.le_refl _) (by omega) hB' fun m st2 hB2 hm1 hm2 => ?_)
      dsimp only
      by_cases hlt : m < a₀.size
      · rw [if_pos hlt]
        refine wpS_bind (wpS_lift (wpAny_rule ⟨rfl, ?_⟩))
        refine wpS_bind (wpS_binarySortP hC (Nat.le_refl _) hm2 hB2 fun st3 hB3 => ?_)
        simp only [Bool.not_true, Bool.false_eq_true, if_false]
        refine wpS_bind (wpS_get ?_)
        have hb : (pendingOf st3).back? = none := by rw [hB3.pend]; rfl
        rw [hb]
        dsimp only
        exact wpS_bind (wpS_modify (wpS_pure (.inr ⟨by omega, rfl, hB3.done⟩)))
      · rw [if_neg hlt]
        have hm : m = a₀.size := by omega
        subst hm
        refine wpS_bind (wpS_get ?_)
        have hb : (pendingOf st2).back? = none := by rw [hB2.pend]; rfl
        rw [hb]
        dsimp only
        exact wpS_bind (wpS_modify (wpS_pure (.inr ⟨by omega, rfl, hB2.done⟩)))
    · dsimp only
      rw [if_pos (Nat.le_refl _)]
      exact wpS_pure ⟨rfl, hD⟩
  case post =>
    rintro c st' ⟨rfl, hD⟩
    dsimp only
    refine wpS_bind (wpS_mono (wpS_forRange (I := fun _ c st'' => st'' = st' ∧ c = (none, ())) (Q := fun c st'' => st'' = st' ∧ c = (none, ())) ?_ (fun _ _ hh => hh) ⟨rfl, rfl⟩) ?_)
    · rintro x c st'' _ _ ⟨rfl, rfl⟩
      refine wpS_bind (wpS_get ?_)
      rw [if_pos (by rw [hD.2.2]; exact Nat.le_refl 1)]
      exact wpS_pure ⟨rfl, rfl⟩
    · rintro c st'' ⟨rfl, rfl⟩
      exact wpS_pure (h _ hD.1 hD.2.1)
/-- what a sort of vs needs at the state s -/
def SortOk (prog : Program) (w : World) (A : Around) (vs : List Value) (s : Shared) : Prop :=
  2 ≤ vs.length → ∀ (E : Value → Shared → Prop) (Q : SortKind → Shared → Prop), (∀ k, CmpOk prog w A k s (pairsOf vs) → Q k s) → wpAny (model prog w) A (keyKind' vs.toArray) Q E s
theorem list_sort_treeP {a : Addr} {vs : List Value} {n : Nat} {P : Fin → Shared → Prop} (ho : s.heap.get? a = some (seqObj "list" vs.toArray n))
    (hq : ∀ h', (∀ b o, b ≠ a → s.heap.get? b = some o → h'.get? b = some o) → SortOk prog w A vs { s with heap := h' }) (h64 : vs.length < 64)
    (h : ∀ out : List Value, out.Perm vs → P (.done (.ret .none)) { s with heap := sortedHeap s.heap a vs out.toArray }) :
    wpAny (model prog w) A (Builtin.«list.sort» ⟨[.ref a], []⟩) P E s := by
  rw [list_sort_plain]
  have ha : a < s.heap.objs.size := Heap.lt_size ho
  refine wpAny_bind (listItems_at ho rfl ?_)
  refine wpAny_bind (listUpdate_at ho rfl ?_)
  obtain ⟨e1, ho1⟩ : ∃ e1, (s.heap.update a (Obj.mapSeq fun _ => #[])).get? a = some (seqObj "list" #[] e1) := ⟨_, get?_update_seq ho (fun _ => #[])⟩
  refine wpAny_bind (seqEpoch_at ho1 rfl ?_)
  refine wpAny_bind (wpAny_newTuple ?_)
  refine wpAny_bind (wpAny_newList ?_)
  refine wpAny_holding ?_
  have ho6 : (((s.heap.update a (Obj.mapSeq fun _ => #[])).push (seqObj "tuple" vs.toArray 0)).push (seqObj "list" #[] 0)).get? a = some (seqObj "list" #[] e1) := by
    rw [Heap.get?_push_ne _ _ _ (by rw [size_push', Heap.size_update]; exact Nat.ne_of_lt (Nat.lt_succ_of_lt ha)), Heap.get?_push_ne _ _ _ (by rw [Heap.size_update]; exact Nat.ne_of_lt ha)]
    exact ho1
  have keep : ∀ b o, b ≠ a → s.heap.get? b = some o → (((s.heap.update a (Obj.mapSeq fun _ => #[])).push (seqObj "tuple" vs.toArray 0)).push (seqObj "list" #[] 0)).get? b = some o := by
    intro b o hb z
    have hb' : b < s.heap.objs.size := Heap.lt_size z
    rw [Heap.get?_push_ne _ _ _ (by rw [size_push', Heap.size_update]; exact Nat.ne_of_lt (Nat.lt_succ_of_lt hb')), Heap.get?_push_ne _ _ _ (by rw [Heap.size_update]; exact Nat.ne_of_lt hb'), Heap.get?_update_other _ _ (Ne.symm hb)]
    exact z
  have hk := hq _ keep
  show wpAny (model prog w) A _ P E { s with heap := ((s.heap.update a (Obj.mapSeq fun _ => #[])).push (seqObj "tuple" vs.toArray 0)).push (seqObj "list" #[] 0) }
  dsimp only
  have hsz : vs.toArray.size = vs.length := by simp
  have outs : ∀ st' : SortSt, (arrOf st').Perm (pairsOf vs) → (((arrOf st').map (·.2)).toList).Perm vs := by
    intro st' hp
    have := (Array.perm_iff_toList_perm.mp hp).map Prod.snd
    rw [Array.toList_map]
    refine this.trans (List.Perm.of_eq ?_)
    show List.map Prod.snd (vs.toArray.zip vs.toArray).toList = vs
    rw [Array.toList_zip, List.map_snd_zip (Nat.le_refl _)]
  have fin : ∀ st' : SortSt, (arrOf st').Perm (pairsOf vs) → P (.done (.ret .none)) { s with heap := sortedHeap s.heap a vs ((arrOf st').map (·.2)) } := by
    intro st' hp
    have := h _ (outs st' hp)
    rw [Array.toArray_toList] at this
    exact this
  by_cases h2 : vs.toArray.size < 2
  · rw [if_pos h2, if_pos h2]
    refine wpAny_bind (wpAny_pure ?_)
    rw [StateT.run_pure]
    refine wpAny_bind (wpAny_pure ?_)
    dsimp only
    refine wpAny_bind (seqEpoch_at ho6 rfl ?_)
    refine wpAny_bind (listUpdate_at ho6 rfl ?_ (hsz2 := by rw [Array.size_map]; show (pairsOf vs).size ≤ _; rw [pairsOf_size, sizeLine_eq]; omega))
    simp only [bne_self_eq_false, Bool.false_eq_true, if_false]
    exact wpAny_pure (fin (SortSt.mk' general' (vs.toArray.zip vs.toArray) #[] 7 none) (Array.Perm.refl _))
  · rw [if_neg h2, if_neg h2]
    refine wpAny_bind (hk (by omega) _ _ fun k hC => ?_)
    refine wpAny_bind (wpAny_mono (wpS_sortRunsP (k := k) (a₀ := pairsOf vs) (st := SortSt.mk' k (vs.toArray.zip vs.toArray) #[] 7 none)
      (Q := fun _ st' => (arrOf st').Perm (pairsOf vs) ∧ failedOf st' = none)
      hC ⟨Array.Perm.refl _, rfl, rfl, rfl⟩ (by rw [pairsOf_size]; omega) (by rw [pairsOf_size]; exact h64) fun st' a1 a2 => ⟨a1, a2⟩) ?_ fun _ _ e => e)
    rintro ⟨⟨⟩, st'⟩ s' ⟨rfl, hp, hf⟩
    dsimp only
    refine wpAny_bind (seqEpoch_at ho6 rfl ?_)
    refine wpAny_bind (listUpdate_at ho6 rfl ?_ (hsz2 := by refine Nat.le_trans (Nat.le_of_eq ((Array.size_map ..).trans (hp.size_eq.trans (pairsOf_size _)))) ?_; rw [sizeLine_eq]; omega))
    rw [hf]
    simp only [bne_self_eq_false, Bool.false_eq_true, if_false]
    exact wpAny_pure (fin st' hp)
end
end L3

set_option Elab.async false
set_option linter.all false
set_option maxRecDepth 100000
set_option maxHeartbeats 4000000
namespace L3
open PySem PySem.Spec PyProof.Rows
/-! ### comparisons that answer, whatever they answer -/
def EqAny (prog : Program) (w : World) (n : Nat) (s : Shared) (x y : Value) : Prop :=
  ∀ (A : Around) (E : Value → Shared → Prop) (Q : Bool → Shared → Prop), A.units + n < cLine → (∀ b, Q b s) → wpAny (model prog w) A (eqBool x y) Q E s
def LtAny (prog : Program) (w : World) (n : Nat) (s : Shared) (x y : Value) : Prop :=
  ∀ (A : Around) (E : Value → Shared → Prop) (Q : Value → Shared → Prop), A.units + n < cLine → (∀ b, Q (.bool b) s) → wpAny (model prog w) A (richCompare .Lt x y) Q E s
def TupIs (s : Shared) (a : Addr) (xs : List Value) : Prop := ∃ o n, s.heap.get? a = some o ∧ o.cls = .type "tuple" ∧ o.data = .seq xs.toArray n
theorem TupIs.typeIs {s : Shared} {a : Addr} {xs : List Value} (h : TupIs s a xs) : s.TypeIs (.ref a) "tuple" := let ⟨o, _, ho, hc, _⟩ := h; ⟨o, ho, hc⟩
section
variable {prog : Program} {w : World} {n : Nat} {s : Shared} {A : Around} {E : Value → Shared → Prop}
theorem EqAny.int (a b : Int) (t u : Tok) : EqAny prog w n s (.int a t) (.int b u) := fun A E Q _ h => wpAny_eqBool_int (h _)
theorem EqAny.str (a b : Str) (t u : Tok) : EqAny prog w n s (.str a t) (.str b u) := fun A E Q _ h => wpAny_eqBool_str (h _)
theorem EqAny.bool (a b : Bool) : EqAny prog w n s (.bool a) (.bool b) := fun A E Q _ h => PySem.SeqAt.EqAt.bool_bool a b prog w E Q (h _)
theorem LtAny.int (a b : Int) (t u : Tok) : LtAny prog w n s (.int a t) (.int b u) := fun A E Q _ h => wpAny_lt_int (h _)
theorem LtAny.str (a b : Str) (t u : Tok) : LtAny prog w n s (.str a t) (.str b u) := fun A E Q _ h =>
  wpAny_richCompare_same (op := .Lt) (T := "str") (typeIs_str s a t) (typeIs_str s b u) slot_str_lt (call_str_lt ⟨by simp, h _⟩)
theorem LtAny.bool (a b : Bool) : LtAny prog w n s (.bool a) (.bool b) := fun A E Q _ h =>
  wpAny_richCompare_same (op := .Lt) (T := "bool") rfl rfl F.slot_bool_lt
    (wpAny_call_entry F.slot_bool_lt rfl entry_int_lt
      (by cases a <;> cases b <;> exact (show wpAny _ _ (ret (.bool _)) _ _ s from wpAny_pure ⟨_, rfl, by simp, h _⟩)) (args_int_lt _ _))
theorem tup_eq_tree {a b : Addr} {xs ys : List Value} {P : Fin → Shared → Prop} (hu : A.units + n < cLine) (hx : TupIs s a xs) (hy : TupIs s b ys) (he : ∀ p ∈ xs.zip ys, EqAny prog w n s p.1 p.2)
    (h : ∀ b, P (.done (.ret (.bool b))) s) : wpAny (model prog w) A (Builtin.«tuple.__eq__» ⟨[.ref a, .ref b], []⟩) P E s := by
  have hTb := hy.typeIs
  obtain ⟨oa, na, hoa, _, hda⟩ := hx
  obtain ⟨ob, nb, hob, _, hdb⟩ := hy
  show wpAny _ _ (isInstance (.ref b) (.type "tuple") >>= _) _ _ s
  refine wpAny_bind (wpAny_isInstance hTb isSubtype_tuple_tuple ?_)
  simp only [Bool.not_true, Bool.false_eq_true, if_false]
  refine wpAny_bind (wpAny_tupleItemsOf hoa hda ?_)
  refine wpAny_bind (wpAny_tupleItemsOf hob hdb ?_)
  refine wpAny_bind ?_
  refine wpAny_forIn_list _ (fun rest r s' => r.1 = none ∧ s' = s ∧ ∀ p ∈ rest, EqAny prog w n s p.1 p.2) _ ?_ ?_ _ _ ⟨rfl, rfl, he⟩
  · rintro ⟨u, v⟩ rest r s' ⟨hr, rfl, ha⟩
    refine wpAny_bind (ha (u, v) List.mem_cons_self A _ _ hu fun b => ?_)
    cases b
    · simp only [Bool.not_false, if_true]
      exact wpAny_bind (wpAny_pure (wpAny_pure (wpAny_pure (h false))))
    · simp only [Bool.not_true, Bool.false_eq_true, if_false]
      exact wpAny_pure ⟨rfl, rfl, fun p hp => ha p (List.mem_cons_of_mem _ hp)⟩
  · rintro ⟨r1, r2⟩ s' ⟨hr, rfl, _⟩
    simp only at hr
    subst hr
    exact wpAny_pure (h _)
theorem EqAny.tup {a b : Addr} {xs ys : List Value} (hx : TupIs s a xs) (hy : TupIs s b ys) (he : ∀ p ∈ xs.zip ys, EqAny prog w n s p.1 p.2) : EqAny prog w (n + 1) s (.ref a) (.ref b) := by
  intro A E Q hu h
  unfold eqBool
  try with_reducible refine wpAny_holding ?_
  show wpAny _ _ (if (Value.ref a == Value.ref b) = true then _ else _) Q E s
  by_cases hab : (Value.ref a == Value.ref b) = true
  · rw [if_pos hab]
    exact wpAny_bind (wpAny_rule (wpAny_pure (h true)))
  · rw [if_neg hab]
    exact wpAny_bind (wpAny_richCompare_same_room (op := .Eq) hx.typeIs hy.typeIs F.slot_tuple_eq
      (wpAny_call_entry F.slot_tuple_eq hx.typeIs F.entry_tuple_eq (tup_eq_tree (n := n) (by simp only [Around.in1_units]; omega) hx hy he fun b => ⟨_, rfl, (fun e => nomatch e), wpAny_truthy_bool (h b)⟩) (F.args_tuple_eq_2 _ _)) (by omega))
theorem tup_lt_tree {a b : Addr} {xs ys : List Value} {P : Fin → Shared → Prop} (hu : A.units + n < cLine) (hx : TupIs s a xs) (hy : TupIs s b ys) (he : ∀ p ∈ xs.zip ys, EqAny prog w n s p.1 p.2 ∧ LtAny prog w n s p.1 p.2)
    (h : ∀ b, P (.done (.ret (.bool b))) s) : wpAny (model prog w) A (Builtin.«tuple.__lt__» ⟨[.ref a, .ref b], []⟩) P E s := by
  have hTb := hy.typeIs
  obtain ⟨oa, na, hoa, _, hda⟩ := hx
  obtain ⟨ob, nb, hob, _, hdb⟩ := hy
  show wpAny _ _ (isInstance (.ref b) (.type "tuple") >>= _) _ _ s
  refine wpAny_bind (wpAny_isInstance hTb isSubtype_tuple_tuple ?_)
  simp only [Bool.not_true, Bool.false_eq_true, if_false]
  refine wpAny_bind (wpAny_tupleItemsOf hoa hda ?_)
  refine wpAny_bind (wpAny_tupleItemsOf hob hdb ?_)
  refine wpAny_bind ?_
  refine wpAny_forIn_list _ (fun rest r s' => r.1 = none ∧ s' = s ∧ ∀ p ∈ rest, EqAny prog w n s p.1 p.2 ∧ LtAny prog w n s p.1 p.2) _ ?_ ?_ _ _ ⟨rfl, rfl, he⟩
  · rintro ⟨u, v⟩ rest r s' ⟨hr, rfl, ha⟩
    obtain ⟨e1, e2⟩ := ha (u, v) List.mem_cons_self
    refine wpAny_bind (e1 A _ _ hu fun b => ?_)
    cases b
    · simp only [Bool.not_false, if_true]
      refine wpAny_bind (wpAny_rule (wpAny_bind (e2 A _ _ hu fun b => ?_)))
      exact wpAny_bind (wpAny_pure (wpAny_pure (wpAny_pure (h b))))
    · simp only [Bool.not_true, Bool.false_eq_true, if_false]
      exact wpAny_pure ⟨rfl, rfl, fun p hp => ha p (List.mem_cons_of_mem _ hp)⟩
  · rintro ⟨r1, r2⟩ s' ⟨hr, rfl, _⟩
    simp only at hr
    subst hr
    exact wpAny_pure (h _)
theorem LtAny.tup {a b : Addr} {xs ys : List Value} (hx : TupIs s a xs) (hy : TupIs s b ys) (he : ∀ p ∈ xs.zip ys, EqAny prog w n s p.1 p.2 ∧ LtAny prog w n s p.1 p.2) : LtAny prog w (n + 1) s (.ref a) (.ref b) := by
  intro A E Q hu h
  exact wpAny_richCompare_same_room (op := .Lt) hx.typeIs hy.typeIs F.slot_tuple_lt
      (wpAny_call_entry F.slot_tuple_lt hx.typeIs F.entry_tuple_lt (tup_lt_tree (n := n) (by simp only [Around.in1_units]; omega) hx hy he fun b => ⟨_, rfl, (fun e => nomatch e), h b⟩) (F.args_tuple_lt_2 _ _)) (by omega)
end
end L3

set_option Elab.async false
set_option linter.all false
set_option maxRecDepth 100000
set_option maxHeartbeats 4000000
namespace L3
open PySem PySem.SetTable
/-! ### a search in a small table comes to an end -/
/-- where the n-th leap lands -/
def lead (mask : Nat) : Nat → Nat × Nat → Nat × Nat
  | 0, p => p
  | n + 1, p => lead mask n (leap mask p.1 p.2)
theorem lead_succ (mask : Nat) : ∀ (n : Nat) (p : Nat × Nat), lead mask (n + 1) p = leap mask (lead mask n p).1 (lead mask n p).2
  | 0, p => rfl
  | n + 1, p => lead_succ mask n (leap mask p.1 p.2)
theorem lead_perturb (mask : Nat) : ∀ (n : Nat) (p : Nat × Nat), (lead mask n p).2 = p.2 / 32 ^ n
  | 0, p => by simp [lead]
  | n + 1, p => by
    rw [lead_succ]
    show (lead mask n p).2 / 32 = _
    rw [lead_perturb, Nat.div_div_eq_div_mul, Nat.pow_succ]
def stepZ (mask i : Nat) : Nat := (i * 5 + 1) % (mask + 1)
def stepsZ (mask : Nat) : Nat → Nat → Nat
  | 0, i => i
  | n + 1, i => stepZ mask (stepsZ mask n i)
theorem lead_zero (mask : Nat) {p : Nat × Nat} (hp : p.2 < 2 ^ 64) : ∀ m, (lead mask (13 + m) p).1 = stepsZ mask m (lead mask 13 p).1
  | 0 => rfl
  | m + 1 => by
    rw [← Nat.add_assoc, lead_succ]
    have h0 : (lead mask (13 + m) p).2 / 32 = 0 := by
      rw [lead_perturb]
      have : p.2 / 32 ^ (13 + m) = 0 := by
        apply Nat.div_eq_of_lt
        have : 32 ^ 13 ≤ 32 ^ (13 + m) := Nat.pow_le_pow_right (by decide) (by omega)
        have : (2 : Nat) ^ 64 < 32 ^ 13 := by decide
        omega
      rw [this]
    show ((lead mask (13 + m) p).1 * 5 + 1 + (lead mask (13 + m) p).2 / 32) % (mask + 1) = _
    rw [h0, lead_zero mask hp m]
    rfl
def coverAll (mask : Nat) : Bool := (List.range (mask + 1)).all fun i => (List.range (mask + 1)).all fun j => (List.range (mask + 1)).any fun m => stepsZ mask m i == j
theorem cover7 : coverAll 7 = true := by decide +kernel
theorem cover31 : coverAll 31 = true := by decide +kernel
theorem lead_lt (mask : Nat) (n : Nat) (p : Nat × Nat) : (lead mask (n + 1) p).1 < mask + 1 := by
  rw [lead_succ]; exact Nat.mod_lt _ (Nat.succ_pos _)
theorem cover {mask : Nat} (hc : coverAll mask = true) {p : Nat × Nat} (hp : p.2 < 2 ^ 64) {j : Nat} (hj : j ≤ mask) : ∃ n, 1 ≤ n ∧ n < turns mask ∧ (lead mask n p).1 = j := by
  unfold coverAll at hc
  have h1 := List.all_eq_true.mp hc _ (List.mem_range.mpr (lead_lt mask 12 p))
  have h2 := List.all_eq_true.mp h1 j (List.mem_range.mpr (by omega))
  obtain ⟨m, hm, e⟩ := List.any_eq_true.mp h2
  refine ⟨13 + m, by omega, ?_, ?_⟩
  · have := List.mem_range.mp hm
    unfold turns; omega
  · rw [lead_zero mask hp]; simpa using e
section
variable {t : SetTable} {hashAt : Nat → Int} {h : Int}
def Pl (p : Probe) : Nat × Nat := (p.i, p.perturb)
theorem run_le (mask i : Nat) : runEnd mask i - i ≤ 9 := by unfold runEnd; split <;> omega
theorem slot_nodummy (hd : t.dummies = #[]) (j : Nat) : t.slot j ≠ .dummy := by
  unfold SetTable.slot
  have : SetTable.has t.dummies j = false := by rw [hd]; rfl
  simp only [this]
  split <;> simp
/-- a step that does not end there -/
theorem go_step (hd : t.dummies = #[]) {f : Nat} {p : Probe} (hg : probe.go t hashAt h (f + 1) p = none) : t.slot p.j ≠ .empty ∧ probe.go t hashAt h f (t.advance p) = none := by
  unfold probe.go at hg
  cases hs : t.slot p.j with
  | empty => rw [hs] at hg; simp at hg
  | dummy => exact absurd hs (slot_nodummy hd _)
  | live i =>
    rw [hs] at hg
    refine ⟨by simp, ?_⟩
    simp only at hg
    split at hg
    · simp at hg
    · exact hg
theorem go_mono (hd : t.dummies = #[]) : ∀ {f f' : Nat} {p : Probe}, f' ≤ f → probe.go t hashAt h f p = none → probe.go t hashAt h f' p = none
  | _, 0, p, _, _ => rfl
  | 0, f' + 1, p, hf, _ => by omega
  | f + 1, f' + 1, p, hf, hg => by
    obtain ⟨h1, h2⟩ := go_step hd hg
    have ih := go_mono hd (f' := f') (by omega) h2
    unfold probe.go at hg ⊢
    cases hs : t.slot p.j with
    | empty => exact absurd hs h1
    | dummy => exact absurd hs (slot_nodummy hd _)
    | live i =>
      rw [hs] at hg
      simp only at hg ⊢
      split at hg
      · simp at hg
      · rename_i hne; rw [if_neg hne]; exact ih
/-- to the end of the run -/
theorem go_run (hd : t.dummies = #[]) : ∀ {m f : Nat} {p : Probe}, p.more = m → probe.go t hashAt h (f + m + 1) p = none →
    ∃ q : Probe, q.more ≤ 9 ∧ Pl q = leap t.mask p.i p.perturb ∧ q.j = q.i ∧ probe.go t hashAt h f q = none
  | 0, f, p, hm, hg => by
    obtain ⟨_, h2⟩ := go_step hd hg
    refine ⟨t.advance p, ?_, ?_, ?_, h2⟩
    all_goals (unfold advance; rw [if_neg (by omega)])
    · exact run_le _ _
    · rfl
  | m + 1, f, p, hm, hg => by
    obtain ⟨_, h2⟩ := go_step (f := f + m + 1) hd hg
    have e : t.advance p = { p with j := p.j + 1, more := p.more - 1 } := by unfold advance; rw [if_pos (by omega)]
    rw [e] at h2
    obtain ⟨q, a, b, c, d⟩ := go_run (m := m) (p := { p with j := p.j + 1, more := p.more - 1 }) hd (by simp only; omega) h2
    exact ⟨q, a, b, c, d⟩
theorem go_leads (hd : t.dummies = #[]) : ∀ {k : Nat} {p : Probe}, p.more ≤ 9 → probe.go t hashAt h (10 * k) p = none → ∀ n, 1 ≤ n → n < k → t.slot (lead t.mask n (Pl p)).1 ≠ .empty
  | 0, p, _, _, n, _, hn => by omega
  | k + 1, p, hp, hg, n, h1, hn => by
    obtain ⟨q, a, b, c, d⟩ := go_run (f := 10 * k + (9 - p.more)) (m := p.more) (p := p) hd rfl (by rw [show 10 * k + (9 - p.more) + p.more + 1 = 10 * (k + 1) by omega]; exact hg)
    have d' := go_mono hd (f' := 10 * k) (by omega) d
    obtain ⟨n, rfl⟩ : ∃ n', n = n' + 1 := ⟨n - 1, by omega⟩
    show t.slot (lead t.mask n (leap t.mask (Pl p).1 (Pl p).2)).1 ≠ .empty
    have e : leap t.mask (Pl p).1 (Pl p).2 = Pl q := b.symm
    rw [e]
    by_cases h0 : n = 0
    · subst h0
      have hk : 1 ≤ k := by omega
      obtain ⟨k', rfl⟩ : ∃ k', k = k' + 1 := ⟨k - 1, by omega⟩
      have := (go_step (f := 10 * k' + 9) hd d').1
      rw [c] at this
      exact this
    · exact go_leads hd a d' n (by omega) (by omega)
/-- a search that starts anywhere meets something -/
theorem probe_some (hd : t.dummies = #[]) (hc : coverAll t.mask = true) {j : Nat} (hj : j ≤ t.mask) (he : t.slot j = .empty) {p : Probe} (hp : p.more ≤ 9) (hq : p.perturb < 2 ^ 64) :
    ∃ m, t.probe hashAt h p = some m := by
  cases hg : t.probe hashAt h p with
  | some m => exact ⟨m, rfl⟩
  | none =>
    obtain ⟨n, h1, h2, e⟩ := cover hc (p := Pl p) hq hj
    have := go_leads hd hp hg n h1 h2
    rw [e] at this
    exact absurd he this
end
theorem nodup_lenN : ∀ {l₁ l₂ : List Nat}, l₁.Nodup → (∀ x ∈ l₁, x ∈ l₂) → l₁.length ≤ l₂.length
  | [], _, _, _ => by simp
  | x :: r, l₂, nd, h => by
    obtain ⟨h1, h2⟩ := List.nodup_cons.mp nd
    have hx := h x (by simp)
    have := nodup_lenN (l₂ := l₂.erase x) h2 fun y hy => (List.mem_erase_of_ne (fun e => h1 (by rw [← e]; exact hy))).mpr (h y (List.mem_cons_of_mem _ hy))
    rw [List.length_erase_of_mem hx] at this
    have := List.length_pos_of_mem hx
    rw [List.length_cons]
    omega
/-- a table that is not full has an empty slot -/
theorem slot_free {t : SetTable} (hd : t.dummies = #[]) (hf : t.place.size ≤ t.mask) : ∃ j, j ≤ t.mask ∧ t.slot j = .empty := by
  apply Classical.byContradiction
  intro hn
  have all : ∀ j ∈ List.range (t.mask + 1), j ∈ t.place.toList := by
    intro j hj
    have hj' : j ≤ t.mask := by have := List.mem_range.mp hj; omega
    cases hs : t.slot j with
    | empty => exact absurd ⟨j, hj', hs⟩ hn
    | dummy => exact absurd hs (slot_nodummy hd _)
    | live i =>
      unfold SetTable.slot at hs
      simp only at hs
      split at hs
      · rename_i he
        have he' : t.place[below t.place j]? = some j := by simpa using he
        have := Array.mem_of_getElem? he'
        simpa using this
      · split at hs <;> simp at hs
  have := nodup_lenN List.nodup_range all
  rw [List.length_range] at this
  simp at this
  omega
/-- laying anew: each finds a free place -/
theorem free_some {mask : Nat} {owner : Array (Option Nat)} : ∀ {k i perturb : Nat}, layClean.free mask owner k i perturb = none → ∀ n, n < k → (owner.getD (lead mask n (i, perturb)).1 (some 0)).isNone = false
  | 0, i, p, _, n, hn => by omega
  | k + 1, i, p, hg, n, hn => by
    unfold layClean.free at hg
    cases hf : (List.range (runEnd mask i + 1 - i)).find? fun k => (owner.getD (i + k) (some 0)).isNone with
    | some k => rw [hf] at hg; simp at hg
    | none =>
      rw [hf] at hg
      simp only at hg
      cases n with
      | zero =>
        have h0 : 0 ∈ List.range (runEnd mask i + 1 - i) := by
          rw [List.mem_range]; unfold runEnd; split <;> omega
        have := List.find?_eq_none.mp hf 0 h0
        exact Bool.eq_false_iff.mpr this
      | succ n => exact free_some (i := (leap mask i p).1) (perturb := (leap mask i p).2) hg n (by omega)
theorem free_ok {mask : Nat} (hc : coverAll mask = true) {owner : Array (Option Nat)} {j : Nat} (hj : j ≤ mask) (he : (owner.getD j (some 0)).isNone = true) {i perturb : Nat} (hp : perturb < 2 ^ 64) :
    ∃ r, layClean.free mask owner (turns mask) i perturb = some r := by
  cases hg : layClean.free mask owner (turns mask) i perturb with
  | some r => exact ⟨r, rfl⟩
  | none =>
    obtain ⟨n, _, h2, e⟩ := cover hc (p := (i, perturb)) hp hj
    have := free_some hg n h2
    rw [e, he] at this
    exact absurd this (by simp)
end L3

set_option Elab.async false
set_option linter.all false
set_option maxRecDepth 100000
set_option maxHeartbeats 4000000
namespace L3
open PySem PySem.SetTable
theorem free_is {mask : Nat} {owner : Array (Option Nat)} : ∀ {k i perturb r : Nat}, layClean.free mask owner k i perturb = some r → (owner.getD r (some 0)).isNone = true
  | 0, i, p, r, hg => by simp [layClean.free] at hg
  | k + 1, i, p, r, hg => by
    unfold layClean.free at hg
    cases hf : (List.range (runEnd mask i + 1 - i)).find? fun k => (owner.getD (i + k) (some 0)).isNone with
    | some m =>
      rw [hf] at hg
      simp only [Option.some.injEq] at hg
      subst hg
      have := List.find?_some hf
      exact this
    | none =>
      rw [hf] at hg
      exact free_is (i := (leap mask i p).1) (perturb := (leap mask i p).2) hg
structure Lay (mask : Nat) (owner : Array (Option Nat)) (k : Nat) : Prop where
  size : owner.size = mask + 1
  perm : (owner.toList.filterMap id).Perm (List.range k)
theorem set_perm : ∀ {l : List (Option Nat)} {j k : Nat}, l[j]? = some none → ((l.set j (some k)).filterMap id).Perm (k :: l.filterMap id)
  | [], j, k, h => by simp at h
  | a :: l, 0, k, h => by
    simp at h
    subst h
    simp
  | a :: l, j + 1, k, h => by
    have ih := set_perm (l := l) (j := j) (k := k) (by simpa using h)
    cases a with
    | none => simpa using ih
    | some x =>
      simp only [List.set_cons_succ, List.filterMap_cons, id]
      exact (ih.cons x).trans (List.Perm.swap _ _ _)
theorem Lay.put {mask : Nat} {owner : Array (Option Nat)} {k r : Nat} (h : Lay mask owner k) (hr : (owner.getD r (some 0)).isNone = true) : Lay mask (owner.setIfInBounds r (some k)) (k + 1) := by
  have e : owner[r]? = some none := by
    rw [Array.getD_eq_getD_getElem?] at hr
    cases hh : owner[r]? with
    | none => rw [hh] at hr; simp at hr
    | some x =>
      rw [hh] at hr
      cases x with
      | none => rfl
      | some y => simp at hr
  refine ⟨by rw [Array.size_setIfInBounds]; exact h.size, ?_⟩
  rw [Array.toList_setIfInBounds]
  refine (set_perm (by simpa using e)).trans ?_
  rw [List.range_succ]
  exact ((h.perm.cons k).trans (List.perm_append_singleton k _).symm)
theorem Lay.room {mask : Nat} {owner : Array (Option Nat)} {k : Nat} (h : Lay mask owner k) (hk : k ≤ mask) : ∃ j, j ≤ mask ∧ (owner.getD j (some 0)).isNone = true := by
  apply Classical.byContradiction
  intro hn
  have all : ∀ o ∈ owner.toList, o.isSome = true := by
    intro o ho
    obtain ⟨j, hj, e⟩ := List.getElem_of_mem ho
    cases o with
    | some x => rfl
    | none =>
      have hj' : j < owner.size := by simpa using hj
      refine absurd ⟨j, by have := h.size; omega, ?_⟩ hn
      rw [Array.getD_eq_getD_getElem?, getElem?_pos owner j hj']
      have : owner[j] = none := by rw [← e]; simp
      rw [this]; rfl
  have len : ∀ l : List (Option Nat), (∀ o ∈ l, o.isSome = true) → (l.filterMap id).length = l.length := by
    intro l
    induction l with
    | nil => intro _; rfl
    | cons a l ih =>
      intro h
      have := h a (by simp)
      cases a with
      | none => simp at this
      | some x => simp only [List.filterMap_cons, id, List.length_cons]; rw [ih fun o ho => h o (List.mem_cons_of_mem _ ho)]
  have e1 := h.perm.length_eq
  rw [len _ all, List.length_range] at e1
  have := h.size
  simp at e1
  omega
theorem bits_lt (h : Int) : bits h < 2 ^ 64 := by
  unfold bits
  have h1 := Int.emod_nonneg h (b := 2 ^ 64) (by decide)
  have h2 := Int.emod_lt_of_pos h (b := 2 ^ 64) (by decide)
  omega
theorem fold_lay {mask : Nat} (hc : coverAll mask = true) : ∀ (hs : List Int) {owner : Array (Option Nat)} {k : Nat}, Lay mask owner k → k + hs.length ≤ mask + 1 →
    ∃ owner', (hs.foldl (fun (acc : Option (Array (Option Nat) × Nat)) h => do
      let (owner, k) ← acc
      let j ← layClean.free mask owner (turns mask) (bits h % (mask + 1)) (bits h)
      pure (owner.setIfInBounds j (some k), k + 1)) (some (owner, k))) = some (owner', k + hs.length) ∧ Lay mask owner' (k + hs.length)
  | [], owner, k, L, _ => ⟨owner, rfl, L⟩
  | h :: hs, owner, k, L, hl => by
    rw [List.length_cons] at hl
    obtain ⟨j, hj, he⟩ := L.room (by omega)
    obtain ⟨r, er⟩ := free_ok hc hj he (i := bits h % (mask + 1)) (bits_lt h)
    obtain ⟨o', e, L'⟩ := fold_lay hc hs (L.put (free_is er)) (by omega)
    refine ⟨o', ?_, ?_⟩
    · rw [List.foldl_cons, List.length_cons, show k + (hs.length + 1) = k + 1 + hs.length by omega, ← e]
      congr 1
      show (layClean.free mask owner (turns mask) (bits h % (mask + 1)) (bits h) >>= fun j => pure (owner.setIfInBounds j (some k), k + 1)) = _
      rw [er]; rfl
    · rw [List.length_cons, show k + (hs.length + 1) = k + 1 + hs.length by omega]; exact L'
theorem layClean_ok {mask : Nat} (hc : coverAll mask = true) {hs : Array Int} (hl : hs.size ≤ mask + 1) : ∃ owner, layClean mask hs = some owner ∧ Lay mask owner hs.size := by
  have L0 : Lay mask (Array.replicate (mask + 1) none) 0 := ⟨by simp, by
    rw [Array.toList_replicate]
    have : (List.replicate (mask + 1) (none : Option Nat)).filterMap id = [] := by
      rw [List.filterMap_eq_nil_iff]; intro a ha; rw [List.eq_of_mem_replicate ha]; rfl
    rw [this]; exact List.Perm.refl _⟩
  obtain ⟨o, e, L⟩ := fold_lay hc hs.toList L0 (by simpa using hl)
  refine ⟨o, ?_, by simpa using L⟩
  unfold layClean
  rw [← Array.foldl_toList, e]
  rfl
theorem live_snd {owner : Array (Option Nat)} : ∀ {n : Nat}, owner.size = n → (((List.range n).filterMap fun j => (owner.getD j none).map (j, ·)).map (·.2)) = owner.toList.filterMap id := by
  rintro n rfl
  rw [List.map_filterMap]
  have e : owner.toList = (List.range owner.size).map fun j => owner.getD j none := by
    apply List.ext_getElem
    · simp
    · intro i h1 h2
      have : i < owner.size := by simpa using h1
      simp [Array.getD_eq_getD_getElem?, getElem?_pos owner i this]
  have ff : (fun j => Option.map (·.2) ((owner.getD j none).map (Prod.mk j))) = (id ∘ fun j => owner.getD j none) := by
    funext j
    show Option.map (·.2) ((owner.getD j none).map (Prod.mk j)) = owner.getD j none
    cases owner.getD j none <;> rfl
  rw [e, List.filterMap_map, ← ff]
theorem laid_ok {mask finger moves : Nat} {led plain : Bool} (hc : coverAll mask = true) {hs : Array Int} (hl : hs.size ≤ mask + 1) :
    ∃ t order, laid mask finger moves led plain hs = some (t, order) ∧ t.mask = mask ∧ t.dummies = #[] ∧ t.place.size = hs.size ∧ t.led = led ∧ t.plain = plain ∧ order.toList.Perm (List.range hs.size) := by
  obtain ⟨o, e, L⟩ := layClean_ok hc hl
  refine ⟨_, _, by unfold laid; rw [e]; rfl, rfl, rfl, ?_, rfl, rfl, ?_⟩
  · have := congrArg List.length (live_snd L.size)
    rw [L.perm.length_eq, List.length_range, List.length_map] at this
    simpa using this
  · have : (((List.range (mask + 1)).filterMap fun j => (o.getD j none).map (j, ·)).map (·.2)).Perm (List.range hs.size) := by rw [live_snd L.size]; exact L.perm
    simpa using this
end L3

set_option Elab.async false
set_option linter.all false
set_option maxRecDepth 100000
set_option maxHeartbeats 4000000
namespace L3
open PySem PySem.Spec PyProof.Rows PySem.SetTable
/-- an empty slot is met after at most d further steps -/
def Reach (t : SetTable) : Nat → Probe → Prop
  | 0, p => t.slot p.j = .empty
  | d + 1, p => t.slot p.j = .empty ∨ Reach t d (t.advance p)
section
variable {t : SetTable} {hashAt : Nat → Int} {h : Int}
theorem reach_of (hd : t.dummies = #[]) (hh : ∀ i, (hashAt i == h) = false) : ∀ {f : Nat} {p : Probe} {m : Met}, probe.go t hashAt h (f + 1) p = some m → Reach t f p
  | f, p, m, hg => by
    unfold probe.go at hg
    cases hs : t.slot p.j with
    | empty => cases f with
      | zero => exact hs
      | succ f => exact .inl hs
    | dummy => exact absurd hs (slot_nodummy hd _)
    | live i =>
      rw [hs] at hg
      simp only [hh i, Bool.false_eq_true, if_false] at hg
      cases f with
      | zero => simp [probe.go] at hg
      | succ f => exact .inr (reach_of hd hh hg)
theorem go_reach (hd : t.dummies = #[]) : ∀ {f d : Nat} {p : Probe}, Reach t d p → d < f → ∃ m, probe.go t hashAt h f p = some m ∧
    ((∃ j, m = .empty j p.dummy ∧ t.slot j = .empty) ∨ (∃ j i next, m = .candidate j i next ∧ t.slot j = .live i ∧ next.dummy = p.dummy ∧ ∃ d', d' < d ∧ Reach t d' next))
  | 0, d, p, _, hl => by omega
  | f + 1, d, p, hr, hl => by
    unfold probe.go
    cases hs : t.slot p.j with
    | empty => exact ⟨_, rfl, .inl ⟨_, rfl, hs⟩⟩
    | dummy => exact absurd hs (slot_nodummy hd _)
    | live i =>
      cases d with
      | zero => rw [show t.slot p.j = .empty from hr] at hs; cases hs
      | succ d =>
        have hr' : Reach t d (t.advance p) := by
          rcases hr with z | z
          · rw [z] at hs; cases hs
          · exact z
        have hdm : (t.advance p).dummy = p.dummy := by unfold advance; split <;> rfl
        by_cases he : (hashAt i == h) = true
        · simp only [he, if_true]
          exact ⟨_, rfl, .inr ⟨_, _, _, rfl, hs, hdm, d, by omega, hr'⟩⟩
        · simp only [he, if_false]
          obtain ⟨m, e, q⟩ := go_reach hd (f := f) hr' (by omega)
          refine ⟨m, e, ?_⟩
          rw [hdm] at q
          rcases q with q | ⟨j, i', next, a, b, c, d', h1, h2⟩
          · exact .inl q
          · exact .inr ⟨j, i', next, a, b, c, d', by omega, h2⟩
theorem start_reach (hd : t.dummies = #[]) (hc : coverAll t.mask = true) (hf : t.place.size ≤ t.mask) (h : Int) : Reach t (10 * turns t.mask - 1) (t.probeStart h) := by
  obtain ⟨j, hj, he⟩ := slot_free hd hf
  obtain ⟨m, e⟩ := probe_some (hashAt := fun _ => h + 1) (h := h) hd hc hj he (p := t.probeStart h) (run_le _ _) (bits_lt h)
  refine reach_of (hashAt := fun _ => h + 1) (h := h) (m := m) hd (fun _ => by simp; omega) ?_
  have : 10 * turns t.mask - 1 + 1 = 10 * turns t.mask := by unfold turns; omega
  rw [this]; exact e
theorem slot_live {j i : Nat} (hs : t.slot j = .live i) : i < t.place.size := by
  unfold SetTable.slot at hs
  simp only at hs
  split at hs
  · rename_i he
    simp only [Slot.live.injEq] at hs
    subst hs
    have he' : t.place[below t.place j]? = some j := by simpa using he
    exact (Array.getElem?_eq_some_iff.mp he').1
  · split at hs <;> simp at hs
end
section
variable {prog : Program} {w : World} {n : Nat} {s : Shared} {A : Around} {E : Value → Shared → Prop} {a : Addr} {o : Obj} {es : Array (Int × Value)} {ep : Nat} {t : SetTable} {x : Value} {h : Int} {Q : SetFound → Shared → Prop}
theorem search_add (hu : A.units + n < cLine) (ho : s.heap.get? a = some o) (hd : o.data = .set es ep t) (hf : t.fits es.size = true) (hdm : t.dummies = #[]) (hg : t.gaveWay = false)
    (href : ∀ e ∈ es.toList, ∃ b, e.2 = .ref b) (heq : ∀ e ∈ es.toList, EqAny prog w n s e.2 x)
    (hseen : ∀ l : List Value, (∀ y ∈ l, ∃ e ∈ es.toList, e.2 = y) → ∀ (Q : Bool → Shared → Prop), Q false s → wpAny (model prog w) A (searchCouldBeSeen x l) Q E s)
    (h1 : 0 < es.size → Q (.there none) s) (h2 : ∀ j, t.slot j = .empty → Q (.free j false) s) :
    ∀ (d fuel : Nat) (stand : Option Probe), Reach t d (stand.getD (t.probeStart h)) → d < 10 * turns t.mask → d < fuel → (stand.getD (t.probeStart h)).dummy = none →
      wpAny (model prog w) A (setSearchFrom a x h true fuel stand) Q E s := by
  intro d
  induction d using Nat.strongRecOn with
  | _ d ih =>
    intro fuel stand hr hl hfu hdn
    cases fuel with
    | zero => omega
    | succ fuel =>
      unfold setSearchFrom
      refine wpAny_bind (wpAny_setState_of ho hd hf ?_)
      dsimp only
      rw [hg]
      simp only [Bool.false_eq_true, if_false]
      have key : ∀ hashAt, ∃ m, t.probe hashAt h (stand.getD (t.probeStart h)) = some m ∧
          ((∃ j, m = .empty j none ∧ t.slot j = .empty) ∨ (∃ j i next, m = .candidate j i next ∧ t.slot j = .live i ∧ next.dummy = none ∧ ∃ d', d' < d ∧ Reach t d' next)) := fun hashAt => by
        have := go_reach (hashAt := hashAt) (h := h) hdm hr hl
        rw [hdn] at this
        exact this
      generalize hx : t.probe _ h (stand.getD (t.probeStart h)) = r
      obtain ⟨m, e, q⟩ := key _
      rw [e] at hx
      subst hx
      rcases q with ⟨j, rfl, hj⟩ | ⟨j, i, next, rfl, hs, hnd, d', hd', hr'⟩
      · exact wpAny_pure (h2 j hj)
      · have hi : i < es.size := by
          have h1 := slot_live hs
          simp only [SetTable.fits, Bool.and_eq_true, beq_iff_eq, decide_eq_true_eq] at hf
          omega
        have he : es[i]? = some es[i] := getElem?_pos es i hi
        have hm : es[i] ∈ es.toList := by simp
        obtain ⟨b, hb⟩ := href _ hm
        have hq := heq _ hm
        generalize es[i] = ei at he hm hb hq
        obtain ⟨eh, ev⟩ := ei
        simp only at hb hq
        subst hb
        have sm : t.sameMemory t.moves t.mask = some true := by unfold SetTable.sameMemory; simp
        have self_ : ∀ (P : Bool → Shared → Prop), P true s → wpAny (model prog w) A (isSame (.ref b) (.ref b)) P E s := fun P hP => by
          unfold isSame
          simp only [beq_self_eq_true, if_true]
          exact wpAny_pure hP
        dsimp only
        cases hled : t.led
        · simp only [Bool.not_false, if_true]
          refine wpAny_bind (hseen _ (fun y hy => ?_) _ ?_)
          · obtain ⟨e, he, rfl⟩ := List.mem_map.mp hy
            refine ⟨e, ?_, rfl⟩
            have := Array.mem_toList_iff.mp he
            exact Array.mem_toList_iff.mpr (Array.mem_of_mem_filter this)
          · simp only [Bool.false_eq_true, if_false]
            rw [he]
            dsimp only
            refine wpAny_bind (wpAny_holding (hq A _ _ hu fun b' => ?_))
            refine wpAny_bind (wpAny_setState_of ho hd hf ?_)
            dsimp only
            cases b'
            · simp only [Bool.and_false, Bool.false_eq_true, if_false]
              rw [sm]
              simp only [if_true]
              rw [hs]
              dsimp only
              rw [he]
              dsimp only
              refine wpAny_bind (self_ _ (wpAny_bind (wpAny_pure ?_)))
              simp only [if_true]
              exact ih d' hd' fuel (some next) hr' (by omega) (by omega) hnd
            · simp only [Bool.and_true, if_true]
              exact wpAny_pure (h1 (by omega))
        · simp only [Bool.not_true, Bool.false_eq_true, if_false]
          rw [he]
          dsimp only
          refine wpAny_bind (wpAny_holding (hq A _ _ hu fun b' => ?_))
          refine wpAny_bind (wpAny_setState_of ho hd hf ?_)
          dsimp only
          cases b'
          · simp only [Bool.and_false, Bool.false_eq_true, if_false]
            rw [sm]
            simp only [if_true]
            rw [hs]
            dsimp only
            rw [he]
            dsimp only
            refine wpAny_bind (self_ _ (wpAny_bind (wpAny_pure ?_)))
            simp only [if_true]
            exact ih d' hd' fuel (some next) hr' (by omega) (by omega) hnd
          · simp only [Bool.and_true, if_true]
            exact wpAny_pure (h1 (by omega))
end
end L3

set_option Elab.async false
set_option linter.all false
set_option maxRecDepth 100000
set_option maxHeartbeats 4000000
namespace L3
open PySem PySem.Spec PyProof.Rows PySem.SetTable
def TabOk (t : SetTable) (n : Nat) : Prop := t.dummies = #[] ∧ t.place.size = n ∧ ((t.mask = 7 ∧ n < 5) ∨ (t.mask = 31 ∧ n < 19))
theorem TabOk.fits {t : SetTable} {n : Nat} (h : TabOk t n) : t.fits n = true := by
  obtain ⟨h1, h2, h3⟩ := h
  unfold SetTable.fits SetTable.fill
  rw [h1, h2]
  rcases h3 with ⟨m, l⟩ | ⟨m, l⟩ <;> simp [m] <;> omega
theorem TabOk.cover {t : SetTable} {n : Nat} (h : TabOk t n) : coverAll t.mask = true ∧ t.place.size ≤ t.mask ∧ t.gaveWay = false ∧ 10 * turns t.mask ≤ 460 ∧ 0 < turns t.mask := by
  obtain ⟨h1, h2, h3⟩ := h
  rcases h3 with ⟨m, l⟩ | ⟨m, l⟩
  · rw [m]; exact ⟨cover7, by omega, by unfold SetTable.gaveWay; rw [m]; rfl, by decide, by decide⟩
  · rw [m]; exact ⟨cover31, by omega, by unfold SetTable.gaveWay; rw [m]; rfl, by decide, by decide⟩
theorem insertAt_size {α : Type} (xs : Array α) (p : Nat) (x : α) : (SetTable.insertAt xs p x).size = xs.size + 1 := by
  have := (SetTable.insertAt_perm xs p x).length_eq
  simpa using this
/-- a small set whose things are all among vs -/
def SetW (B : Bool) (h : Heap) (a : Addr) (vs : List Value) : Prop := ∃ o es ep t, h.get? a = some o ∧ o.ExactSet ∧ o.data = .set es ep t ∧ TabOk t es.size ∧ (B = false → t.led = true) ∧ (∀ e ∈ es.toList, e.2 ∈ vs) ∧ es.size ≤ vs.length ∧ (vs ≠ [] → 0 < es.size)
section
variable {prog : Program} {w : World} {n : Nat} {s : Shared} {A : Around} {E : Value → Shared → Prop} {a : Addr} {x : Value} {h : Int} {Q : Bool → Shared → Prop}
theorem store_get {hp : Heap} {o : Obj} {es es' : Array (Int × Value)} {ep : Nat} {t t' : SetTable} (ho : hp.get? a = some o) (hd : o.data = .set es ep t) :
    (hp.update a (Obj.putSet es' t')).get? a = some { o with data := .set es' (ep + 1) t' } := by
  have := Heap.get?_update_self (Obj.putSet es' t') ho (by rw [putSet_of es' t' hd]; rfl)
  rw [putSet_of es' t' hd] at this; exact this
theorem relay_ok {o : Obj} {es : Array (Int × Value)} {ep : Nat} {t : SetTable} {Q : Unit → Shared → Prop} (ho : s.heap.get? a = some o) (hd : o.data = .set es ep t) (hf : t.fits es.size = true) (hn : es.size = 5)
    (hq : ∀ es' t', TabOk t' es'.size → t'.led = t.led → es'.toList.Perm es.toList → Q () { s with heap := s.heap.update a (Obj.putSet es' t') }) :
    wpAny (model prog w) A (setRelay a 20) Q E s := by
  unfold setRelay
  refine wpAny_bind (wpAny_setState_of ho hd hf ?_)
  dsimp only
  have hs : SetTable.sizeAbove 20 = 32 := by decide +kernel
  rw [hs, if_neg (by rw [sizeLine_eq]; omega)]
  obtain ⟨t', order, e, m1, m2, m3, m4, m5, m6⟩ := laid_ok (mask := 31) (finger := t.finger) (moves := t.movedTo 31) (led := t.led) (plain := t.plain) cover31 (hs := es.map (·.1)) (by rw [Array.size_map]; omega)
  have e' : t.relaid (es.map (·.1)) 20 = some (t', order) := by unfold SetTable.relaid; rw [hs]; exact e
  rw [e']
  rw [Array.size_map] at m3 m6
  have pm : (order.filterMap (es[·]?)).toList.Perm es.toList := by
    rw [Array.toList_filterMap]
    refine (m6.filterMap _).trans (List.Perm.of_eq ?_)
    exact filterMap_getElem?_range es
  have sz : (order.filterMap (es[·]?)).size = es.size := by
    have := pm.length_eq
    rwa [Array.length_toList, Array.length_toList] at this
  refine wpAny_bind (show wpAny _ _ (if ((order.filterMap (es[·]?)).size != es.size) = true then _ else pure ((order.filterMap (es[·]?)), t')) _ _ s from ?_)
  rw [if_neg (by simp [sz])]
  refine wpAny_pure ?_
  dsimp only
  exact wpAny_storeSet_of ho hd (hq _ t' ⟨m2, by rw [sz]; exact m3, .inr ⟨m1, by rw [sz]; omega⟩⟩ m4 pm) (by rw [sz, sizeLine_eq]; omega)
theorem add_ref {B : Bool} {b : Addr} {vs : List Value} (hx : x = .ref b) (hu : A.units + n < cLine) (hS : SetW B s.heap a vs) (hl : vs.length + 1 < 19)
    (href : ∀ v ∈ vs, ∃ b, v = .ref b) (heq : ∀ v ∈ vs, EqAny prog w n s v x)
    (hseen : ∀ l : List Value, (∀ y ∈ l, y ∈ vs) → ∀ (Q : Bool → Shared → Prop), Q false s → wpAny (model prog w) A (searchCouldBeSeen x l) Q E s)
    (hbv : ∀ (Q : Bool → Shared → Prop), (∀ b, Q b s) → wpAny (model prog w) A (hashByValue 8 x) Q E s)
    (hq : ∀ h' b, Heap.SameBut a s.heap h' → SetW B h' a (vs ++ [x]) → Q b { s with heap := h' }) : wpAny (model prog w) A (setAddHashed a x h) Q E s := by
  obtain ⟨o, es, ep, t, ho, hex, hd, hT, hL, hin, hle, hne⟩ := hS
  have hf := hT.fits
  obtain ⟨c1, c2, c3, c4, c5⟩ := hT.cover
  unfold setAddHashed setAddHashedIn
  refine wpAny_holding (wpAny_bind (wpAny_setState_of ho hd hf ?_))
  dsimp only
  have hbs : byScan x es = false := by unfold byScan; rw [hx]; rfl
  rw [hbs]
  simp only [Bool.false_eq_true, if_false]
  unfold setSearch
  refine wpAny_bind (search_add hu ho hd hf hT.1 c3 (fun e m => href _ (hin e m)) (fun e m => heq _ (hin e m)) (fun l hy => hseen l fun y m => by obtain ⟨e, m', rfl⟩ := hy y m; exact hin e m') ?there ?free (10 * turns t.mask - 1) 100000 none (start_reach hT.1 c1 c2 h) (by omega) (by omega) rfl)
  case there =>
    intro h0
    dsimp only
    refine wpAny_pure ?_
    have e : s = { s with heap := s.heap } := rfl
    rw [e]
    exact hq s.heap false ⟨rfl, fun _ _ => rfl⟩ ⟨o, es, ep, t, ho, hex, hd, hT, hL, fun e m => List.mem_append_left _ (hin e m), by rw [List.length_append]; omega, fun _ => h0⟩
  case free =>
    intro j hj
    dsimp only
    refine wpAny_bind (wpAny_setState_of ho hd hf ?_)
    dsimp only
    have hdm : (t.put j).1.dummies = #[] := by
      unfold SetTable.put
      simp only
      have : SetTable.has t.dummies j = false := by rw [hT.1]; rfl
      rw [this]
      simp [hT.1]
    have hpl : (t.put j).1.place.size = es.size + 1 := by
      unfold SetTable.put
      simp only
      rw [insertAt_size, hT.2.1]
    have hmk : (t.put j).1.mask = t.mask := rfl
    have hld : (t.put j).1.led = t.led := rfl
    have hpm := SetTable.insertAt_perm es (t.put j).2 (h, x)
    have hsz := insertAt_size es (t.put j).2 (h, x)
    generalize SetTable.insertAt es (t.put j).2 (h, x) = es1 at hpm hsz ⊢
    have hin1 : ∀ e ∈ es1.toList, e.2 ∈ vs ++ [x] := by
      intro e m
      have := hpm.mem_iff.mp m
      rw [Array.toList_push, List.mem_append] at this
      rcases this with m | m
      · exact List.mem_append_left _ (hin e m)
      · rw [List.mem_singleton] at m; subst m; simp
    generalize (t.put j).1 = t1 at hdm hpl hmk hld ⊢
    have rest : ∀ bv : Bool, wpAny (model prog w) A (do
        storeSet a es1 (if bv = true then t1 else { t1 with plain := false })
        if (!false && (if bv = true then t1 else { t1 with plain := false }).tooFull) = true then do
          setRelay a (SetTable.grown (es.size + 1))
          pure true
        else pure true) Q E s := by
      intro bv
      generalize ht2 : (if bv = true then t1 else { t1 with plain := false }) = t2
      have d2 : t2.dummies = #[] := by subst ht2; cases bv <;> exact hdm
      have p2 : t2.place.size = es.size + 1 := by subst ht2; cases bv <;> exact hpl
      have k2 : t2.mask = t.mask := by subst ht2; cases bv <;> exact hmk
      have l2 : t2.led = t.led := by subst ht2; cases bv <;> exact hld
      refine wpAny_bind (wpAny_storeSet_of ho hd ?_ (by rw [hsz, sizeLine_eq]; omega))
      have hg := store_get (es' := es1) (t' := t2) ho hd
      have fill2 : t2.fill = es.size + 1 := by unfold SetTable.fill; rw [d2, p2]; rfl
      have sb : Heap.SameBut a s.heap (s.heap.update a (Obj.putSet es1 t2)) := ⟨Heap.size_update _ _ _, fun b hb => Heap.get?_update_other _ _ (Ne.symm hb)⟩
      by_cases hfull : t2.tooFull = true
      · rw [if_pos (by rw [hfull]; rfl)]
        have h5 : es.size = 4 := by
          unfold SetTable.tooFull at hfull
          rw [fill2, k2] at hfull
          have := of_decide_eq_true hfull
          rcases hT.2.2 with ⟨m, l⟩ | ⟨m, l⟩ <;> rw [m] at this <;> omega
        have hgr : SetTable.grown (es.size + 1) = 20 := by rw [h5]; rfl
        rw [hgr]
        have f2 : t2.fits es1.size = true := by
          unfold SetTable.fits
          rw [fill2, p2, hsz, k2]
          rcases hT.2.2 with ⟨m, l⟩ | ⟨m, l⟩ <;> simp [m] <;> omega
        refine wpAny_bind (relay_ok hg rfl f2 (by rw [hsz, h5]) fun es' t' T' L' P' => wpAny_pure ?_)
        have hg' := store_get (es' := es') (t' := t') hg rfl
        have sz' : es'.size = es1.size := by have := P'.length_eq; rwa [Array.length_toList, Array.length_toList] at this
        refine hq _ true ?_ ⟨_, es', _, t', hg', hex, rfl, T', (fun z => by rw [L', l2]; exact hL z), fun e m => hin1 e (P'.mem_iff.mp m), by rw [sz', hsz, List.length_append]; simp; omega, fun _ => by rw [sz', hsz]; omega⟩
        exact ⟨(Heap.size_update _ _ _).trans sb.1, fun b hb => (Heap.get?_update_other _ _ (Ne.symm hb)).trans (sb.2 b hb)⟩
      · rw [if_neg (by rw [Bool.not_eq_true] at hfull; rw [hfull]; simp)]
        refine wpAny_pure (hq _ true sb ⟨_, es1, _, t2, hg, hex, rfl, ⟨d2, by rw [p2, hsz], ?_⟩, (fun z => by rw [l2]; exact hL z), hin1, by rw [hsz, List.length_append]; simp; omega, fun _ => by rw [hsz]; omega⟩)
        rw [Bool.not_eq_true] at hfull
        unfold SetTable.tooFull at hfull
        rw [fill2, k2] at hfull
        have := of_decide_eq_false hfull
        rw [hsz, k2]
        rcases hT.2.2 with ⟨m, l⟩ | ⟨m, l⟩ <;> rw [m] at this ⊢ <;> omega
    cases hpn : t1.plain
    · simp only [Bool.false_eq_true, if_false]
      exact wpAny_bind (wpAny_pure (rest true))
    · simp only [if_true]
      exact wpAny_bind (hbv _ fun b => rest b)
end
end L3

set_option Elab.async false
set_option linter.all false
set_option maxRecDepth 100000
set_option maxHeartbeats 4000000
namespace L3
open PySem PySem.Spec PyProof.Rows
/-! ### tuples of plain things, and of such tuples: what a set asks of them -/
def HbAny (prog : Program) (w : World) (f : Nat) (s : Shared) (x : Value) : Prop := ∀ (A : Around) (E : Value → Shared → Prop) (Q : Bool → Shared → Prop), (∀ b, Q b s) → wpAny (model prog w) A (hashByValue f x) Q E s
def OaNo (prog : Program) (w : World) (f : Nat) (s : Shared) (x : Value) : Prop := ∀ (A : Around) (E : Value → Shared → Prop) (Q : Bool → Shared → Prop), Q false s → wpAny (model prog w) A (ofAClassStatement f x) Q E s
def Quiet (prog : Program) (w : World) (f : Nat) (s : Shared) (x : Value) : Prop := ∀ (A : Around) (E : Value → Shared → Prop) (Q : Bool → Shared → Prop), Q true s → wpAny (model prog w) A (eqIsQuiet f x) Q E s
def Plain3 (x : Value) : Prop := (∃ a t, x = .int a t) ∨ (∃ a t, x = .str a t) ∨ (∃ b, x = .bool b)
section
variable {prog : Program} {w : World} {f : Nat} {s : Shared} {a : Addr} {xs : List Value} {x : Value}
theorem HbAny.plain (h : Plain3 x) : HbAny prog w f s x := fun A E Q hq => by
  rcases h with ⟨a, t, rfl⟩ | ⟨a, t, rfl⟩ | ⟨b, rfl⟩ <;> (unfold hashByValue; exact wpAny_pure (hq _))
theorem OaNo.plain (h : Plain3 x) : OaNo prog w f s x := fun A E Q hq => by
  rcases h with ⟨a, t, rfl⟩ | ⟨a, t, rfl⟩ | ⟨b, rfl⟩ <;> (unfold ofAClassStatement; exact wpAny_pure hq)
theorem Quiet.plain (h : Plain3 x) : Quiet prog w f s x := fun A E Q hq => by
  rcases h with ⟨a, t, rfl⟩ | ⟨a, t, rfl⟩ | ⟨b, rfl⟩ <;> (rw [eqIsQuiet_byValue _ rfl]; exact wpAny_pure hq)
theorem Quiet.tup (hx : TupIs s a xs) (hy : ∀ y ∈ xs, Quiet prog w f s y) : Quiet prog w (f + 1) s (.ref a) := by
  intro A E Q h
  have hT := hx.typeIs
  obtain ⟨o, n, ho, _, hd⟩ := hx
  unfold eqIsQuiet
  refine wpAny_bind (wpAny_specialOf hT F.slot_tuple_eq.lookup ?_)
  show wpAny _ _ (isInstance (.ref a) (.type "tuple") >>= _) _ _ s
  refine wpAny_bind (wpAny_isInstance hT isSubtype_tuple_tuple ?_)
  simp only [Bool.not_true, Bool.false_eq_true, if_false]
  refine wpAny_bind (wpAny_seqItems ho hd ?_)
  refine wpAny_bind ?_
  rw [← Array.forIn_toList]
  refine wpAny_forIn_list _ (fun rest r s' => r.1 = none ∧ s' = s ∧ ∀ v ∈ rest, Quiet prog w f s v) _ ?_ ?_ _ _ ⟨rfl, rfl, hy⟩
  · rintro v rest r s' ⟨hr, rfl, hall⟩
    refine wpAny_bind (hall v List.mem_cons_self A _ _ ?_)
    simp only [Bool.not_true, Bool.false_eq_true, if_false]
    exact wpAny_pure ⟨rfl, rfl, fun u hu' => hall u (List.mem_cons_of_mem _ hu')⟩
  · rintro ⟨r1, r2⟩ s' ⟨hr, rfl, _⟩
    simp only at hr
    subst hr
    exact wpAny_pure h
theorem OaNo.tup (hx : TupIs s a xs) (hy : ∀ y ∈ xs, OaNo prog w f s y) : OaNo prog w (f + 1) s (.ref a) := by
  intro A E Q h
  have hT := hx.typeIs
  obtain ⟨o, n, ho, _, hd⟩ := hx
  unfold ofAClassStatement
  refine wpAny_bind (wpAny_typeOf hT ?_)
  dsimp only
  have e : ("tuple" == "tuple") = true := rfl
  simp only [e, if_true]
  refine wpAny_bind (wpAny_pure ?_)
  simp only [Bool.not_true, Bool.false_eq_true, if_false]
  refine wpAny_bind (wpAny_seqItems ho hd ?_)
  dsimp only
  refine wpAny_bind ?_
  rw [← Array.forIn_toList]
  refine wpAny_forIn_list _ (fun rest r s' => r.1 = none ∧ s' = s ∧ ∀ v ∈ rest, OaNo prog w f s v) _ ?_ ?_ _ _ ⟨rfl, rfl, hy⟩
  · rintro v rest r s' ⟨hr, rfl, hall⟩
    refine wpAny_bind (hall v List.mem_cons_self A _ _ ?_)
    simp only [Bool.false_eq_true, if_false]
    exact wpAny_pure ⟨rfl, rfl, fun u hu' => hall u (List.mem_cons_of_mem _ hu')⟩
  · rintro ⟨r1, r2⟩ s' ⟨hr, rfl, _⟩
    simp only at hr
    subst hr
    exact wpAny_pure h
theorem HbAny.tup (hx : TupIs s a xs) (hy : ∀ y ∈ xs, HbAny prog w f s y) : HbAny prog w (f + 1) s (.ref a) := by
  intro A E Q h
  have hT := hx.typeIs
  obtain ⟨o, n, ho, _, hd⟩ := hx
  unfold hashByValue
  refine wpAny_bind (wpAny_specialOf hT F.slot_tuple_hash.lookup ?_)
  dsimp only
  refine wpAny_bind (wpAny_seqItems ho hd ?_)
  refine wpAny_bind ?_
  show wpAny _ _ (forIn xs.toArray _ _) _ _ s
  rw [← Array.forIn_toList]
  refine wpAny_forIn_list _ (fun rest r s' => r.1 = none ∧ s' = s ∧ ∀ v ∈ rest, HbAny prog w f s v) _ ?_ ?_ _ _ ⟨rfl, rfl, hy⟩
  · rintro v rest r s' ⟨hr, rfl, hall⟩
    refine wpAny_bind (hall v List.mem_cons_self A _ _ fun b => ?_)
    cases b
    · simp only [Bool.not_false, if_true]
      exact wpAny_pure (wpAny_pure (h false))
    · simp only [Bool.not_true, Bool.false_eq_true, if_false]
      exact wpAny_pure ⟨rfl, rfl, fun u hu' => hall u (List.mem_cons_of_mem _ hu')⟩
  · rintro ⟨r1, r2⟩ s' ⟨hr, rfl, _⟩
    simp only at hr
    subst hr
    exact wpAny_pure (h true)
theorem seen_no {A : Around} {E : Value → Shared → Prop} {l : List Value} {Q : Bool → Shared → Prop} (hx : Quiet prog w 8 s x ∧ OaNo prog w 8 s x) (hl : ∀ y ∈ l, Quiet prog w 8 s y ∧ OaNo prog w 8 s y) (h : Q false s) :
    wpAny (model prog w) A (searchCouldBeSeen x l) Q E s := by
  unfold searchCouldBeSeen
  refine wpAny_bind ?_
  refine wpAny_forIn_list _ (fun rest r s' => r.1 = none ∧ s' = s ∧ ∀ y ∈ rest, Quiet prog w 8 s y ∧ OaNo prog w 8 s y) _ ?_ ?_ _ _ ⟨rfl, rfl, hl⟩
  · rintro v rest r s' ⟨hr, rfl, hall⟩
    have hv := hall v List.mem_cons_self
    have go_ : (none : Option Bool) = none ∧ s' = s' ∧ ∀ y ∈ rest, Quiet prog w 8 s' y ∧ OaNo prog w 8 s' y := ⟨rfl, rfl, fun u hu' => hall u (List.mem_cons_of_mem _ hu')⟩
    dsimp only
    split <;>
    (split
     · exact wpAny_pure go_
     · refine wpAny_bind (hx.1 A _ _ ?_)
       simp only [Bool.not_true, Bool.false_eq_true, if_false]
       refine wpAny_bind (hv.1 A _ _ ?_)
       simp only [Bool.not_true, Bool.false_eq_true, if_false]
       refine wpAny_bind (hx.2 A _ _ ?_)
       simp only [Bool.false_eq_true, if_false]
       refine wpAny_bind (hv.2 A _ _ ?_)
       simp only [Bool.false_eq_true, if_false]
       exact wpAny_pure go_)
  · rintro ⟨r1, r2⟩ s' ⟨hr, rfl, _⟩
    simp only at hr
    subst hr
    exact wpAny_pure h
end
end L3

set_option Elab.async false
set_option linter.all false
set_option maxRecDepth 100000
set_option maxHeartbeats 4000000
namespace L3
open PySem PySem.Spec PyProof.Rows
/-! ### the facts of a set's iterator -/
theorem slot_setit_next : Slot "set_iterator" "__next__" "set_iterator.__next__" :=
  .of (owner := "set_iterator") (n := "__next__") (by rw [typeLookup_type, builtinLookup_eq_fast]; kernel_rfl) (by decide +kernel) (by decide +kernel) (by decide +kernel)
    (by first | exact .inl (by decide +kernel) | exact .inr (by decide +kernel)) (by rw [isSubtype_type]; kernel_rfl)
theorem slot_setit_iter : Slot "set_iterator" "__iter__" "set_iterator.__iter__" :=
  .of (owner := "set_iterator") (n := "__iter__") (by rw [typeLookup_type, builtinLookup_eq_fast]; kernel_rfl) (by decide +kernel) (by decide +kernel) (by decide +kernel)
    (by first | exact .inl (by decide +kernel) | exact .inr (by decide +kernel)) (by rw [isSubtype_type]; kernel_rfl)
theorem entry_setit_next : entryFor table "set_iterator.__next__" = some Builtin.«set_iterator.__next__» := entryFor_of_tree (by kernel_rfl)
theorem entry_setit_iter : entryFor table "set_iterator.__iter__" = some Builtin.«dict_keyiterator.__iter__» :=
  entryFor_alias (id' := "dict_keyiterator.__iter__") (by kernel_rfl) rfl (by decide +kernel) (by kernel_rfl)
theorem owner_setit : Manifest.owners.lookup (String.ofList ['r', 'o', 't', 'a', 'r', 'e', 't', 'i', '_', 't', 'e', 's'].reverse) = some Manifest.sig_set_iterator := by kernel_rfl
theorem args_setit_next (a : Value) : argsOk "set_iterator.__next__" ⟨[a], []⟩ := by
  unfold argsOk; rw [signature?_of (id := "set_iterator.__next__") (n := ['_', '_', 't', 'x', 'e', 'n', '_', '_']) (o := ['r', 'o', 't', 'a', 'r', 'e', 't', 'i', '_', 't', 'e', 's']) (by kernel_rfl) owner_setit]; kernel_rfl
theorem args_setit_iter (a : Value) : argsOk "set_iterator.__iter__" ⟨[a], []⟩ := by
  unfold argsOk; rw [signature?_of (id := "set_iterator.__iter__") (n := ['_', '_', 'r', 'e', 't', 'i', '_', '_']) (o := ['r', 'o', 't', 'a', 'r', 'e', 't', 'i', '_', 't', 'e', 's']) (by kernel_rfl) owner_setit]; kernel_rfl
theorem entry_set_iter : entryFor table "set.__iter__" = some Builtin.«frozenset.__iter__» :=
  entryFor_alias (id' := "frozenset.__iter__") (by kernel_rfl) rfl (by decide +kernel) (by kernel_rfl)
theorem look_set_len : typeLookup (.type "set") "__len__" = pure (some (.builtin "set.__len__")) := by rw [typeLookup_type, builtinLookup_eq_fast]; kernel_rfl
/-! ### the pure side of a walk -/
open SetTable in
theorem below_go_lo {xs : Array Nat} : ∀ (f hi : Nat), below.go xs 0 f 0 hi = 0
  | 0, hi => rfl
  | f + 1, hi => by
    unfold below.go
    split
    · simp only
      rw [if_neg (by omega)]
      exact below_go_lo f _
    · rfl
open SetTable in
theorem below_go_ge {xs : Array Nat} {j : Nat} : ∀ (f lo hi : Nat), lo ≤ hi → hi - lo ≤ f → hi ≤ xs.size → (hi < xs.size → j ≤ xs.getD hi j) → below.go xs j f lo hi < xs.size → j ≤ xs.getD (below.go xs j f lo hi) j
  | 0, lo, hi, h1, h2, h3, h4, h5 => by
    have e : lo = hi := by omega
    subst e
    exact h4 h5
  | f + 1, lo, hi, h1, h2, h3, h4, h5 => by
    unfold below.go at h5 ⊢
    by_cases hl : lo < hi
    · rw [if_pos hl] at h5 ⊢
      simp only at h5 ⊢
      by_cases hx : xs.getD ((lo + hi) / 2) j < j
      · rw [if_pos hx] at h5 ⊢
        exact below_go_ge f _ hi (by omega) (by omega) h3 h4 h5
      · rw [if_neg hx] at h5 ⊢
        exact below_go_ge f lo _ (by omega) (by omega) (by omega) (fun _ => by omega) h5
    · rw [if_neg hl] at h5 ⊢
      have e : lo = hi := by omega
      subst e
      exact h4 h5
theorem below_ge {xs : Array Nat} {j i v : Nat} (hi : SetTable.below xs j = i) (hv : xs[i]? = some v) : j ≤ v := by
  have hlt : i < xs.size := by
    rcases Nat.lt_or_ge i xs.size with h | h
    · exact h
    · rw [Array.getElem?_eq_none h] at hv; cases hv
  have := below_go_ge (xs := xs) (j := j) xs.size 0 xs.size (Nat.zero_le _) (by omega) (Nat.le_refl _) (fun h => absurd h (Nat.lt_irrefl _)) (by show SetTable.below xs j < _; rw [hi]; exact hlt)
  have e : SetTable.below.go xs j xs.size 0 xs.size = i := hi
  rw [e, Array.getD_eq_getD_getElem?, hv] at this
  exact this
theorem count_lt {l : List Nat} {a j : Nat} (hj : j ∈ l) (ha : a ≤ j) : l.countP (fun x => decide (j + 1 ≤ x)) < l.countP (fun x => decide (a ≤ x)) := by
  have mono : ∀ l : List Nat, l.countP (fun x => decide (j + 1 ≤ x)) ≤ l.countP (fun x => decide (a ≤ x)) := fun l =>
    List.countP_mono_left fun x _ h => by simp at *; omega
  induction l with
  | nil => cases hj
  | cons x r ih =>
    have m := mono r
    rcases List.mem_cons.mp hj with e | h
    · subst e
      rw [List.countP_cons, List.countP_cons, if_neg (by simp), if_pos (by simpa using ha)]
      omega
    · have := ih h
      rw [List.countP_cons, List.countP_cons]
      by_cases c : j + 1 ≤ x
      · rw [if_pos (by simpa using c), if_pos (by simp; omega)]; omega
      · rw [if_neg (by simpa using c)]; omega
/-- a walk by steps that come to an end -/
theorem seq_ex {nxt : Nat → Nat → Option (Value × Nat)} {m : Nat → Nat → Nat} (h : ∀ sl g x sl', nxt sl g = some (x, sl') → m sl' (g + 1) < m sl g) :
    ∀ k sl g, m sl g ≤ k → ∃ (seq : List Value) (sls : Nat → Nat), sls 0 = sl ∧ (∀ i x, seq[i]? = some x → nxt (sls i) (g + i) = some (x, sls (i + 1))) ∧ nxt (sls seq.length) (g + seq.length) = none ∧ seq.length ≤ m sl g
  | k, sl, g, hk => by
    cases e : nxt sl g with
    | none => exact ⟨[], fun _ => sl, rfl, fun i x hx => by simp at hx, e, Nat.zero_le _⟩
    | some p =>
      obtain ⟨x, sl'⟩ := p
      have hlt := h sl g x sl' e
      cases k with
      | zero => omega
      | succ k =>
        obtain ⟨seq, sls, h0, h1, h2, h3⟩ := seq_ex h k sl' (g + 1) (by omega)
        refine ⟨x :: seq, fun i => match i with | 0 => sl | i + 1 => sls i, rfl, ?_, ?_, by rw [List.length_cons]; omega⟩
        · intro i y hy
          cases i with
          | zero => simp at hy; subst hy; show nxt sl (g + 0) = some (x, sls 0); rw [h0]; exact e
          | succ i =>
            have := h1 i y (by simpa using hy)
            show nxt (sls i) (g + (i + 1)) = _
            rw [show g + (i + 1) = g + 1 + i by omega]; exact this
        · show nxt (sls seq.length) (g + (seq.length + 1)) = none
          rw [show g + (seq.length + 1) = g + 1 + seq.length by omega]; exact h2
theorem pick_go {α : Type} {next : Nat → Nat} {xs : List α} : ∀ (f k : Nat) (left : List α) (out : Array α), (∀ x ∈ left, x ∈ xs) → (∀ x ∈ out.toList, x ∈ xs) →
    (∀ x ∈ (pickOrder.go next f k left out).toList, x ∈ xs) ∧ (pickOrder.go next f k left out).size ≤ out.size + f ∧ out.size ≤ (pickOrder.go next f k left out).size ∧ (0 < f → left ≠ [] → out.size < (pickOrder.go next f k left out).size)
  | 0, k, left, out, _, ho => by unfold pickOrder.go; exact ⟨ho, by omega, Nat.le_refl _, fun h => absurd h (Nat.lt_irrefl _)⟩
  | f + 1, k, left, out, hl, ho => by
    unfold pickOrder.go
    cases e : left[next k % left.length]? with
    | none =>
      refine ⟨ho, by simp only; omega, Nat.le_refl _, fun _ hne => ?_⟩
      have : 0 < left.length := List.length_pos_iff.mpr hne
      have := List.getElem?_eq_none_iff.mp e
      have := Nat.mod_lt (next k) (by omega : left.length > 0)
      omega
    | some x =>
      have hx : x ∈ left := List.mem_of_getElem? e
      obtain ⟨a, b, c, _⟩ := pick_go (next := next) f (k + 1) (left.eraseIdx (next k % left.length)) (out.push x) (fun y hy => hl y (List.mem_of_mem_eraseIdx hy)) (fun y hy => by
        rw [Array.toList_push] at hy
        rcases List.mem_append.mp hy with h | h
        · exact ho y h
        · rw [List.mem_singleton] at h; subst h; exact hl _ hx)
      rw [Array.size_push] at b c
      refine ⟨a, ?_, ?_, fun _ _ => ?_⟩ <;> (show _; simp only; omega)
theorem pick_ok {α : Type} {next : Nat → Nat} (xs : Array α) : (∀ x ∈ (pickOrder next xs).toList, x ∈ xs.toList) ∧ (pickOrder next xs).size ≤ xs.size ∧ (0 < xs.size → 0 < (pickOrder next xs).size) := by
  obtain ⟨a, b, c, d⟩ := pick_go (next := next) (xs := xs.toList) xs.size 0 xs.toList #[] (fun _ h => h) (fun _ h => by simp at h)
  have e0 : pickOrder.go next xs.size 0 xs.toList #[] = pickOrder next xs := rfl
  rw [e0] at a b c d
  refine ⟨a, by simpa using b, fun h => ?_⟩
  have := d h (fun e => by
    have : xs.toList.length = 0 := by rw [e]; rfl
    rw [Array.length_toList] at this; omega)
  simpa using this
end L3

set_option Elab.async false
set_option linter.all false
set_option maxRecDepth 100000
set_option maxHeartbeats 4000000
namespace L3
open PySem PySem.Spec PyProof.Rows
/-- the set at a, its things and its table -/
def SetAt (h : Heap) (a : Addr) (es : Array (Int × Value)) (ep : Nat) (t : SetTable) : Prop := ∃ o, h.get? a = some o ∧ o.ExactSet ∧ o.data = .set es ep t
/-- its iterator: what stands first in it, and how many were told -/
def SetIt (h : Heap) (I a : Addr) (first : Value) (i : Nat) (n ep : Nat) : Prop := ∃ o t1 t2 t3, h.get? I = some o ∧ o.cls = .type "set_iterator" ∧ o.data = .fields #[first, .int i t1, .ref a, .int n t2, .int ep t3]
theorem SetIt.typeIs {s : Shared} {I a : Addr} {f : Value} {i n ep : Nat} (x : SetIt s.heap I a f i n ep) : s.TypeIs (.ref I) "set_iterator" := let ⟨o, _, _, _, ho, hc, _⟩ := x; ⟨o, ho, hc⟩
theorem SetIt.at {h h' : Heap} {I a : Addr} {f : Value} {i n ep : Nat} (x : SetIt h I a f i n ep) (e : ∀ o, h.get? I = some o → h'.get? I = some o) : SetIt h' I a f i n ep := let ⟨o, t1, t2, t3, ho, r⟩ := x; ⟨o, t1, t2, t3, e _ ho, r⟩
theorem SetAt.at {h h' : Heap} {a : Addr} {es ep t} (x : SetAt h a es ep t) (e : ∀ o, h.get? a = some o → h'.get? a = some o) : SetAt h' a es ep t := let ⟨o, ho, r⟩ := x; ⟨o, e _ ho, r⟩
section
variable {prog : Program} {w : World} {A : Around} {E : Value → Shared → Prop} {s : Shared}
theorem SetAt.typeIs {a : Addr} {es ep t} (x : SetAt s.heap a es ep t) : s.TypeIs (.ref a) "set" := let ⟨o, ho, hc, _⟩ := x; ⟨o, ho, hc.1⟩
/-- one step of a walk that is not drawn beforehand -/
def nxtOf (byText : Bool) (pick es : Array (Int × Value)) (place : Array Nat) (slot given : Nat) : Option (Value × Nat) :=
  if byText = true then (pick[given]?).map fun e => (e.2, slot) else
    match es[SetTable.below place slot]?, place[SetTable.below place slot]? with
    | some (_, x), some j => some (x, j + 1)
    | _, _ => none
theorem setNext_ok {a : Addr} {es ep t} {slot given : Nat} {Q : Option (Value × Nat) → Shared → Prop} (hS : SetAt s.heap a es ep t) (hf : t.fits es.size = true)
    (hw : w.params.followText "set-order" = false → t.led = true ∧ (t.plain = true ∨ es.size ≤ 1)) (h : Q (nxtOf (w.params.followText "set-order") (pickOrder (w.params.setOrder a ep) es) es t.place slot given) s) :
    wpAny (model prog w) A (setNext a slot given ep) Q E s := by
  obtain ⟨o, ho, _, hd⟩ := hS
  unfold setNext
  refine wpAny_bind (wpAny_setState_of ho hd hf ?_)
  dsimp only
  have by_ : ∀ {Q : Bool → Shared → Prop}, Q (w.params.followText "set-order") s → wpAny (model prog w) A setsByText Q E s := fun {Q} hq => by
    unfold setsByText
    exact wpAny_bind (wpAny_askSetting (wpAny_pure hq))
  refine wpAny_bind (by_ ?_)
  cases e : w.params.followText "set-order"
  · simp only [Bool.false_eq_true, if_false]
    obtain ⟨h1, h2⟩ := hw e
    rw [e] at h
    show wpAny _ _ (if (!t.plain && decide (es.size > 1)) = true then _ else (do (if (!t.led && !es.isEmpty) = true then unsupported "set:maker-not-led" else pure PUnit.unit); pure _)) Q E s
    have c : (!t.plain && decide (es.size > 1)) = false := by
      rcases h2 with h2 | h2
      · rw [h2]; rfl
      · rw [decide_eq_false (by omega)]; simp
    rw [c, h1]
    simp only [Bool.false_eq_true, if_false, Bool.not_true, Bool.false_and]
    refine wpAny_bind (wpAny_pure (wpAny_pure ?_))
    exact h
  · simp only [if_true]
    rw [e] at h
    simp only [bne_self_eq_false, Bool.false_eq_true, if_false]
    unfold setWalk
    refine wpAny_bind (wpAny_bind (wpAny_setState_of ho hd hf ?_))
    dsimp only
    refine wpAny_bind (by_ ?_)
    rw [e]
    simp only [if_true]
    refine wpAny_bind (wpAny_askSetting (wpAny_pure (wpAny_pure ?_)))
    exact h
/-! ### the next one -/
/-- a walk whose place is told by slot and count -/
theorem next_item {I a : Addr} {slot i : Nat} {tk : Tok} {es ep t} {x : Value} {sl' : Nat} {Q : Option Value → Shared → Prop} (hit : SetIt s.heap I a (.int slot tk) i es.size ep) (hS : SetAt s.heap a es ep t) (hf : t.fits es.size = true)
    (hw : w.params.followText "set-order" = false → t.led = true ∧ (t.plain = true ∨ es.size ≤ 1)) (hx : nxtOf (w.params.followText "set-order") (pickOrder (w.params.setOrder a ep) es) es t.place slot i = some (x, sl'))
    (hQ : ∀ h' tk', SetIt h' I a (.int sl' tk') (i + 1) es.size ep → Heap.SameBut I s.heap h' → Q (some x) { s with heap := h' }) : wpAny (model prog w) A (pyNext (.ref I)) Q E s := by
  obtain ⟨o, t1, t2, t3, ho, hc, hd⟩ := id hit
  obtain ⟨os, hos, hcs, hds⟩ := id hS
  unfold pyNext
  refine wpAny_bind (wpAny_attempt (wpAny_callSpecial?_slot (name := Str.ofString "__next__") hit.typeIs slot_setit_next
    (wpAny_call_entry slot_setit_next hit.typeIs entry_setit_next ?_ (args_setit_next _))))
  show wpAny _ _ (fieldsOf (.ref I) >>= _) _ _ s
  refine wpAny_bind (wpAny_fieldsOf ho hd ?_)
  dsimp only
  refine wpAny_bind ?_
  unfold setEntries
  refine wpAny_bind (wpAny_setState_of hos hds hf (wpAny_pure ?_))
  dsimp only
  rw [if_neg (by simp)]
  refine wpAny_bind (setNext_ok hS hf hw ?_)
  have e1 : ((slot : Int)).toNat = slot := Int.toNat_natCast _
  have e2 : ((i : Int)).toNat = i := Int.toNat_natCast _
  have e3 : ((ep : Int)).toNat = ep := Int.toNat_natCast _
  rw [e1, e2, e3, hx]
  dsimp only
  refine wpAny_bind (wpAny_setField ho hd (by simp) ?_)
  have ho1 := Heap.get?_update_self (Obj.mapFields (·.setIfInBounds 0 (rawInt (sl' : Int)))) ho (Obj.isFreed_of_fields (Obj.data_mapFields hd _))
  have hd1 := Obj.data_mapFields hd (·.setIfInBounds 0 (rawInt (sl' : Int)))
  refine wpAny_bind (wpAny_setField ho1 hd1 (by simp) ?_)
  have ho2 := Heap.get?_update_self (Obj.mapFields (·.setIfInBounds 1 (rawInt ((i : Int) + 1)))) ho1 (Obj.isFreed_of_fields (Obj.data_mapFields hd1 _))
  have hd2 := Obj.data_mapFields hd1 (·.setIfInBounds 1 (rawInt ((i : Int) + 1)))
  refine wpAny_pure ⟨_, rfl, wpAny_pure (hQ _ 0 ⟨_, 0, t2, t3, ho2, ((Obj.cls_mapFields ..).trans (Obj.cls_mapFields ..)).trans hc, by rw [hd2]; simp [rawInt]⟩ ?_)⟩
  exact ⟨(Heap.size_update _ _ _).trans (Heap.size_update _ _ _), fun b hb => (Heap.get?_update_other _ _ (Ne.symm hb)).trans (Heap.get?_update_other _ _ (Ne.symm hb))⟩
theorem next_end {I a : Addr} {slot i : Nat} {tk : Tok} {es ep t} {Q : Option Value → Shared → Prop} (hh : A.handled = none) (hit : SetIt s.heap I a (.int slot tk) i es.size ep) (hS : SetAt s.heap a es ep t) (hf : t.fits es.size = true)
    (hw : w.params.followText "set-order" = false → t.led = true ∧ (t.plain = true ∨ es.size ≤ 1)) (hx : nxtOf (w.params.followText "set-order") (pickOrder (w.params.setOrder a ep) es) es t.place slot i = none)
    (hQ : ∀ h', Heap.ExtBut I s.heap h' → Q none { s with heap := h' }) : wpAny (model prog w) A (pyNext (.ref I)) Q E s := by
  obtain ⟨o, t1, t2, t3, ho, hc, hd⟩ := id hit
  obtain ⟨os, hos, hcs, hds⟩ := id hS
  unfold pyNext
  refine wpAny_bind (wpAny_attempt (wpAny_callSpecial?_slot (name := Str.ofString "__next__") hit.typeIs slot_setit_next
    (wpAny_call_entry slot_setit_next hit.typeIs entry_setit_next ?_ (args_setit_next _))))
  show wpAny _ _ (fieldsOf (.ref I) >>= _) _ _ s
  refine wpAny_bind (wpAny_fieldsOf ho hd ?_)
  dsimp only
  refine wpAny_bind ?_
  unfold setEntries
  refine wpAny_bind (wpAny_setState_of hos hds hf (wpAny_pure ?_))
  dsimp only
  rw [if_neg (by simp)]
  refine wpAny_bind (setNext_ok hS hf hw ?_)
  have e1 : ((slot : Int)).toNat = slot := Int.toNat_natCast _
  have e2 : ((i : Int)).toNat = i := Int.toNat_natCast _
  have e3 : ((ep : Int)).toNat = ep := Int.toNat_natCast _
  rw [e1, e2, e3, hx]
  dsimp only
  refine wpAny_bind (wpAny_setField ho hd (by simp) ?_)
  refine wpAny_bind ?_
  simp only [newExc, newTuple]
  refine wpAny_bind (wpAny_newObj_type ?_ (by size_fits))
  refine wpAny_bind (m := firstArgMember _ _) (wpAny_of_eq (a := Value.none) (by first | rfl | (simp only [firstArgMember]; rfl)) ?_)
  refine wpAny_newObj_type ?_ (by size_fits)
  simp only [raiseNew]
  refine wpAny_bind (wpAny_handled ?_)
  rw [show A.in1.handled = none from hh]
  refine wpAny_bind (wpAny_pure (wpAny_throw ?_))
  refine wpAny_bind (wpAny_isInstance (T := "StopIteration") (b := true) ⟨_, Heap.get?_push_size _ rfl, rfl⟩ isSubtype_stop ?_)
  exact wpAny_pure (hQ _ (((Heap.SameBut.update ..).extBut.push _).push _))
/-- a walk whose places were drawn beforehand -/
def DrawnAt (h : Heap) (T : Addr) (ps : List Nat) : Prop := ∃ o n, h.get? T = some o ∧ o.data = .seq ((ps.map fun (i : Nat) => rawInt (i : Int)).toArray) n ∧ o.cls = .type "tuple"
theorem nextD_item {I a T : Addr} {i p : Nat} {es ep t} {ps : List Nat} {e : Int × Value} {Q : Option Value → Shared → Prop} (hit : SetIt s.heap I a (.ref T) i es.size ep) (hS : SetAt s.heap a es ep t) (hf : t.fits es.size = true)
    (hT : DrawnAt s.heap T ps) (hp : ps[i]? = some p) (he : es[p]? = some e)
    (hQ : ∀ h', SetIt h' I a (.ref T) (i + 1) es.size ep → Heap.SameBut I s.heap h' → Q (some e.2) { s with heap := h' }) : wpAny (model prog w) A (pyNext (.ref I)) Q E s := by
  obtain ⟨o, t1, t2, t3, ho, hc, hd⟩ := id hit
  obtain ⟨os, hos, hcs, hds⟩ := id hS
  obtain ⟨oT, nT, hoT, hdT, _⟩ := hT
  unfold pyNext
  refine wpAny_bind (wpAny_attempt (wpAny_callSpecial?_slot (name := Str.ofString "__next__") hit.typeIs slot_setit_next
    (wpAny_call_entry slot_setit_next hit.typeIs entry_setit_next ?_ (args_setit_next _))))
  show wpAny _ _ (fieldsOf (.ref I) >>= _) _ _ s
  refine wpAny_bind (wpAny_fieldsOf ho hd ?_)
  dsimp only
  refine wpAny_bind ?_
  unfold setEntries
  refine wpAny_bind (wpAny_setState_of hos hds hf (wpAny_pure ?_))
  dsimp only
  rw [if_neg (by simp)]
  refine wpAny_bind (wpAny_seqItems hoT hdT ?_)
  dsimp only
  have e2 : ((i : Int)).toNat = i := Int.toNat_natCast _
  have hpi : ((ps.map fun (i : Nat) => rawInt (i : Int)).toArray)[i]? = some (rawInt (p : Int)) := by simp [hp]
  rw [e2, hpi]
  show wpAny _ _ (setNextDrawn a ((p : Int)).toNat ((ep : Int)).toNat >>= _) _ _ s
  rw [Int.toNat_natCast, Int.toNat_natCast]
  refine wpAny_bind ?_
  unfold setNextDrawn
  refine wpAny_bind (wpAny_setState_of hos hds hf ?_)
  dsimp only
  simp only [bne_self_eq_false, Bool.false_eq_true, if_false, he]
  refine wpAny_pure ?_
  refine wpAny_bind (wpAny_setField ho hd (by simp) ?_)
  have ho2 := Heap.get?_update_self (Obj.mapFields (·.setIfInBounds 1 (rawInt ((i : Int) + 1)))) ho (Obj.isFreed_of_fields (Obj.data_mapFields hd _))
  have hd2 := Obj.data_mapFields hd (·.setIfInBounds 1 (rawInt ((i : Int) + 1)))
  refine wpAny_pure ⟨_, rfl, wpAny_pure (hQ _ ⟨_, 0, t2, t3, ho2, (Obj.cls_mapFields ..).trans hc, by rw [hd2]; simp [rawInt]⟩ ?_)⟩
  exact ⟨(Heap.size_update _ _ _), fun b hb => (Heap.get?_update_other _ _ (Ne.symm hb))⟩
theorem nextD_end {I a T : Addr} {i : Nat} {es ep t} {ps : List Nat} {Q : Option Value → Shared → Prop} (hh : A.handled = none) (hit : SetIt s.heap I a (.ref T) i es.size ep) (hS : SetAt s.heap a es ep t) (hf : t.fits es.size = true)
    (hT : DrawnAt s.heap T ps) (hp : ps[i]? = none)
    (hQ : ∀ h', Heap.ExtBut I s.heap h' → Q none { s with heap := h' }) : wpAny (model prog w) A (pyNext (.ref I)) Q E s := by
  obtain ⟨o, t1, t2, t3, ho, hc, hd⟩ := id hit
  obtain ⟨os, hos, hcs, hds⟩ := id hS
  obtain ⟨oT, nT, hoT, hdT, _⟩ := hT
  unfold pyNext
  refine wpAny_bind (wpAny_attempt (wpAny_callSpecial?_slot (name := Str.ofString "__next__") hit.typeIs slot_setit_next
    (wpAny_call_entry slot_setit_next hit.typeIs entry_setit_next ?_ (args_setit_next _))))
  show wpAny _ _ (fieldsOf (.ref I) >>= _) _ _ s
  refine wpAny_bind (wpAny_fieldsOf ho hd ?_)
  dsimp only
  refine wpAny_bind ?_
  unfold setEntries
  refine wpAny_bind (wpAny_setState_of hos hds hf (wpAny_pure ?_))
  dsimp only
  rw [if_neg (by simp)]
  refine wpAny_bind (wpAny_seqItems hoT hdT ?_)
  dsimp only
  have e2 : ((i : Int)).toNat = i := Int.toNat_natCast _
  have hpi : ((ps.map fun (i : Nat) => rawInt (i : Int)).toArray)[i]? = none := by simpa using hp
  rw [e2, hpi]
  dsimp only
  refine wpAny_bind (wpAny_setField ho hd (by simp) ?_)
  have ho1 := Heap.get?_update_self (Obj.mapFields (·.setIfInBounds 0 (rawInt 0))) ho (Obj.isFreed_of_fields (Obj.data_mapFields hd _))
  have hd1 := Obj.data_mapFields hd (·.setIfInBounds 0 (rawInt 0))
  refine wpAny_bind (wpAny_setField ho1 hd1 (by simp) ?_)
  refine wpAny_bind ?_
  simp only [newExc, newTuple]
  refine wpAny_bind (wpAny_newObj_type ?_ (by size_fits))
  refine wpAny_bind (m := firstArgMember _ _) (wpAny_of_eq (a := Value.none) (by first | rfl | (simp only [firstArgMember]; rfl)) ?_)
  refine wpAny_newObj_type ?_ (by size_fits)
  simp only [raiseNew]
  refine wpAny_bind (wpAny_handled ?_)
  rw [show A.in1.handled = none from hh]
  refine wpAny_bind (wpAny_pure (wpAny_throw ?_))
  refine wpAny_bind (wpAny_isInstance (T := "StopIteration") (b := true) ⟨_, Heap.get?_push_size _ rfl, rfl⟩ isSubtype_stop ?_)
  have sb : Heap.SameBut I s.heap ((s.heap.update I (Obj.mapFields (·.setIfInBounds 0 (rawInt 0)))).update I (Obj.mapFields (·.setIfInBounds 2 .none))) :=
    ⟨(Heap.size_update _ _ _).trans (Heap.size_update _ _ _), fun b hb => (Heap.get?_update_other _ _ (Ne.symm hb)).trans (Heap.get?_update_other _ _ (Ne.symm hb))⟩
  exact wpAny_pure (hQ _ ((sb.extBut.push _).push _))
end
end L3

set_option Elab.async false
set_option linter.all false
set_option maxRecDepth 100000
set_option maxHeartbeats 4000000
namespace L3
open PySem PySem.Spec PyProof.Rows
section
variable {prog : Program} {w : World} {A : Around} {E : Value → Shared → Prop} {s : Shared}
theorem wp_choose1 {src : Source} {n : Nat} {Q : Nat → Shared → Prop} (hn : n ≠ 0) (h : ∀ i dr, i < n → Q i { s with drawn := dr }) : wpAny (model prog w) A (choose src n) Q E s :=
  fun Γ p _ => ⟨hn, h _ _ (Nat.mod_lt _ (Nat.pos_of_ne_zero hn))⟩
theorem drawOrder_ok {α : Type} : ∀ (n : Nat) (xs : List α) {s : Shared} {Q : List α → Shared → Prop}, (∀ ys dr, (∀ y ∈ ys, y ∈ xs) → ys.length ≤ n → (0 < n → xs ≠ [] → 0 < ys.length) → Q ys { s with drawn := dr }) → wpAny (model prog w) A (drawOrder n xs) Q E s
  | 0, xs, s, Q, h => by
    unfold drawOrder
    exact wpAny_pure (h [] s.drawn (fun _ hy => by cases hy) (Nat.le_refl _) fun h => absurd h (Nat.lt_irrefl _))
  | n + 1, [], s, Q, h => by
    unfold drawOrder
    exact wpAny_pure (h [] s.drawn (fun _ hy => by cases hy) (Nat.zero_le _) fun _ h => absurd rfl h)
  | n + 1, x :: r, s, Q, h => by
    show wpAny _ _ (choose .order (x :: r).length >>= _) _ _ s
    refine wpAny_bind (wp_choose1 (by simp) fun i dr hi => ?_)
    have e : (x :: r)[i]? = some (x :: r)[i] := List.getElem?_eq_getElem hi
    rw [e]
    dsimp only
    refine wpAny_bind (drawOrder_ok n ((x :: r).eraseIdx i) fun ys dr' h1 h2 _ => ?_)
    refine wpAny_pure (h (_ :: ys) dr' (fun y hy => ?_) (by rw [List.length_cons]; omega) fun _ _ => by rw [List.length_cons]; omega)
    rcases List.mem_cons.mp hy with e | hy
    · rw [e]; exact List.getElem_mem _
    · exact List.mem_of_mem_eraseIdx (h1 y hy)
/-- the walks of a set -/
theorem walk_slots (hh : A.handled = none) {I a : Addr} (hne : a ≠ I) {es : Array (Int × Value)} {ep : Nat} {t : SetTable} (hf : t.fits es.size = true)
    (hw : w.params.followText "set-order" = false → t.led = true ∧ (t.plain = true ∨ es.size ≤ 1)) {seq : List Value} {sls : Nat → Nat}
    (h1 : ∀ i x, seq[i]? = some x → nxtOf (w.params.followText "set-order") (pickOrder (w.params.setOrder a ep) es) es t.place (sls i) i = some (x, sls (i + 1)))
    (h2 : nxtOf (w.params.followText "set-order") (pickOrder (w.params.setOrder a ep) es) es t.place (sls seq.length) seq.length = none) :
    Walks prog w A I [I, a] [I] seq.length (fun i v => seq[i]? = some v) (fun i h => (∃ tk, SetIt h I a (.int (sls i) tk) i es.size ep) ∧ SetAt h a es ep t) where
  sub := fun b hb => by simp at hb; simp [hb]
  frame := fun i h h' st hk => ⟨let ⟨tk, x⟩ := st.1; ⟨tk, x.at fun o e => hk I (by simp) o e⟩, st.2.at fun o e => hk a (by simp) o e⟩
  item := fun i s Q E hi st hQ => by
    obtain ⟨⟨tk, hit⟩, hS⟩ := st
    have e : seq[i]? = some seq[i] := List.getElem?_eq_getElem hi
    refine next_item hit hS hf hw (h1 i _ e) fun h' tk' hit' sb => ?_
    exact hQ _ h' s.toks e ⟨⟨tk', hit'⟩, hS.at fun o z => by rw [sb.2 a hne]; exact z⟩ fun b o hb z => by rw [sb.2 b (fun h => hb (by simp [h]))]; exact z
  done := fun s Q E st hQ => by
    obtain ⟨⟨tk, hit⟩, hS⟩ := st
    exact next_end hh hit hS hf hw h2 fun h' x => hQ h' s.toks fun b o hb z => x b o (fun h => hb (by simp [h])) z
  self := fun i s Q E st hQ => by
    obtain ⟨⟨tk, hit⟩, hS⟩ := st
    refine wpAny_pyIter_slot hit.typeIs slot_setit_iter (wpAny_call_entry slot_setit_iter hit.typeIs entry_setit_iter ?_ (args_setit_iter _))
    show wpAny _ _ (ret (.ref I)) _ _ s
    exact wpAny_pure ⟨_, rfl, "set_iterator", _, hit.typeIs, slot_setit_next.lookup, hQ⟩
theorem walk_drawn (hh : A.handled = none) {I a T : Addr} (hne : a ≠ I) (hnT : T ≠ I) {es : Array (Int × Value)} {ep : Nat} {t : SetTable} (hf : t.fits es.size = true) {ps : List Nat} {seq : List Value} (hl : seq.length = ps.length)
    (h1 : ∀ (i : Nat) x, seq[i]? = some x → ∃ p e, ps[i]? = some p ∧ es[p]? = some e ∧ x = e.2) :
    Walks prog w A I [I, a, T] [I] seq.length (fun i v => seq[i]? = some v) (fun i h => SetIt h I a (.ref T) i es.size ep ∧ SetAt h a es ep t ∧ DrawnAt h T ps) where
  sub := fun b hb => by simp at hb; simp [hb]
  frame := fun i h h' st hk => ⟨st.1.at fun o e => hk I (by simp) o e, st.2.1.at fun o e => hk a (by simp) o e, let ⟨o, n, e, r⟩ := st.2.2; ⟨o, n, hk T (by simp) o e, r⟩⟩
  item := fun i s Q E hi st hQ => by
    obtain ⟨hit, hS, hT⟩ := st
    have e : seq[i]? = some seq[i] := List.getElem?_eq_getElem hi
    obtain ⟨p, en, e1, e2, e3⟩ := h1 i _ e
    refine nextD_item hit hS hf hT e1 e2 fun h' hit' sb => ?_
    rw [← e3]
    refine hQ _ h' s.toks e ⟨hit', hS.at fun o z => by rw [sb.2 a hne]; exact z, let ⟨o, n, z, r⟩ := hT; ⟨o, n, by rw [sb.2 T hnT]; exact z, r⟩⟩ fun b o hb z => by rw [sb.2 b (fun h => hb (by simp [h]))]; exact z
  done := fun s Q E st hQ => by
    obtain ⟨hit, hS, hT⟩ := st
    exact nextD_end hh hit hS hf hT (List.getElem?_eq_none_iff.mpr (by omega)) fun h' x => hQ h' s.toks fun b o hb z => x b o (fun h => hb (by simp [h])) z
  self := fun i s Q E st hQ => by
    obtain ⟨hit, hS, hT⟩ := st
    refine wpAny_pyIter_slot hit.typeIs slot_setit_iter (wpAny_call_entry slot_setit_iter hit.typeIs entry_setit_iter ?_ (args_setit_iter _))
    show wpAny _ _ (ret (.ref I)) _ _ s
    exact wpAny_pure ⟨_, rfl, "set_iterator", _, hit.typeIs, slot_setit_next.lookup, hQ⟩
/-- what an iterator over a set is -/
def SetWalk (prog : Program) (w : World) (A : Around) (es : Array (Int × Value)) (z : Nat) (a I : Addr) (h : Heap) : Prop :=
  ∃ (fp : List Addr) (seq : List Value) (St : Nat → Heap → Prop), Walks prog w A I fp [I] seq.length (fun i v => seq[i]? = some v) St ∧ St 0 h ∧ (∀ b ∈ fp, b < h.objs.size) ∧ (∀ b ∈ fp, b = a ∨ z ≤ b) ∧ I ∈ fp ∧ (∀ v ∈ seq, ∃ e ∈ es.toList, v = e.2) ∧ seq.length ≤ es.size ∧ (0 < es.size → 0 < seq.length)
theorem iter_set {A' : Around} {a : Addr} {es ep t} {Q : Value → Shared → Prop} (hh : A'.handled = none) (hS : SetAt s.heap a es ep t) (hf : t.fits es.size = true) (hled : w.params.followText "set-order" = false → t.led = true) (hz : es.size ≤ 1000)
    (hQ : ∀ I h' dr, s.heap.objs.size ≤ I → (∀ b o, s.heap.get? b = some o → h'.get? b = some o) → SetWalk prog w A' es s.heap.objs.size a I h' → Q (.ref I) { s with heap := h', drawn := dr }) : wpAny (model prog w) A (pyIter (.ref a)) Q E s := by
  obtain ⟨o, ho, hc, hd⟩ := id hS
  have haz : a < s.heap.objs.size := Heap.lt_size ho
  refine wpAny_pyIter_slot hS.typeIs F.slot_set_iter (wpAny_call_entry F.slot_set_iter hS.typeIs entry_set_iter ?_ (F.args_set_iter_1 _))
  show wpAny _ _ (Builtin.Frozenset.sizeOf a >>= _) _ _ s
  refine wpAny_bind ?_
  unfold Builtin.Frozenset.sizeOf setEntries
  refine wpAny_bind (wpAny_bind (wpAny_setState_of ho hd hf (wpAny_pure (wpAny_pure ?_))))
  dsimp only
  refine wpAny_bind ?_
  unfold setDrawn
  refine wpAny_bind (wpAny_setState_of ho hd hf ?_)
  dsimp only
  refine wpAny_bind ?_
  unfold setsByText
  refine wpAny_bind (wpAny_askSetting (wpAny_pure ?_))
  show wpAny _ _ (pure (!w.params.followText "set-order" && (!t.plain && decide (es.size > 1)))) _ _ s
  refine wpAny_pure ?_
  have fits_ := hf
  have hpl : t.place.size = es.size := by
    unfold SetTable.fits at hf
    rw [Bool.and_eq_true] at hf
    simpa using hf.1
  cases hdr : (!w.params.followText "set-order" && (!t.plain && decide (es.size > 1)))
  · simp only [Bool.false_eq_true, if_false]
    refine wpAny_bind (wpAny_pure ?_)
    refine wpAny_bind ?_
    unfold setEpoch
    refine wpAny_bind (wpAny_setState_of ho hd hf (wpAny_pure ?_))
    dsimp only
    refine wpAny_bind (wpAny_newObj_type ?_)
    refine wpAny_pure ⟨_, rfl, "set_iterator", _, ⟨_, Heap.get?_push_size _ rfl, rfl⟩, slot_setit_next.lookup, ?_⟩
    have hw : w.params.followText "set-order" = false → t.led = true ∧ (t.plain = true ∨ es.size ≤ 1) := fun e => by
      refine ⟨hled e, ?_⟩
      rw [e] at hdr
      simp only [Bool.not_false, Bool.true_and, Bool.and_eq_false_iff, Bool.not_eq_false', decide_eq_false_iff_not] at hdr
      rcases hdr with h | h
      · exact .inl h
      · exact .inr (by omega)
    have hdone : ∃ (seq : List Value) (sls : Nat → Nat), sls 0 = 0 ∧ (∀ i x, seq[i]? = some x → nxtOf (w.params.followText "set-order") (pickOrder (w.params.setOrder a ep) es) es t.place (sls i) (0 + i) = some (x, sls (i + 1))) ∧
        nxtOf (w.params.followText "set-order") (pickOrder (w.params.setOrder a ep) es) es t.place (sls seq.length) (0 + seq.length) = none ∧ seq.length ≤ es.size := by
      obtain ⟨p1, p2, p3⟩ := pick_ok (next := w.params.setOrder a ep) es
      cases hT : w.params.followText "set-order"
      · obtain ⟨seq, sls, a1, a2, a3, a4⟩ := seq_ex (nxt := nxtOf false (pickOrder (w.params.setOrder a ep) es) es t.place) (m := fun sl _ => t.place.toList.countP (fun x => decide (sl ≤ x))) (fun sl g x sl' he => by
          unfold nxtOf at he
          simp only [Bool.false_eq_true, if_false] at he
          split at he
          · rename_i j _ hj
            cases he
            refine count_lt ?_ (below_ge rfl hj)
            have := Array.mem_of_getElem? hj
            simpa using this
          · cases he) _ 0 0 (Nat.le_refl _)
        refine ⟨seq, sls, a1, a2, a3, Nat.le_trans a4 (Nat.le_trans List.countP_le_length ?_)⟩
        rw [Array.length_toList]; omega
      · obtain ⟨seq, sls, a1, a2, a3, a4⟩ := seq_ex (nxt := nxtOf true (pickOrder (w.params.setOrder a ep) es) es t.place) (m := fun _ g => (pickOrder (w.params.setOrder a ep) es).size - g) (fun sl g x sl' he => by
          unfold nxtOf at he
          simp only [if_true] at he
          obtain ⟨e, he1, he2⟩ := Option.map_eq_some_iff.mp he
          have : g < (pickOrder (w.params.setOrder a ep) es).size := by
            rcases Nat.lt_or_ge g (pickOrder (w.params.setOrder a ep) es).size with h | h
            · exact h
            · rw [Array.getElem?_eq_none h] at he1; cases he1
          show _ - (g + 1) < _ - g
          omega) _ 0 0 (Nat.le_refl _)
        exact ⟨seq, sls, a1, a2, a3, by omega⟩
    obtain ⟨seq, sls, b0, b1, b2, b3⟩ := hdone
    have mem : ∀ sl g x sl', nxtOf (w.params.followText "set-order") (pickOrder (w.params.setOrder a ep) es) es t.place sl g = some (x, sl') → ∃ e ∈ es.toList, x = e.2 := fun sl g x sl' he => by
      unfold nxtOf at he
      split at he
      · obtain ⟨e, he1, he2⟩ := Option.map_eq_some_iff.mp he
        cases he2
        refine ⟨e, (pick_ok (next := w.params.setOrder a ep) es).1 e ?_, rfl⟩
        have := Array.mem_of_getElem? he1
        simpa using this
      · split at he
        · rename_i h1 h2
          cases he
          have := Array.mem_of_getElem? h1
          exact ⟨_, by simpa using this, rfl⟩
        · cases he
    refine hQ _ _ s.drawn (Nat.le_refl _) (fun b o z => Heap.get?_push_of_some _ z) ⟨_, seq, _, walk_slots (prog := prog) (A := A') hh (Nat.ne_of_lt haz) hf hw (fun i x hx => by have := b1 i x hx; rwa [Nat.zero_add] at this) (by rw [Nat.zero_add] at b2; exact b2), ⟨⟨0, ?_⟩, ?_⟩, ?_, ?_, by simp, ?_, b3, ?_⟩
    · rw [b0]
      exact ⟨_, 0, 0, 0, Heap.get?_push_size _ rfl, rfl, rfl⟩
    · exact ⟨o, Heap.get?_push_of_some _ ho, hc, hd⟩
    · intro b hb
      rw [Heap.size_push]
      simp only [List.mem_cons, List.not_mem_nil, or_false] at hb
      rcases hb with h | h
      · rw [h]; exact Nat.lt_succ_self _
      · rw [h]; exact Nat.lt_succ_of_lt haz
    · intro b hb
      simp only [List.mem_cons, List.not_mem_nil, or_false] at hb
      rcases hb with h | h
      · exact .inr (by rw [h]; exact Nat.le_refl _)
      · exact .inl h
    · intro v hv
      obtain ⟨i, hi, e⟩ := List.getElem_of_mem hv
      have := b1 i v (by rw [List.getElem?_eq_getElem hi, e])
      exact mem _ _ _ _ this
    · intro hpos
      rcases Nat.eq_zero_or_pos seq.length with h0 | h0
      · rw [h0, b0] at b2
        exfalso
        unfold nxtOf at b2
        split at b2
        · have := (pick_ok (next := w.params.setOrder a ep) es).2.2 hpos
          rw [Option.map_eq_none_iff, Array.getElem?_eq_none_iff] at b2
          omega
        · have hb : SetTable.below t.place 0 = 0 := below_go_lo _ _
          rw [hb, getElem?_pos es 0 hpos, getElem?_pos t.place 0 (by omega)] at b2
          cases b2
      · exact h0
  · simp only [if_true]
    refine wpAny_bind (drawOrder_ok es.size (List.range es.size) fun ys dr y1 y2 y3 => ?_)
    refine wpAny_bind (wpAny_newTuple (items := ys.map fun (i : Nat) => rawInt (i : Int)) ?_ (by rw [List.length_map, sizeLine_eq]; omega))
    refine wpAny_bind ?_
    unfold setEpoch
    have ho1 : (s.heap.push { cls := .type "tuple", data := .seq (ys.map fun (i : Nat) => rawInt (i : Int)).toArray }).get? a = some o := Heap.get?_push_of_some _ ho
    refine wpAny_bind (wpAny_setState_of (s := { s with drawn := dr, heap := _ }) ho1 hd hf (wpAny_pure ?_))
    dsimp only
    refine wpAny_bind (wpAny_newObj_type ?_)
    refine wpAny_pure ⟨_, rfl, "set_iterator", _, ⟨_, Heap.get?_push_size _ rfl, rfl⟩, slot_setit_next.lookup, ?_⟩
    have y4 : ∀ y ∈ ys, y < es.size := fun y hy => List.mem_range.mp (y1 y hy)
    have ex : ∃ seq : List Value, seq.length = ys.length ∧ ∀ (i : Nat) x, seq[i]? = some x → ∃ p e, ys[i]? = some p ∧ es[p]? = some e ∧ x = e.2 := by
      refine ⟨ys.map fun p => (es.getD p (0, .none)).2, by simp, fun i x hx => ?_⟩
      rw [List.getElem?_map] at hx
      obtain ⟨p, e1, e2⟩ := Option.map_eq_some_iff.mp hx
      have hp := y4 p (List.mem_of_getElem? e1)
      refine ⟨p, es[p], e1, getElem?_pos es p hp, ?_⟩
      rw [← e2, Array.getD_eq_getD_getElem?, getElem?_pos es p hp]; rfl
    obtain ⟨seq, q1, q2⟩ := ex
    have z1 : (s.heap.push { cls := .type "tuple", data := .seq (ys.map fun (i : Nat) => rawInt (i : Int)).toArray }).objs.size = s.heap.objs.size + 1 := Heap.size_push _ _
    refine hQ _ _ dr (by rw [z1]; exact Nat.le_succ _) (fun b o z => Heap.get?_push_of_some _ (Heap.get?_push_of_some _ z)) ⟨_, seq, _, walk_drawn (prog := prog) (A := A') (T := s.heap.objs.size) (ps := ys) (ep := ep) hh (by rw [z1]; exact Nat.ne_of_lt (Nat.lt_succ_of_lt haz)) (by rw [z1]; exact Nat.ne_of_lt (Nat.lt_succ_self _)) hf q1 q2, ⟨?_, ?_, ?_⟩, ?_, ?_, by simp, ?_, by omega, ?_⟩
    · exact ⟨_, 0, 0, 0, Heap.get?_push_size _ rfl, rfl, rfl⟩
    · exact ⟨o, Heap.get?_push_of_some _ ho1, hc, hd⟩
    · exact ⟨_, _, Heap.get?_push_of_some _ (Heap.get?_push_size _ rfl), rfl, rfl⟩
    · intro b hb
      rw [Heap.size_push, z1]
      simp only [List.mem_cons, List.not_mem_nil, or_false] at hb
      rcases hb with h | h | h
      · rw [h, z1]; exact Nat.lt_succ_self _
      · rw [h]; exact Nat.lt_succ_of_lt (Nat.lt_succ_of_lt haz)
      · rw [h]; exact Nat.lt_succ_of_lt (Nat.lt_succ_self _)
    · intro b hb
      simp only [List.mem_cons, List.not_mem_nil, or_false] at hb
      rcases hb with h | h | h
      · exact .inr (by rw [h, z1]; exact Nat.le_succ _)
      · exact .inl h
      · exact .inr (by rw [h]; exact Nat.le_refl _)
    · intro v hv
      obtain ⟨i, hi, e⟩ := List.getElem_of_mem hv
      obtain ⟨p, en, _, e2, e3⟩ := q2 i v (by rw [List.getElem?_eq_getElem hi, e])
      have := Array.mem_of_getElem? e2
      exact ⟨en, by simpa using this, e3⟩
    · intro hpos
      rw [q1]
      exact y3 hpos (fun e => by have : (List.range es.size).length = 0 := by rw [e]; rfl
                                 rw [List.length_range] at this; omega)
end
end L3

set_option Elab.async false
set_option linter.all false
set_option maxRecDepth 100000
set_option maxHeartbeats 4000000
namespace L3
open PySem PySem.Spec PyProof.Rows
/-- what a set asks of the tuples vs at the state s -/
structure Elts (prog : Program) (w : World) (n : Nat) (vs : List Value) (s : Shared) : Prop where
  ref : ∀ v ∈ vs, ∃ b, v = .ref b
  hash : ∀ v ∈ vs, ∀ (A : Around) (E : Value → Shared → Prop) (Q : Int → Shared → Prop), A.units + n < cLine → (∀ i tk, Q i { s with toks := tk }) → wpAny (model prog w) A (pyHash v) Q E s
  eq : ∀ u ∈ vs, ∀ v ∈ vs, EqAny prog w n s u v
  quiet : ∀ v ∈ vs, Quiet prog w 8 s v
  oa : ∀ v ∈ vs, OaNo prog w 8 s v
  hb : ∀ v ∈ vs, HbAny prog w 8 s v
theorem get?_beyond {h : Heap} {b : Addr} (hb : h.objs.size ≤ b) : h.get? b = none := by
  cases e : h.get? b with
  | none => rfl
  | some o => exact absurd (Heap.lt_size e) (Nat.not_lt.mpr hb)
/-- a set whose things are all among vs, each kind of it: what is known when it is made -/
def SetL (B : Bool) (h : Heap) (a : Addr) (vs : List Value) : Prop := ∃ es ep t, SetAt h a es ep t ∧ t.fits es.size = true ∧ (B = false → t.led = true) ∧ (∀ e ∈ es.toList, e.2 ∈ vs) ∧ es.size ≤ vs.length ∧ (vs ≠ [] → 0 < es.size)
theorem SetW.keep {B : Bool} {h h' : Heap} {a : Addr} {vs : List Value} (x : SetW B h a vs) (k : ∀ o, h.get? a = some o → h'.get? a = some o) : SetW B h' a vs := by
  obtain ⟨o, es, ep, t, ho, r⟩ := x
  exact ⟨o, es, ep, t, k o ho, r⟩
theorem SetW.toL {B : Bool} {h : Heap} {a : Addr} {vs : List Value} (x : SetW B h a vs) : SetL B h a vs := by
  obtain ⟨o, es, ep, t, ho, hc, hd, hT, r⟩ := x
  exact ⟨es, ep, t, ⟨o, ho, hc, hd⟩, hT.fits, r⟩
/-- a set of scannable things -/
def SetP {prog : Program} {w : World} {K : Type} [DecidableEq K] (knd : KeyKind prog w K) (B : Bool) (h : Heap) (a : Addr) (vs : List Value) : Prop :=
  ∃ o es ep t, h.get? a = some o ∧ o.ExactSet ∧ o.data = .set es ep t ∧ t.fits es.size = true ∧ ElemsOf knd es.toList ∧ (B = false → t.led = true) ∧ (∀ e ∈ es.toList, e.2 ∈ vs) ∧ es.size ≤ vs.length ∧ (vs ≠ [] → 0 < es.size)
theorem SetP.keep {prog : Program} {w : World} {K : Type} [DecidableEq K] {knd : KeyKind prog w K} {B : Bool} {h h' : Heap} {a : Addr} {vs : List Value} (x : SetP knd B h a vs) (k : ∀ o, h.get? a = some o → h'.get? a = some o) : SetP knd B h' a vs := by
  obtain ⟨o, es, ep, t, ho, r⟩ := x
  exact ⟨o, es, ep, t, k o ho, r⟩
theorem SetP.toL {prog : Program} {w : World} {K : Type} [DecidableEq K] {knd : KeyKind prog w K} {B : Bool} {h : Heap} {a : Addr} {vs : List Value} (x : SetP knd B h a vs) : SetL B h a vs := by
  obtain ⟨o, es, ep, t, ho, hc, hd, hf, _, r⟩ := x
  exact ⟨es, ep, t, ⟨o, ho, hc, hd⟩, hf, r⟩
theorem layNew_led (t : SetTable) (es : Array (Int × Value)) (h : Int) (x : Value) : (layNew t es h x).2.1.led = t.led := by
  unfold layNew
  split
  · dsimp only
    unfold SetTable.orStandIn
    split <;> rfl
  · rfl
theorem relayAll_led (t : SetTable) (es : Array (Int × Value)) (n : Nat) : (relayAll t es n).2.1.led = t.led := by
  unfold relayAll
  split
  · rename_i t' order he
    dsimp only
    split
    · unfold SetTable.relaid SetTable.laid at he
      cases hc : SetTable.layClean (SetTable.sizeAbove n - 1) (es.map (·.1)) with
      | none => rw [hc] at he; cases he
      | some ow => rw [hc] at he; cases he; rfl
    · rfl
  · rfl
section
variable {prog : Program} {w : World} {A : Around} {E : Value → Shared → Prop} {R : Result → Shared → Prop} {n : Nat} {h0 : Heap} {s : Shared}
theorem add_scan {K : Type} [DecidableEq K] {knd : KeyKind prog w K} {B : Bool} {a : Addr} {vs : List Value} {k : K} {x : Value} {Q : Bool → Shared → Prop} (hkey : knd.is k x = true) (hsc : x.scannable = true) (hS : SetP knd B s.heap a vs) (hroom : vs.length + 1 < scanBound)
    (h : ∀ h' b, Heap.SameBut a s.heap h' → SetP knd B h' a (vs ++ [x]) → Q b { s with heap := h' }) :
    wpAny (model prog w) A (setAddHashed a x (knd.hash k)) Q E s := by
  obtain ⟨o, es, ep, t, ho, hex, hd, hf, hel, hL, hin, hle, hne⟩ := hS
  have hb : es.size < scanBound := by omega
  unfold setAddHashed setAddHashedIn
  refine wpAny_holding (wpAny_bind (wpAny_setState_of ho hd hf ?_))
  dsimp only
  rw [byScan_of hsc hb hel]
  simp only [↓reduceIte]
  unfold setAddByScan
  refine wpAny_bind ?_
  refine wpAny_bind (wpAny_rule ?_)
  refine wpAny_bind (wpAny_setScan_of hkey ho hd hf hel ?_)
  cases hr : List.findIdx? (fun e => knd.is k e.2) es.toList with
  | some j =>
    dsimp only
    obtain ⟨hj, hpj, _⟩ := List.findIdx?_eq_some_iff_getElem.mp hr
    have h0 : 0 < es.size := by have : j < es.toList.length := hj; rw [Array.length_toList] at this; omega
    refine wpAny_pure (wpAny_pure ?_)
    have e : s = { s with heap := s.heap } := by cases s; rfl
    rw [e]
    exact h s.heap false (Heap.SameBut.refl a s.heap) ⟨o, es, ep, t, ho, hex, hd, hf, hel, hL, fun e m => List.mem_append_left _ (hin e m), by rw [List.length_append]; omega, fun _ => h0⟩
  | none =>
    dsimp only
    have hgw : ∀ (b : Bool) {s₁ : Shared} {Q' : Unit → Shared → Prop}, Q' () s₁ → wpAny (model prog w) A (match b with | true => rule "set.scan.the-table-gave-way" | false => pure ()) Q' E s₁ :=
      fun b s₁ Q' hq => by cases b <;> first | exact wpAny_pure hq | exact wpAny_rule hq
    have hperm := layNew_perm t es (knd.hash k) x
    have hfits := layNew_fits t es (knd.hash k) x
    have hled := layNew_led t es (knd.hash k) x
    generalize hLn : layNew t es (knd.hash k) x = L at hperm hfits hled ⊢
    obtain ⟨es1, t1, wasDummy, gave⟩ := L
    dsimp only at hperm hfits hled ⊢
    rw [Array.toList_push] at hperm
    have hel1 : ElemsOf knd es1.toList := (hel.push hkey hsc).perm hperm
    have hsz1 : es1.size = es.size + 1 := by rw [← Array.length_toList, hperm.length_eq, List.length_append, Array.length_toList]; rfl
    have hin1 : ∀ e ∈ es1.toList, e.2 ∈ vs ++ [x] := fun e m => by
      rcases List.mem_append.mp (hperm.mem_iff.mp m) with m | m
      · exact List.mem_append_left _ (hin e m)
      · rw [List.mem_singleton] at m; subst m; simp
    refine wpAny_bind (hgw _ ?_)
    have rest : ∀ t2 : SetTable, t2.fits es1.size = true → t2.led = t.led → wpAny (model prog w) A (do
        storeSet a es1 t2
        if (!wasDummy && t2.tooFull) = true then do
            (match (relayAll t2 es1 (SetTable.grown es1.size)).2.2 with | true => rule "set.scan.the-table-gave-way" | false => pure ())
            storeSet a (relayAll t2 es1 (SetTable.grown es1.size)).1 (relayAll t2 es1 (SetTable.grown es1.size)).2.1
            pure (some true)
          else pure (some true)) (fun a_1 s' => wpAny (model prog w) A (match a_1 with | some added => pure added | none => setAddHashedIn a x (knd.hash k) 99999) Q E s') E s := by
      intro t2 f2 l2
      refine wpAny_bind (wpAny_storeSet_of ho hd ?_ (by rw [sizeLine_eq]; have : scanBound = 4096 := rfl; omega))
      have hg := store_get (es' := es1) (t' := t2) ho hd
      have sb := Heap.SameBut.update s.heap a (Obj.putSet es1 t2)
      split
      · have hp := relayAll_perm t2 es1 (SetTable.grown es1.size)
        have hfr := relayAll_fits t2 es1 (SetTable.grown es1.size)
        have hlr := relayAll_led t2 es1 (SetTable.grown es1.size)
        generalize hRl : relayAll t2 es1 (SetTable.grown es1.size) = Rl at hp hfr hlr ⊢
        obtain ⟨es2, t3, gave2⟩ := Rl
        dsimp only at hp hfr hlr ⊢
        have hsz : es2.size = es1.size := by rw [← Array.length_toList, hp.length_eq, Array.length_toList]
        refine wpAny_bind (hgw _ ?_)
        refine wpAny_bind (wpAny_storeSet_of hg rfl ?_ (by rw [sizeLine_eq]; have : scanBound = 4096 := rfl; omega))
        have hg' := store_get (es' := es2) (t' := t3) hg rfl
        exact wpAny_pure (wpAny_pure (h _ true (sb.trans (Heap.SameBut.update _ a _)) ⟨_, es2, _, t3, hg', hex, rfl, hfr, hel1.perm hp, (fun z => by rw [hlr, l2]; exact hL z), fun e m => hin1 e (hp.mem_iff.mp m), by rw [hsz, hsz1, List.length_append]; simp; omega, fun _ => by omega⟩))
      · exact wpAny_pure (wpAny_pure (h _ true sb ⟨_, es1, _, t2, hg, hex, rfl, f2, hel1, (fun z => by rw [l2]; exact hL z), hin1, by rw [hsz1, List.length_append]; simp; omega, fun _ => by omega⟩))
    split
    · refine wpAny_bind ?_
      rw [hashByValue_scannable 8 hsc]
      refine wpAny_pure ?_
      split
      · exact rest t1 hfits hled
      · exact rest _ (SetTable.fits_plain_off hfits) hled
    · refine wpAny_bind (wpAny_pure ?_)
      simp only [↓reduceIte]
      exact rest t1 hfits hled
/-- the loop of set(list) by what one step does -/
theorem set_loopG {SI : Heap → List Value → Prop} {I ax S : Addr} {items : List Value} (hh : A.handled = none) (hne : ax ≠ I) (hSI : S ≠ I) (hSa : S ≠ ax) (h0S : h0.get? S = none) (h0I : h0.get? I = none)
    (hkeep : ∀ {h h' vs}, SI h vs → (∀ o, h.get? S = some o → h'.get? S = some o) → SI h' vs)
    (hadd : ∀ (s : Shared) (i : Nat) (v : Value), items[i]? = some v → (∀ b o, h0.get? b = some o → s.heap.get? b = some o) → SI s.heap (items.take i) →
      ∀ (E : Value → Shared → Prop) (Q : Bool → Shared → Prop), (∀ h' tk b, Heap.SameBut S s.heap h' → SI h' (items.take i ++ [v]) → Q b { s with heap := h', toks := tk }) → wpAny (model prog w) A.in1 (setAdd S v) Q E s) :
    ∀ (c i : Nat) (s : Shared), items.length - i = c → i ≤ items.length → s.heap.IsListIter I ax i ∧ s.heap.IsList ax items.toArray → (∀ b o, h0.get? b = some o → s.heap.get? b = some o) →
      SI s.heap (items.take i) →
      (∀ (h' : Heap) (tk : Nat), SI h' items → (∀ b o, b ≠ S → b ≠ I → s.heap.get? b = some o → h'.get? b = some o) → R (.ok (.ret .none)) { s with heap := h', toks := tk }) →
      codeAny (model prog w) A (.builtin "set.update.loop" ⟨[.ref S, .ref I], []⟩) R s := by
  have W := Walks.list (prog := prog) (w := w) (A := A.in1) (by simpa using hh) I ax hne items.toArray
  have zs : items.toArray.size = items.length := by simp
  intro c
  induction c with
  | zero =>
    intro i s hc hi st hg hS hR
    have e : i = items.toArray.size := by omega
    subst e
    refine codeAny_builtin PyProof.Rows.F.entry_set_update_loop ?_
    rw [Around.under_plainId PyProof.Rows.F.plain_set_update_loop _]
    show wpAny _ A.in1 (pyNext (.ref I) >>= _) _ _ s
    refine wpAny_bind (W.done s _ _ st fun h' tk hk => ?_)
    show wpAny _ A.in1 (ret Value.none) _ _ _
    have et : items.take items.toArray.size = items := by rw [zs]; exact List.take_length
    rw [et] at hS
    exact wpAny_pure (hR h' tk (hkeep hS fun o z => hk S o (by simpa using hSI) z) fun b o _ hbI z => hk b o (by simpa using hbI) z)
  | succ c ih =>
    intro i s hc hi st hg hS hR
    have hlt : i < items.toArray.size := by omega
    refine codeAny_builtin PyProof.Rows.F.entry_set_update_loop ?_
    rw [Around.under_plainId PyProof.Rows.F.plain_set_update_loop _]
    show wpAny _ A.in1 (pyNext (.ref I) >>= _) _ _ s
    refine wpAny_bind (W.item i s _ _ hlt st fun v h1 tk hP st1 hk => ?_)
    have hvi : items[i]? = some v := by simpa using hP
    have hS1 : SI h1 (items.take i) := hkeep hS fun o z => hk S o (by simpa using hSI) z
    have hg1 : ∀ b o, h0.get? b = some o → h1.get? b = some o := fun b o z => hk b o (by simp; rintro rfl; rw [h0I] at z; cases z) (hg b o z)
    show wpAny _ A.in1 (holding [v] (setAdd S v) >>= _) _ _ { s with heap := h1, toks := tk }
    refine wpAny_bind (wpAny_holding ?_)
    refine hadd { s with heap := h1, toks := tk } i v hvi hg1 hS1 _ _ fun h2 tk2 bb hsb hS2 => ?_
    have et : items.take (i + 1) = items.take i ++ [v] := by rw [List.take_add_one, hvi]; rfl
    rw [← et] at hS2
    refine wpAny_pure ⟨plainId_quiet PyProof.Rows.F.plain_set_update_loop _, ih (i + 1) _ (by omega) (by omega) (W.frame _ _ _ st1 fun b hb o z => ?_) (fun b o z => ?_) hS2 fun h' tk'' a1 a4 => ?_⟩
    · rw [hsb.2 b (fun q => by subst q; simp at hb; exact hb.elim hSI hSa)]; exact z
    · show h2.get? b = some o
      rw [hsb.2 b (by rintro rfl; rw [h0S] at z; cases z)]; exact hg1 b o z
    · exact hR h' tk'' a1 fun b o hbS hbI z => a4 b o hbS hbI (by show h2.get? b = some o; rw [hsb.2 b hbS]; exact hk b o (by simpa using hbI) z)
theorem code_set_newL (a : Value) {Q₁ : Value → Shared → Prop}
    (h : Q₁ (.ref s.heap.objs.size) { s with heap := s.heap.push { cls := .type "set", dict := none, data := .set #[] 0 (.fresh 0 0 (!w.params.followText "set-order")) } }) :
    codeAny (model prog w) A (.call (.builtin "set.__new__") ⟨[.type "set", a], []⟩) (wants Q₁ E) s := by
  refine codeAny_of_tree ?_
  show wpAny _ A.in1 (do checkBuiltinCall "set.__new__" ⟨[.type "set", a], []⟩; again (.builtin "set.__new__" ⟨[.type "set", a], []⟩)) _ _ s
  refine wpAny_bind (wpAny_of_eq (PySem.F.newCall_set_1 a) (wpAny_pure ⟨plainId_quiet PySem.F.plain_set_new _, codeAny_builtin PySem.F.entry_set_new ?_⟩))
  rw [Around.under_plainId PySem.F.plain_set_new _]
  unfold Builtin.«set.__new__» Builtin.Frozenset.newClass
  have hsub := sub_set_self
  obtain ⟨hp, g, d, tk, os⟩ := s
  dsimp only
  wp_walk
  refine wpAny_askSetting (wpAny_pure ?_)
  dsimp only
  simp only [newObj]
  refine wpAny_bind (wpAny_alloc (wpAny_pure ?_))
  exact wpAny_pure h
end
end L3

set_option Elab.async false
set_option linter.all false
set_option maxRecDepth 100000
set_option maxHeartbeats 8000000
namespace L3
open PySem PySem.Spec PyProof.Rows
section
variable {prog : Program} {w : World} {A : Around} {E : Value → Shared → Prop} {n : Nat}
theorem call_setG {s : Shared} {l : Addr} {items : List Value} {SI : Heap → List Value → Prop} {Q : Value → Shared → Prop} (hh : A.handled = none) (hl : s.heap.IsList l items.toArray)
    (hkeep : ∀ {h h' vs}, SI h vs → (∀ o, h.get? s.heap.objs.size = some o → h'.get? s.heap.objs.size = some o) → SI h' vs)
    (hnew : SI (s.heap.push { cls := .type "set", dict := none, data := .set #[] 0 (.fresh 0 0 (!w.params.followText "set-order")) }) [])
    (hadd : ∀ (A' : Around) (s' : Shared) (i : Nat) (v : Value), A'.units ≤ A.units + 5 → items[i]? = some v → (∀ b o, s.heap.get? b = some o → s'.heap.get? b = some o) → SI s'.heap (items.take i) →
      ∀ (E : Value → Shared → Prop) (Q : Bool → Shared → Prop), (∀ h' tk b, Heap.SameBut s.heap.objs.size s'.heap h' → SI h' (items.take i ++ [v]) → Q b { s' with heap := h', toks := tk }) → wpAny (model prog w) A' (setAdd s.heap.objs.size v) Q E s')
    (h : ∀ (h' : Heap) (tk : Nat), SI h' items → (∀ b o, s.heap.get? b = some o → h'.get? b = some o) → Q (.ref s.heap.objs.size) { s with heap := h', toks := tk }) :
    wpAny (model prog w) A (call (.type "set") [.ref l]) Q E s := by
  have hmade := PySem.F.called_set.made
  have hsub := PySem.F.called_set.sub
  obtain ⟨c, tl, hmro⟩ := PySem.F.called_set.mro
  refine wpAny_call (codeAny_of_tree (wpAny_pure ⟨Code.quiet_builtin _ (by decide +kernel), codeAny_builtin PySem.F.entry_type_call ?_⟩))
  rw [Around.under_plain (weight_type_call_type "set" [.ref l] []) rfl]
  have g1 := PySem.F.called_set.notType
  have g2 := PySem.F.called_set.canCreate
  have g3 := PySem.F.typeCall_set_1 (.ref l)
  repeat (any_goals (first | assumption | wp_step))
  generalize hled : (!w.params.followText "set-order") = led at hnew
  refine codeAny_mono (code_set_newL (.ref l) (E := E) (Q₁ := fun obj t => obj = .ref s.heap.objs.size ∧ t = { s with heap := s.heap.push { cls := .type "set", dict := none, data := .set #[] 0 (.fresh 0 0 led) } }) ⟨rfl, by rw [hled]⟩) fun r t hr => ?_
  cases r with
  | error e => exact hr
  | ok fl =>
    cases fl with
    | ret obj =>
      obtain ⟨rfl, rfl⟩ := hr
      have hS : (s.heap.push { cls := .type "set", dict := none, data := .set #[] 0 (.fresh 0 0 led) }).get? s.heap.objs.size = some { cls := .type "set", dict := none, data := .set #[] 0 (.fresh 0 0 led) } := Heap.get?_push_size _ rfl
      have hT : Shared.TypeIs { s with heap := s.heap.push { cls := .type "set", dict := none, data := .set #[] 0 (.fresh 0 0 led) } } (.ref s.heap.objs.size) "set" := ⟨_, hS, rfl⟩
      have hli := PySem.F.called_set.init.lookup
      have hbi := PySem.F.called_set.init.bind (.ref s.heap.objs.size)
      repeat (any_goals (first | assumption | wp_step))
      refine codeAny_mono (codeAny_call_builtin (R := wants (fun r u => r = .none ∧ ∃ h' tk, u = { s with heap := h', toks := tk } ∧ SI h' items ∧
          (∀ b o, s.heap.get? b = some o → h'.get? b = some o)) E) PySem.F.called_set.init.plain PySem.F.entry_set_init (check_set_init_1 hT ?_)) fun r2 u hr2 => ?_
      · obtain ⟨ol, hol, hcl, nl, hdl⟩ := hl
        obtain ⟨ocls, odict, odata, oslots⟩ := ol
        simp only at hcl hdl
        subst hcl; subst hdl
        have hol' : (s.heap.push { cls := .type "set", dict := none, data := .set #[] 0 (.fresh 0 0 led) }).get? l = some { cls := .type "list", dict := odict, data := .seq items.toArray nl, slots := oslots } := Heap.get?_push_of_some _ hol
        have hsls := PySem.F.sub_list_set
        have hslf := PySem.F.sub_list_frozenset
        have hne : (Value.type "list" == Value.type "dict") = false := by decide
        have hl1 : (s.heap.push { cls := .type "set", dict := none, data := .set #[] 0 (.fresh 0 0 led) }).IsList l items.toArray := ⟨_, hol', rfl, nl, rfl⟩
        unfold Builtin.«set.__init__» noKeywords Builtin.Frozenset.updateFrom
        generalize hPI : pyIter = PI
        wp_walk
        subst hPI
        refine wpAny_pyIter_list hl1 ?_
        refine wpAny_bind (wpAny_runValue ?_)
        have hlS : l < s.heap.objs.size := Heap.lt_size hol
        have z1 : (s.heap.push { cls := .type "set", dict := none, data := .set #[] 0 (.fresh 0 0 led) }).objs.size = s.heap.objs.size + 1 := Heap.size_push _ _
        refine set_loopG (h0 := s.heap) (SI := SI) (items := items) (ax := l) (by simpa using hh) (by rw [z1]; exact Nat.ne_of_lt (Nat.lt_succ_of_lt hlS)) (by rw [z1]; exact Nat.ne_of_lt (Nat.lt_succ_self _)) (Nat.ne_of_gt hlS)
          (get?_beyond (Nat.le_refl _)) (get?_beyond (by rw [z1]; exact Nat.le_succ _)) hkeep (fun s' i v hv hg hS E Q hQ => hadd _ s' i v ?hu hv hg hS E Q hQ) (items.length - 0) 0 _ (by omega) (Nat.zero_le _)
          ⟨⟨_, Heap.get?_push_size _ rfl, rfl, rfl⟩, (hl1.push _)⟩ (fun b o z => Heap.get?_push_of_some _ (Heap.get?_push_of_some _ z)) ?hS0 ?hR
        case hu => simp only [Around.in1_units]; omega
        case hS0 => exact hkeep hnew fun o z => Heap.get?_push_of_some _ z
        case hR =>
          intro h' tk a1 a4
          show wpAny _ _ _ _ _ _
          refine wpAny_pure ?_
          show wpAny _ _ (ret Value.none) _ _ _
          refine wpAny_pure ⟨rfl, h', tk, rfl, a1, fun b o z => ?_⟩
          have hlt := Heap.lt_size z
          exact a4 b o (Nat.ne_of_lt hlt) (by rw [z1]; exact Nat.ne_of_lt (Nat.lt_succ_of_lt hlt)) (Heap.get?_push_of_some _ (Heap.get?_push_of_some _ z))
      · cases r2 with
        | error e => exact hr2
        | ok fl2 =>
          cases fl2 with
          | ret r =>
            obtain ⟨rfl, h', tk, rfl, a1, a4⟩ := hr2
            repeat (any_goals (first | assumption | wp_step))
            exact h _ _ a1 a4
          | _ => exact hr2.elim
    | _ => exact hr.elim
/-- set(list) of tuples -/
theorem call_setT {s : Shared} {l : Addr} {items : List Value} {Q : Value → Shared → Prop} (hh : A.handled = none) (hu : A.units + 5 + n < cLine) (hl : s.heap.IsList l items.toArray)
    (hE : ∀ s' : Shared, (∀ b o, s.heap.get? b = some o → s'.heap.get? b = some o) → Elts prog w n items s') (hb : items.length < 18)
    (h : ∀ (h' : Heap) (tk : Nat), SetL (w.params.followText "set-order") h' s.heap.objs.size items → (∀ b o, s.heap.get? b = some o → h'.get? b = some o) → Q (.ref s.heap.objs.size) { s with heap := h', toks := tk }) :
    wpAny (model prog w) A (call (.type "set") [.ref l]) Q E s := by
  refine call_setG (SI := fun h vs => SetW (w.params.followText "set-order") h s.heap.objs.size vs) hh hl (fun x k => x.keep k) ?_ ?_ fun h' tk a b => h h' tk a.toL b
  · exact ⟨_, #[], 0, _, Heap.get?_push_size _ rfl, ⟨rfl, rfl, rfl⟩, rfl, ⟨rfl, rfl, .inl ⟨rfl, by decide⟩⟩, (fun z => by show (!_) = true; rw [z]; rfl), (fun e he => by simp at he), Nat.zero_le _, fun z => absurd rfl z⟩
  · intro A' s' i v hA hvi hg hS E Q hQ
    have hv : v ∈ items := List.mem_of_getElem? hvi
    have hi : i < items.length := by
      rcases Nat.lt_or_ge i items.length with h | h
      · exact h
      · rw [List.getElem?_eq_none h] at hvi; cases hvi
    have hin : ∀ u ∈ items.take i, u ∈ items := fun u m => List.mem_of_mem_take m
    have F1 := hE s' hg
    obtain ⟨b, eb⟩ := F1.ref v hv
    unfold setAdd
    refine wpAny_holding (wpAny_bind (F1.hash v hv _ _ _ (by omega) fun hv' tk' => ?_))
    have F2 := hE { s' with toks := tk' } hg
    refine add_ref (n := n) (s := { s' with toks := tk' }) (vs := items.take i) eb (by omega) hS (by rw [List.length_take]; omega) (fun u m => F2.ref u (hin u m)) (fun u m => F2.eq u (hin u m) v hv)
      (fun l hl Q hQ => seen_no ⟨F2.quiet v hv, F2.oa v hv⟩ (fun y m => ⟨F2.quiet y (hin y (hl y m)), F2.oa y (hin y (hl y m))⟩) hQ) (fun Q hQ => F2.hb v hv _ _ _ hQ) fun h2 bb hsb hS2 => hQ h2 tk' bb hsb hS2
/-- set(list) of scannable things -/
theorem call_setS {K : Type} [DecidableEq K] {knd : KeyKind prog w K} {s : Shared} {l : Addr} {items : List Value} {Q : Value → Shared → Prop} (hh : A.handled = none) (hl : s.heap.IsList l items.toArray)
    (hE : ∀ v ∈ items, v.scannable = true ∧ ∃ k, knd.is k v = true) (hb : items.length < 1000)
    (h : ∀ (h' : Heap) (tk : Nat), SetL (w.params.followText "set-order") h' s.heap.objs.size items → (∀ b o, s.heap.get? b = some o → h'.get? b = some o) → Q (.ref s.heap.objs.size) { s with heap := h', toks := tk }) :
    wpAny (model prog w) A (call (.type "set") [.ref l]) Q E s := by
  refine call_setG (SI := fun h vs => SetP knd (w.params.followText "set-order") h s.heap.objs.size vs) hh hl (fun x k => x.keep k) ?_ ?_ fun h' tk a b => h h' tk a.toL b
  · exact ⟨_, #[], 0, _, Heap.get?_push_size _ rfl, ⟨rfl, rfl, rfl⟩, rfl, by rfl, (fun e he => by simp at he), (fun z => by show (!_) = true; rw [z]; rfl), (fun e he => by simp at he), Nat.zero_le _, fun z => absurd rfl z⟩
  · intro A' s' i v hA hvi hg hS E Q hQ
    have hv : v ∈ items := List.mem_of_getElem? hvi
    obtain ⟨h1, k, h2⟩ := hE v hv
    unfold setAdd
    refine wpAny_holding (wpAny_bind (knd.pyHash h2 ?_))
    refine add_scan (s := { s' with toks := s'.toks + 1 }) (vs := items.take i) h2 h1 hS (by rw [List.length_take]; have : scanBound = 4096 := rfl; omega) fun h' b sb hS' => hQ h' _ b sb hS'
end
end L3

set_option Elab.async false
set_option linter.all false
set_option maxRecDepth 100000
set_option maxHeartbeats 4000000
namespace L3
open PySem PySem.Spec PyProof.Rows
section
variable {prog : Program} {w : World} {n : Nat} {s : Shared} {A : Around} {E : Value → Shared → Prop}
theorem wp_mapM {β : Type} {f : Value → Sem β} {g : Value → β} : ∀ {vs : List Value} {Q : List β → Shared → Prop}, (∀ v ∈ vs, ∀ (Q : β → Shared → Prop), Q (g v) s → wpAny (model prog w) A (f v) Q E s) → Q (vs.map g) s → wpAny (model prog w) A (vs.mapM f) Q E s
  | [], Q, _, h => by rw [List.mapM_nil]; exact wpAny_pure h
  | v :: vs, Q, hf, h => by
    rw [List.mapM_cons]
    refine wpAny_bind (hf v List.mem_cons_self _ ?_)
    refine wpAny_bind (wp_mapM (fun u hu => hf u (List.mem_cons_of_mem _ hu)) ?_)
    exact wpAny_pure h
theorem oneLt_lt {x y : Value} {Q : Bool → Shared → Prop} (hu : A.units + n < cLine) (h1 : LtAny prog w n s x y) (h : ∀ b, Q b s) : wpAny (model prog w) A (oneLt' false x y) Q E s := by
  rw [oneLt'_eq]
  simp only [Bool.false_eq_true, if_false]
  exact wpAny_bind (h1 A _ _ hu fun b => wpAny_truthy_bool (h b))
/-- two first things that a sort of tuples compares by their own type -/
def FirstOk (x y : Value) : Prop := (∃ a t b u, x = .int a t ∧ y = .int b u) ∨ (∃ a t b u, x = .str a t ∧ y = .str b u)
theorem oneLt_first {x y : Value} {Q : Bool → Shared → Prop} (h1 : FirstOk x y) (h : ∀ b, Q b s) : wpAny (model prog w) A (oneLt' true x y) Q E s := by
  rcases h1 with ⟨a, t, b, u, rfl, rfl⟩ | ⟨a, t, b, u, rfl, rfl⟩
  · exact oneLt_int (h _)
  · exact oneLt_str (h _)
theorem keyLt_tup {a b : Addr} {xs ys : List Value} {f : Bool} {Q : Bool → Shared → Prop} (hu : A.units + n < cLine) (hx : TupIs s a xs) (hy : TupIs s b ys) (he : ∀ p ∈ xs.zip ys, EqAny prog w n s p.1 p.2 ∧ LtAny prog w n s p.1 p.2)
    (hf : ∀ p ∈ (xs.zip ys)[0]?, FirstOk p.1 p.2) (h : ∀ b, Q b s) : wpAny (model prog w) A (keyLt' (tuples' f) (.ref a) (.ref b)) Q E s := by
  obtain ⟨oa, na, hoa, _, hda⟩ := hx
  obtain ⟨ob, nb, hob, _, hdb⟩ := hy
  show wpAny _ _ (Builtin.List.listItems (.ref a) >>= _) _ _ s
  refine wpAny_bind (listItems_at hoa hda ?_)
  refine wpAny_bind (listItems_at hob hdb ?_)
  refine wpAny_bind ?_
  refine wpAny_forIn_list _ (fun rest r s' => r.1 = none ∧ s' = s ∧ ∀ e ∈ rest, EqAny prog w n s e.1.1 e.1.2 ∧ ∀ (E : Value → Shared → Prop) (Q : Bool → Shared → Prop), (∀ b, Q b s) → wpAny (model prog w) A (oneLt' (f && e.2 == 0) e.1.1 e.1.2) Q E s) _ ?_ ?_ _ _ ⟨rfl, rfl, ?_⟩
  · rintro ⟨⟨u, v⟩, i⟩ rest r s' ⟨hr, rfl, ha⟩
    obtain ⟨e1, e2⟩ := ha ((u, v), i) List.mem_cons_self
    refine wpAny_bind (e1 A _ _ hu fun b => ?_)
    cases b
    · simp only [Bool.not_false, if_true]
      refine wpAny_bind (e2 _ _ fun b => ?_)
      exact wpAny_pure (wpAny_pure (h b))
    · simp only [Bool.not_true, Bool.false_eq_true, if_false]
      exact wpAny_pure ⟨rfl, rfl, fun p hp => ha p (List.mem_cons_of_mem _ hp)⟩
  · rintro ⟨r1, r2⟩ s' ⟨hr, rfl, _⟩
    simp only at hr
    subst hr
    exact wpAny_pure (h _)
  · rintro ⟨⟨u, v⟩, i⟩ hm
    have hi : (xs.zip ys)[i]? = some (u, v) := by
      have := List.mem_zipIdx_iff_getElem?.mp hm
      simpa using this
    obtain ⟨e1, e2⟩ := he (u, v) (List.mem_of_getElem? hi)
    refine ⟨e1, fun E Q h => ?_⟩
    show wpAny (model prog w) A (oneLt' (f && i == 0) u v) Q E s
    cases hfi : (f && i == 0)
    · exact oneLt_lt hu e2 h
    · have h0 : i = 0 := by
        rw [Bool.and_eq_true] at hfi
        simpa using hfi.2
      subst h0
      exact oneLt_first (hf (u, v) hi) h
def firstAt (s : Shared) : Value → Option Value
  | .ref a => match s.heap.get? a with
    | some o => match o.data with
      | .seq items _ => items[0]?
      | _ => none
    | none => none
  | _ => none
theorem firstAt_tup {a : Addr} {xs : List Value} (h : TupIs s a xs) : firstAt s (.ref a) = xs[0]? := by
  obtain ⟨o, n, ho, _, hd⟩ := h
  simp only [firstAt, ho, hd]
  simp
theorem firstOf_tup {a : Addr} {xs : List Value} {Q : Option Value → Shared → Prop} (hx : TupIs s a xs) (h : Q (firstAt s (.ref a)) s) : wpAny (model prog w) A (firstOfTuple' (.ref a)) Q E s := by
  rw [firstAt_tup hx] at h
  have hT := hx.typeIs
  obtain ⟨o, n, ho, _, hd⟩ := hx
  show wpAny _ _ (typeOf (.ref a) >>= _) _ _ s
  refine wpAny_bind (wpAny_typeOf hT ?_)
  have e : (Value.type "tuple" != Value.type "tuple") = false := by rfl
  simp only [e, Bool.false_eq_true, if_false]
  refine wpAny_bind (listItems_at ho hd (wpAny_pure ?_))
  simpa using h
def tyOf : Value → Value
  | .int _ _ => .type "int"
  | _ => .type "str"
def PlainFirst (x : Value) : Prop := (∃ a t, x = .int a t) ∨ (∃ a t, x = .str a t)
theorem typeOf_first {x : Value} {Q : Value → Shared → Prop} (hx : PlainFirst x) (h : Q (tyOf x) s) : wpAny (model prog w) A (typeOf x) Q E s := by
  rcases hx with ⟨a, t, rfl⟩ | ⟨a, t, rfl⟩
  · exact wpAny_pure h
  · exact wpAny_pure h
theorem oneType_firsts {vs : List Value} {Q : Option Value → Shared → Prop} (hv : ∀ v ∈ vs, PlainFirst v) (h : ∀ o, Q o s) : wpAny (model prog w) A (oneTypeOnly' vs.toArray) Q E s := by
  rw [oneTypeOnly'_eq, List.mapM_toArray, map_eq_pure_bind]
  refine wpAny_bind (wpAny_bind (wp_mapM (g := tyOf) (fun v m Q h => typeOf_first (hv v m) h) (wpAny_pure ?_)))
  cases (vs.map tyOf).toArray[0]? with
  | none => exact wpAny_pure (h _)
  | some t => exact wpAny_pure (h _)
theorem keyKind_tups {vs : List Value} {Q : SortKind → Shared → Prop} (hv : ∀ v ∈ vs, ∃ a x xs, v = .ref a ∧ TupIs s a (x :: xs) ∧ PlainFirst x) (h : ∀ f, Q (tuples' f) s) : wpAny (model prog w) A (keyKind' vs.toArray) Q E s := by
  rw [keyKind'_eq, List.mapM_toArray, map_eq_pure_bind]
  refine wpAny_bind (wpAny_bind (wp_mapM (g := firstAt s) (fun v m Q h => ?_) (wpAny_pure ?_)))
  · obtain ⟨a, x, xs, rfl, t, _⟩ := hv v m
    exact firstOf_tup t h
  · have some_ : ∀ v ∈ vs, ∃ x, firstAt s v = some x ∧ PlainFirst x := fun v m => by
      obtain ⟨a, x, xs, rfl, t, p⟩ := hv v m
      exact ⟨x, by rw [firstAt_tup t]; rfl, p⟩
    have hall : (vs.map (firstAt s)).toArray.all (·.isSome) = true := by
      rw [List.all_toArray, List.all_eq_true]
      intro o ho
      obtain ⟨v, m, rfl⟩ := List.mem_map.mp ho
      obtain ⟨x, e, _⟩ := some_ v m
      rw [e]; rfl
    rw [if_pos hall]
    refine wpAny_bind (wpAny_rule ?_)
    rw [List.filterMap_toArray]
    refine wpAny_bind (oneType_firsts (fun y hy => ?_) fun o => wpAny_pure (h _))
    obtain ⟨o, ho, e⟩ := List.mem_filterMap.mp hy
    obtain ⟨v, m, rfl⟩ := List.mem_map.mp ho
    obtain ⟨x, e', p⟩ := some_ v m
    rw [e'] at e
    cases e
    exact p
/-- a list of tuples can be sorted where the things at like places answer each other -/
theorem sortOk_tups {vs : List Value} (hu : A.units + n < cLine) (hv : ∀ v ∈ vs, ∃ a x xs, v = .ref a ∧ TupIs s a (x :: xs) ∧ PlainFirst x)
    (hc : ∀ a b xs ys, Value.ref a ∈ vs → Value.ref b ∈ vs → TupIs s a xs → TupIs s b ys → (∀ p ∈ xs.zip ys, EqAny prog w n s p.1 p.2 ∧ LtAny prog w n s p.1 p.2) ∧ (∀ p ∈ (xs.zip ys)[0]?, FirstOk p.1 p.2)) : SortOk prog w A vs s := by
  intro _ E Q h
  refine keyKind_tups hv fun f => h _ ?_
  intro p hp q hq E Q h
  rw [pairsOf_toList] at hp hq
  have m : ∀ {r : Value × Value}, r ∈ vs.zip vs → r.1 ∈ vs := fun {r} hr => (List.of_mem_zip (a := r.1) (b := r.2) hr).1
  obtain ⟨a, x, xs, e, t, _⟩ := hv _ (m hp)
  obtain ⟨b, y, ys, e', t', _⟩ := hv _ (m hq)
  have k := hc a b _ _ (e ▸ m hp) (e' ▸ m hq) t t'
  rw [e, e']
  exact keyLt_tup hu t t' k.1 k.2 h
end
end L3

set_option Elab.async false
set_option linter.all false
set_option maxRecDepth 100000
set_option maxHeartbeats 8000000
namespace L3
open PySem PySem.Spec PyProof.Rows
section
variable {prog : Program} {w : World} {A : Around} {E : Value → Shared → Prop} {s : Shared}
/-- the things of a set, gone through -/
theorem collect_set {a : Addr} {vs : List Value} {Q : List Value → Shared → Prop} (hh : A.handled = none) (hS : SetL (w.params.followText "set-order") s.heap a vs) (hz : vs.length ≤ 1000)
    (hQ : ∀ (seq : List Value) (h' : Heap) dr tk, (∀ v ∈ seq, v ∈ vs) → seq.length ≤ vs.length → (vs ≠ [] → 0 < seq.length) → s.heap.objs.size ≤ h'.objs.size → (∀ b o, s.heap.get? b = some o → h'.get? b = some o) → Q seq { s with heap := h', drawn := dr, toks := tk }) :
    wpAny (model prog w) A (collect (.ref a)) Q E s := by
  obtain ⟨es, ep, t, hA, hf, hL, hin, hle, hne⟩ := hS
  unfold collect
  refine wpAny_bind (wpAny_runValue (codeAny_builtin PySem.F.entry_proto_collect ?_))
  rw [Around.under_plainId PySem.F.plain_proto_collect _]
  show wpAny _ A.in1 (newList [] >>= fun l => again (.builtin "list.__iadd__" ⟨[l, .ref a], []⟩)) _ _ s
  refine wpAny_bind (wpAny_newObj_type ?_)
  refine wpAny_pure ⟨plainId_quiet PySem.F.plain_list_iadd _, codeAny_builtin PySem.F.entry_list_iadd ?_⟩
  rw [Around.under_plainId PySem.F.plain_list_iadd _]
  have haz : a < s.heap.objs.size := by obtain ⟨o, ho, _⟩ := hA; exact Heap.lt_size ho
  have hA1 : SetAt (s.heap.push { cls := .type "list", data := .seq ([] : List Value).toArray }) a es ep t := hA.at fun o z => Heap.get?_push_of_some _ z
  show wpAny _ A.in1 (Builtin.List.listExtendWith (.ref s.heap.objs.size) (.ref a) (.ref s.heap.objs.size)) _ _ _
  unfold Builtin.List.listExtendWith
  have hT := SetAt.typeIs (s := { s with heap := s.heap.push { cls := .type "list", data := .seq ([] : List Value).toArray } }) hA1
  refine wpAny_bind (wpAny_typeOf hT ?_)
  have h1 : Builtin.List.listSameRef (.ref s.heap.objs.size) (.ref a) = false := by simp [Builtin.List.listSameRef, Nat.ne_of_gt haz]
  have h2 : (Value.type "set" == Value.type "list") = false := by decide
  have h3 : (Value.type "set" == Value.type "tuple") = false := by decide
  simp only [h1, h2, h3, Bool.or_false, Bool.false_eq_true, if_false]
  have z1 : (s.heap.push { cls := .type "list", data := .seq ([] : List Value).toArray }).objs.size = s.heap.objs.size + 1 := Heap.size_push _ _
  refine wpAny_bind (iter_set (A' := A.in1) (by simpa using hh) hA1 hf hL (by omega) fun I h1 dr hI hk1 hW => ?_)
  rw [z1] at hI
  obtain ⟨fp, seq, St, W, hst, hfp, hfa, hIf, m1, m2, m3⟩ := hW
  have hA2 : SetAt h1 a es ep t := hA1.at fun o z => hk1 _ o z
  refine wpAny_bind (wpAny_holding ?_)
  unfold Builtin.List.listLengthHint
  have hT2 := SetAt.typeIs (s := { s with heap := h1, drawn := dr }) hA2
  refine wpAny_bind (wpAny_specialOf hT2 look_set_len ?_)
  have sp : splitId "set.__len__" = some ("set", "__len__") := by decide +kernel
  dsimp only
  rw [sp]
  dsimp only
  refine wpAny_bind (wpAny_isInstance hT2 sub_set_self ?_)
  simp only [Bool.not_true, Bool.false_eq_true, if_false]
  show wpAny _ _ (if true = true then _ else _) _ _ _
  rw [if_pos rfl]
  refine wpAny_bind (wpAny_typeOf hT2 ?_)
  dsimp only
  refine wpAny_pure ?_
  show wpAny _ A.in1 (if (false || true) = true then _ else _) _ _ _
  rw [if_pos (show (false || true) = true from rfl)]
  refine wpAny_bind (wpAny_rule ?_)
  have hSf : s.heap.objs.size ∉ fp := fun hm => by
    rcases hfa _ hm with e | e
    · exact absurd e (Nat.ne_of_gt haz)
    · rw [z1] at e; omega
  have hS₁ : h1.get? s.heap.objs.size = some { cls := .type "list", data := .seq ([] : List Value).toArray } := hk1 _ _ (Heap.get?_push_size _ rfl)
  refine wpAny_bind ?_
  show wpAny _ A.in1 (updateSeq s.heap.objs.size (·.push .none) >>= fun _ => updateSeq s.heap.objs.size (·.pop)) _ _ _
  refine wpAny_bind (wpAny_updateSeq hS₁ rfl ?_)
  have hS₂ := Heap.get?_update_self (Obj.mapSeq (·.push Value.none)) hS₁ rfl
  refine wpAny_updateSeq hS₂ rfl ?_
  have hS₃ := Heap.get?_update_self (Obj.mapSeq (·.pop)) hS₂ rfl
  have oth : ∀ b o, b ≠ s.heap.objs.size → h1.get? b = some o → ((h1.update s.heap.objs.size (Obj.mapSeq (·.push Value.none))).update s.heap.objs.size (Obj.mapSeq (·.pop))).get? b = some o :=
    fun b o hb e => (Heap.get?_update_other _ _ (Ne.symm hb)).trans ((Heap.get?_update_other _ _ (Ne.symm hb)).trans e)
  refine wpAny_pure ⟨plainId_quiet PySem.F.plain_extend_loop _, codeAny_extend_loopS W.toS (by rw [sizeLine_eq]; omega) _ hSf _ seq.length 0 _ _ _ rfl (Nat.zero_le _)
    (W.frame 0 _ _ hst fun b hb o e => oth b o (fun h => hSf (h ▸ hb)) e) hS₃ (ItemsOf.nil _) fun s' acc' c' hm hS' hacc => ?_⟩
  show wpAny _ A (load s.heap.objs.size >>= _) _ _ s'
  refine wpAny_bind (wpAny_load hS' ?_)
  have e1 : acc'.toList = seq := by
    apply List.ext_getElem?
    intro i
    rw [Array.getElem?_toList]
    rcases Nat.lt_or_ge i acc'.size with h | h
    · have := hacc.2 i _ (getElem?_pos acc' i h)
      rw [getElem?_pos acc' i h]; exact this.symm
    · rw [Array.getElem?_eq_none h, List.getElem?_eq_none (by rw [hacc.1] at h; exact h)]
  refine wpAny_pure ?_
  rw [e1]
  obtain ⟨hh', gg, dd, tt, oo⟩ := s'
  obtain ⟨q1, q2, q3, q4, q5⟩ := hm
  dsimp only at q1 q2 q3 q4 q5
  subst q2; subst q3; subst q4
  have keep : ∀ b o, s.heap.get? b = some o → hh'.get? b = some o := fun b o z => by
    have hlt := Heap.lt_size z
    refine q1 b o (by simp only [List.mem_cons, List.not_mem_nil, or_false]; rintro (h | h); exact absurd hlt (by rw [h]; exact Nat.lt_irrefl _); exact absurd hlt (by rw [h]; exact Nat.not_lt.mpr (Nat.le_of_succ_le hI))) (oth b o (Nat.ne_of_lt hlt) (hk1 b o (Heap.get?_push_of_some _ z)))
  refine hQ seq hh' _ tt (fun v m => by obtain ⟨e, h1, h2⟩ := m1 v m; rw [h2]; exact hin e h1) (by omega) (fun z => m3 (hne z)) ?_ keep
  exact Nat.le_of_lt (Heap.lt_size hS')

/-- sorted of a set: its things in some order -/
theorem sortedSet {a : Addr} {vs : List Value} {Q : Value → Shared → Prop} (hh : A.handled = none) (hS : SetL (w.params.followText "set-order") s.heap a vs) (h64 : vs.length < 64)
    (hq : ∀ A' (s' : Shared) (seq : List Value), A'.units ≤ A.units + 2 → (∀ b o, s.heap.get? b = some o → s'.heap.get? b = some o) → (∀ v ∈ seq, v ∈ vs) → SortOk prog w A' seq s')
    (h : ∀ (out : List Value) (L n : Nat) (h' : Heap) dr tk, (∀ v ∈ out, v ∈ vs) → out.length ≤ vs.length → (vs ≠ [] → 0 < out.length) → s.heap.objs.size ≤ L → (∀ b o, s.heap.get? b = some o → h'.get? b = some o) →
      h'.get? L = some { cls := .type "list", data := .seq out.toArray n } → Q (.ref L) { s with heap := h', drawn := dr, toks := tk }) :
    wpAny (model prog w) A (call (.builtin "sorted") [.ref a]) Q E s := by
  refine Calls.call_function_entry kind_sorted plain_sorted entry_sorted (args_sorted1 _) ?_
  unfold Builtin.«sorted»
  refine wpAny_bind (m := checkCount "sorted" 1 1 _) (wpAny_pure ?_)
  refine wpAny_bind (collect_set (by simpa using hh) hS (by omega) fun seq h1 dr tk m1 m2 m3 hz k1 => ?_)
  refine wpAny_bind (wpAny_newList ?_ (by rw [sizeLine_eq]; omega))
  have hoL : (h1.push (seqObj "list" seq.toArray 0)).get? h1.objs.size = some (seqObj "list" seq.toArray 0) := Heap.get?_push_size _ rfl
  have k2 : ∀ b o, s.heap.get? b = some o → b ≠ h1.objs.size ∧ (h1.push (seqObj "list" seq.toArray 0)).get? b = some o := fun b o z => by
    have := k1 b o z
    exact ⟨Nat.ne_of_lt (Heap.lt_size this), Heap.get?_push_of_some _ this⟩
  show wpAny _ _ _ _ _ { s with heap := h1.push (seqObj "list" seq.toArray 0), drawn := dr, toks := tk }
  refine wpAny_bind (wpAny_holding (wpAny_call_entry slot_list_sort ⟨_, hoL, rfl⟩ entry_list_sort (list_sort_treeP hoL (fun h' k => hq _ _ seq ?_ (fun b o z => k b o (k2 b o z).1 (k2 b o z).2) m1) (by omega) fun out pm => ⟨_, rfl, ?_⟩) (args_list_sort _)))
  · simp only [Around.in1_units]; omega
  · obtain ⟨e, he⟩ := sortedHeap_at (out := out.toArray) hoL
    refine wpAny_pure ⟨_, rfl, h out h1.objs.size e _ dr tk (fun v m => m1 v (pm.mem_iff.mp m)) (by rw [pm.length_eq]; exact m2) (fun z => by rw [pm.length_eq]; exact m3 z) hz (fun b o z => ?_) he⟩
    obtain ⟨n1, z1⟩ := k2 b o z
    show (sortedHeap _ _ _ _).get? b = some o
    rw [sortedHeap_old n1 (Heap.lt_size z1)]; exact z1
theorem sortOk_one {vs : List Value} (hk : 2 ≤ vs.length → keyKind' vs.toArray = pure oneType') (hc : ∀ x ∈ vs, ∀ y ∈ vs, FirstOk x y) : SortOk prog w A vs s := by
  intro h2 E Q h
  rw [hk h2]
  refine wpAny_pure (h _ ?_)
  intro p hp q hq E Q h
  rw [pairsOf_toList] at hp hq
  rw [keyLt'_oneType]
  exact oneLt_first (hc _ (List.of_mem_zip (a := p.1) (b := p.2) hp).1 _ (List.of_mem_zip (a := q.1) (b := q.2) hq).1) h
theorem sortOk_ints {vs : List Value} (hv : ∀ v ∈ vs, ∃ i t, v = .int i t) : SortOk prog w A vs s := by
  have all : ∀ vs : List Value, (∀ v ∈ vs, ∃ i t, v = .int i t) → ∃ ns, IntsAre vs ns := by
    intro vs
    induction vs with
    | nil => intro _; exact ⟨[], .nil⟩
    | cons v r ih =>
      intro h
      obtain ⟨i, t, rfl⟩ := h v (by simp)
      obtain ⟨ns, q⟩ := ih fun u m => h u (List.mem_cons_of_mem _ m)
      exact ⟨i :: ns, .cons i t q⟩
  obtain ⟨ns, q⟩ := all vs hv
  refine sortOk_one (fun h2 => ?_) fun x hx y hy => ?_
  · match vs, h2, q with
    | v₁ :: v₂ :: r, _, q => exact keyKind_ints q
  · obtain ⟨i, t, rfl⟩ := hv x hx
    obtain ⟨j, u, rfl⟩ := hv y hy
    exact .inl ⟨_, _, _, _, rfl, rfl⟩
theorem sortOk_strs {vs : List Value} (hv : ∀ v ∈ vs, ∃ x t, v = .str x t) : SortOk prog w A vs s := by
  have all : ∀ vs : List Value, (∀ v ∈ vs, ∃ i t, v = .str i t) → ∃ ns, StrsAre vs ns := by
    intro vs
    induction vs with
    | nil => intro _; exact ⟨[], .nil⟩
    | cons v r ih =>
      intro h
      obtain ⟨i, t, rfl⟩ := h v (by simp)
      obtain ⟨ns, q⟩ := ih fun u m => h u (List.mem_cons_of_mem _ m)
      exact ⟨i :: ns, .cons i t q⟩
  obtain ⟨ns, q⟩ := all vs hv
  refine sortOk_one (fun h2 => ?_) fun x hx y hy => ?_
  · match vs, h2, q with
    | v₁ :: v₂ :: r, _, q => exact keyKind_strs q
  · obtain ⟨i, t, rfl⟩ := hv x hx
    obtain ⟨j, u, rfl⟩ := hv y hy
    exact .inr ⟨_, _, _, _, rfl, rfl⟩
end
end L3

set_option Elab.async false
set_option linter.all false
set_option maxRecDepth 100000
set_option maxHeartbeats 4000000
namespace L3
open PySem PySem.Spec PyProof.Rows PySem.W
/-! ### keys that are pairs of a plain key and a tuple of plain keys; bools as keys -/
def isB : Bool → Value → Bool
  | b, .bool c => b == c
  | _, _ => false
theorem isB_shape {b : Bool} {v : Value} (h : isB b v = true) : v = .bool b := by
  cases v <;> simp_all [isB]
def hashB (b : Bool) : Int := if b then 1 else 0
theorem pyHash_boolE {prog : Program} {w : World} {A : Around} {E : Value → Shared → Prop} {s : Shared} {b : Bool} {Q : Int → Shared → Prop} (h : Q (hashB b) { s with toks := s.toks + 1 }) :
    wpAny (model prog w) A (pyHash (.bool b)) Q E s := by
  unfold pyHash
  have hv : [Value.bool b].any Value.onHeap = false := rfl
  refine wpAny_bind ?_
  rw [cRoomFor, if_neg (by rw [hv]; exact Bool.false_ne_true)]; refine wpAny_pure ?_
  have hT : s.TypeIs (.bool b) "bool" := rfl
  refine wpAny_bind (wpAny_specialOf hT F.slot_bool_hash.lookup ?_)
  show wpAny _ _ (if (some (Value.builtin "int.__hash__") == some Value.none) = true then _ else _) Q E s
  rw [if_neg (by rw [beq_builtin_none]; exact Bool.false_ne_true)]
  refine wpAny_bind (wpAny_specialOf hT F.slot_bool_hash.lookup ?_)
  show wpAny _ _ (callSpecialIfBoundUnlessNone? (.bool b) "__hash__" _ >>= _) Q E s
  cases b
  · refine wpAny_bind (wpAny_callSpecialIfBoundUnlessNone?_slot hT F.slot_bool_hash
      (wpAny_call_entry F.slot_bool_hash hT entry_int_hash
        (show wpAny _ _ (do ret (← mkInt 0)) _ _ s from wpAny_ret_mkInt ?_) (args_int_hash _)))
    exact wpAny_pure h
  · refine wpAny_bind (wpAny_callSpecialIfBoundUnlessNone?_slot hT F.slot_bool_hash
      (wpAny_call_entry F.slot_bool_hash hT entry_int_hash
        (show wpAny _ _ (do ret (← mkInt 1)) _ _ s from wpAny_ret_mkInt ?_) (args_int_hash _)))
    exact wpAny_pure h
def boolKind (prog : Program) (w : World) : KeyKind prog w Bool where
  is := isB
  hash := hashB
  inj := fun v a b ha hb => by rw [isB_shape ha] at hb; have := isB_shape hb; injection this
  byValue := fun k v h => by rw [isB_shape h]; rfl
  pyHash := fun hv h => by rw [isB_shape hv]; exact pyHash_boolE h
  eqBool := fun {A E s a b u v Q} hu hv h => by
    rw [isB_shape hu, isB_shape hv]
    refine PySem.SeqAt.EqAt.bool_bool a b prog w E Q ?_
    have e : (a == b) = decide (a = b) := by cases a <;> cases b <;> rfl
    rw [e]; exact h
  «strs» := fun k x t v h => by simp [isB] at h

section
variable {prog : Program} {w : World} {K1 K2 : Type} [DecidableEq K1] [DecidableEq K2] (k1 : KeyKind prog w K1) (k2 : KeyKind prog w K2)
def IsPK (h : Heap) (x : K1 × List K2) (a : Addr) : Prop := ∃ o v b n, h.get? a = some o ∧ o.cls = .type "tuple" ∧ o.data = .seq #[v, .ref b] n ∧ k1.is x.1 v = true ∧ IsTupleKey k2 h x.2 b
variable {k1 k2}
theorem IsPK.typeIs {s : Shared} {x : K1 × List K2} {a : Addr} (y : IsPK k1 k2 s.heap x a) : s.TypeIs (.ref a) "tuple" := let ⟨o, _, _, _, ho, hc, _⟩ := y; ⟨o, ho, hc⟩
theorem IsPK.inj {h : Heap} {a : Addr} {x y : K1 × List K2} (hx : IsPK k1 k2 h x a) (hy : IsPK k1 k2 h y a) : x = y := by
  obtain ⟨o, v, b, n, ho, _, hd, h1, h2⟩ := hx
  obtain ⟨o', v', b', n', ho', _, hd', h1', h2'⟩ := hy
  obtain rfl : o = o' := Option.some.inj (ho.symm.trans ho')
  rw [hd] at hd'
  injection hd' with e _
  injection e with e
  injection e with e1 e2
  injection e2 with e2 _
  injection e2 with e2
  subst e1; subst e2
  exact Prod.ext (k1.inj _ _ _ h1 h1') (h2.inj h2')
theorem IsPK.keeps {h h' : Heap} {x : K1 × List K2} {a d : Addr} {o : Obj} {es ep} (y : IsPK k1 k2 h x a) (ho : h.get? d = some o) (hd : o.data = .dict es ep) (hs : Heap.SameBut d h h') : IsPK k1 k2 h' x a := by
  obtain ⟨o', v, b, n, ho', hc, hd', h1, h2⟩ := y
  have hne : a ≠ d := by
    rintro rfl
    obtain rfl : o' = o := Option.some.inj (ho'.symm.trans ho)
    rw [hd] at hd'; exact nomatch hd'
  exact ⟨o', v, b, n, (hs.2 a hne).trans ho', hc, hd', h1, h2.keeps ho hd hs⟩
def pkHash (k1 : KeyKind prog w K1) (k2 : KeyKind prog w K2) (x : K1 × List K2) : Int := reduceHash (Builtin.Tuple.tupleHashOf [k1.hash x.1, tupleKeyHash k2 x.2])
variable {A : Around} {E : Value → Shared → Prop} {s : Shared}
theorem pyHash_pk {x : K1 × List K2} {a : Addr} {Q : Int → Shared → Prop} (hu : A.units + 1 < cLine) (hk : IsPK k1 k2 s.heap x a) (h : Q (pkHash k1 k2 x) { s with toks := s.toks + (x.2.length + 3) }) :
    wpAny (model prog w) A (pyHash (.ref a)) Q E s := by
  have hT := hk.typeIs
  obtain ⟨o, v, b, n, ho, _, hd, h1, h2⟩ := hk
  refine pyHash_slot (T := "tuple") hT F.slot_tuple_hash F.entry_tuple_hash (F.args_tuple_hash_1 _) (beq_builtin_none _) (.inr (by omega)) ?_
  show wpAny _ _ (Builtin.Tuple.tupleItemsOf (.ref a) >>= _) _ _ s
  refine wpAny_bind (wpAny_tupleItemsOf ho hd ?_)
  refine wpAny_bind ?_
  rw [← Array.forIn_toList]
  show wpAny _ _ (forIn [v, Value.ref b] _ _) _ _ s
  rw [List.forIn_cons]
  refine wpAny_bind (wpAny_bind (k1.pyHash h1 ?_))
  first
    | refine wpAny_pure ?_
    | refine wpAny_bind (wpAny_pure (wpAny_pure ?_))
  show wpAny _ _ (forIn [Value.ref b] _ _) _ _ _
  rw [List.forIn_cons]
  refine wpAny_bind (wpAny_bind (wpAny_pyHash_tuple (knd := k2) (ks := x.2) (by simp only [Around.in1_units]; omega) h2 ?_))
  first
    | refine wpAny_pure ?_
    | refine wpAny_bind (wpAny_pure (wpAny_pure ?_))
  show wpAny _ _ (forIn ([] : List Value) _ _) _ _ _
  rw [List.forIn_nil]
  refine wpAny_pure ?_
  show wpAny _ _ (retInt (Builtin.Tuple.tupleHashOf [k1.hash x.1, tupleKeyHash k2 x.2])) _ _ _
  refine wpAny_bind (wpAny_mkInt (wpAny_pure ⟨_, _, rfl, ?_⟩))
  have e : s.toks + (x.2.length + 3) = s.toks + 1 + (x.2.length + 1) + 1 := by omega
  rw [e] at h
  exact h
theorem pk_eq_tree {x y : K1 × List K2} {a b : Addr} {P : Fin → Shared → Prop} (hu : A.units < cLine) (hx : IsPK k1 k2 s.heap x a) (hy : IsPK k1 k2 s.heap y b) (h : P (.done (.ret (.bool (decide (x = y))))) s) :
    wpAny (model prog w) A (Builtin.«tuple.__eq__» ⟨[.ref a, .ref b], []⟩) P E s := by
  have hTb := hy.typeIs
  obtain ⟨oa, u, p, na, hoa, _, hda, hu1, hu2⟩ := hx
  obtain ⟨ob, v, q, nb, hob, _, hdb, hv1, hv2⟩ := hy
  have hd : decide (x = y) = (decide (x.1 = y.1) && decide (x.2 = y.2)) := by
    obtain ⟨x1, x2⟩ := x; obtain ⟨y1, y2⟩ := y
    by_cases e1 : x1 = y1 <;> by_cases e2 : x2 = y2 <;> simp [e1, e2]
  show wpAny _ _ (isInstance (.ref b) (.type "tuple") >>= _) _ _ s
  refine wpAny_bind (wpAny_isInstance hTb isSubtype_tuple_tuple ?_)
  simp only [Bool.not_true, Bool.false_eq_true, if_false]
  refine wpAny_bind (wpAny_tupleItemsOf hoa hda ?_)
  refine wpAny_bind (wpAny_tupleItemsOf hob hdb ?_)
  refine wpAny_bind ?_
  show wpAny _ _ (forIn [(u, v), (Value.ref p, Value.ref q)] _ _) _ _ s
  rw [List.forIn_cons]
  refine wpAny_bind (wpAny_bind (k1.eqBool (a := x.1) (b := y.1) hu1 hv1 ?_))
  by_cases e1 : x.1 = y.1
  · rw [decide_eq_true e1]
    simp only [Bool.not_true, Bool.false_eq_true, if_false]
    refine wpAny_pure ?_
    show wpAny _ _ (forIn [(Value.ref p, Value.ref q)] _ _) _ _ s
    rw [List.forIn_cons]
    refine wpAny_bind (wpAny_bind (wpAny_eqBool_tuple (knd := k2) hu hu2 hv2 ?_))
    by_cases e2 : x.2 = y.2
    · rw [decide_eq_true e2]
      simp only [Bool.not_true, Bool.false_eq_true, if_false]
      refine wpAny_pure ?_
      show wpAny _ _ (forIn ([] : List (Value × Value)) _ _) _ _ s
      rw [List.forIn_nil]
      refine wpAny_pure (wpAny_pure ?_)
      rw [hd, decide_eq_true e1, decide_eq_true e2] at h
      exact h
    · rw [decide_eq_false e2]
      simp only [Bool.not_false, if_true]
      rw [hd, decide_eq_false e2, Bool.and_false] at h
      exact wpAny_bind (wpAny_pure (wpAny_pure (wpAny_pure (wpAny_pure h))))
  · rw [decide_eq_false e1]
    simp only [Bool.not_false, if_true]
    rw [hd, decide_eq_false e1, Bool.false_and] at h
    exact wpAny_bind (wpAny_pure (wpAny_pure (wpAny_pure (wpAny_pure h))))
theorem eqBool_pk {x y : K1 × List K2} {a b : Addr} {Q : Bool → Shared → Prop} (hu : A.units + 1 < cLine) (hx : IsPK k1 k2 s.heap x a) (hy : IsPK k1 k2 s.heap y b) (h : Q (decide (x = y)) s) :
    wpAny (model prog w) A (eqBool (.ref a) (.ref b)) Q E s := by
  unfold eqBool
  try with_reducible refine wpAny_holding ?_
  show wpAny _ _ (if (Value.ref a == Value.ref b) = true then _ else _) Q E s
  by_cases hab : (Value.ref a == Value.ref b) = true
  · rw [if_pos hab]
    have e : a = b := by have := eq_of_beq hab; injection this
    subst e
    obtain rfl := hx.inj hy
    exact wpAny_bind (wpAny_rule (wpAny_pure (by simpa using h)))
  · rw [if_neg hab]
    exact wpAny_bind (wpAny_richCompare_same_room (op := .Eq) hx.typeIs hy.typeIs F.slot_tuple_eq
      (wpAny_call_entry F.slot_tuple_eq hx.typeIs F.entry_tuple_eq (pk_eq_tree (by simp only [Around.in1_units]; omega) hx hy ⟨_, rfl, (fun e => nomatch e), wpAny_truthy_bool h⟩) (F.args_tuple_eq_2 _ _)) (by omega))
theorem quiet_tupleN {ks : List K2} {a : Addr} {Q : Bool → Shared → Prop} (n : Nat) (hk : IsTupleKey k2 s.heap ks a) (h : Q true s) : wpAny (model prog w) A (eqIsQuiet (n + 1) (.ref a)) Q E s := by
  have hT := hk.typeIs
  obtain ⟨o, items, n, ho, _, hd, hi⟩ := hk
  unfold eqIsQuiet
  refine wpAny_bind (wpAny_specialOf hT F.slot_tuple_eq.lookup ?_)
  show wpAny _ _ (isInstance (.ref a) (.type "tuple") >>= _) _ _ s
  refine wpAny_bind (wpAny_isInstance hT isSubtype_tuple_tuple ?_)
  simp only [Bool.not_true, Bool.false_eq_true, if_false]
  refine wpAny_bind (wpAny_seqItems ho hd ?_)
  refine wpAny_bind ?_
  show wpAny _ _ (forIn items _ _) _ _ s
  rw [← Array.forIn_toList]
  refine wpAny_forIn_list _ (fun rest r s' => r.1 = none ∧ s' = s ∧ ∀ v ∈ rest, carriedByValue v = true) _ ?_ ?_ _ _ ⟨rfl, rfl, hi.byValue⟩
  · rintro v rest r s' ⟨hr, rfl, hall⟩
    rw [eqIsQuiet_byValue _ (hall v List.mem_cons_self)]
    refine wpAny_bind (wpAny_pure ?_)
    simp only [Bool.not_true, Bool.false_eq_true, if_false]
    exact wpAny_pure ⟨rfl, rfl, fun u hu' => hall u (List.mem_cons_of_mem _ hu')⟩
  · rintro ⟨r1, r2⟩ s' ⟨hr, rfl, _⟩
    simp only at hr
    subst hr
    exact wpAny_pure h
theorem quiet_pk {x : K1 × List K2} {a : Addr} {Q : Bool → Shared → Prop} (hk : IsPK k1 k2 s.heap x a) (h : Q true s) : wpAny (model prog w) A (eqIsQuiet 8 (.ref a)) Q E s := by
  have hT := hk.typeIs
  obtain ⟨o, v, b, n, ho, _, hd, h1, h2⟩ := hk
  unfold eqIsQuiet
  refine wpAny_bind (wpAny_specialOf hT F.slot_tuple_eq.lookup ?_)
  show wpAny _ _ (isInstance (.ref a) (.type "tuple") >>= _) _ _ s
  refine wpAny_bind (wpAny_isInstance hT isSubtype_tuple_tuple ?_)
  simp only [Bool.not_true, Bool.false_eq_true, if_false]
  refine wpAny_bind (wpAny_seqItems ho hd ?_)
  refine wpAny_bind ?_
  rw [← Array.forIn_toList]
  show wpAny _ _ (forIn [v, Value.ref b] _ _) _ _ s
  rw [List.forIn_cons, eqIsQuiet_byValue _ (k1.byValue _ _ h1)]
  refine wpAny_bind (wpAny_bind (wpAny_pure ?_))
  simp only [Bool.not_true, Bool.false_eq_true, if_false]
  refine wpAny_pure ?_
  show wpAny _ _ (forIn [Value.ref b] _ _) _ _ s
  rw [List.forIn_cons]
  refine wpAny_bind (wpAny_bind (quiet_tupleN 6 h2 ?_))
  simp only [Bool.not_true, Bool.false_eq_true, if_false]
  refine wpAny_pure ?_
  show wpAny _ _ (forIn ([] : List Value) _ _) _ _ s
  rw [List.forIn_nil]
  exact wpAny_pure (wpAny_pure h)
end
/-- pairs of a plain key and a tuple of plain keys -/
def pkKind {prog : Program} {w : World} {K1 K2 : Type} [DecidableEq K1] [DecidableEq K2] (k1 : KeyKind prog w K1) (k2 : KeyKind prog w K2) : HeapKind prog w (K1 × List K2) where
  is := IsPK k1 k2
  hash := pkHash k1 k2
  draws := fun x => x.2.length + 3
  room := fun A => A.units + 1 < cLine
  inj := fun hx hy => hx.inj hy
  keeps := fun x ho hd hs => x.keeps ho hd hs
  pyHash := fun hu hk h => pyHash_pk hu hk h
  eqBool := fun hu hx hy h => eqBool_pk hu hx hy h
  quiet := fun hk h => quiet_pk hk h
end L3

set_option Elab.async false
set_option linter.all false
set_option maxRecDepth 100000
set_option maxHeartbeats 4000000
namespace L3
open PySem PySem.Spec PyProof.Rows
theorem key_place {α β : Type} {xs : List (α × β)} (hn : (xs.map (·.1)).Nodup) {i j : Nat} {x y : α × β} (hi : xs[i]? = some x) (hj : xs[j]? = some y) (e : x.1 = y.1) : i = j := by
  induction xs generalizing i j with
  | nil => simp at hi
  | cons z r ih =>
    rw [List.map_cons, List.nodup_cons] at hn
    have mem : ∀ {k : Nat} {u : α × β}, r[k]? = some u → u.1 ∈ r.map (·.1) := fun h => List.mem_map.mpr ⟨_, List.mem_of_getElem? h, rfl⟩
    cases i with
    | zero =>
      cases j with
      | zero => rfl
      | succ j =>
        have hi' : z = x := by simpa using hi
        have hj' : r[j]? = some y := by simpa using hj
        exact absurd (mem hj') (by rw [← e, ← hi']; exact hn.1)
    | succ i =>
      have hi' : r[i]? = some x := by simpa using hi
      cases j with
      | zero =>
        have hj' : z = y := by simpa using hj
        exact absurd (mem hi') (by rw [e, ← hj']; exact hn.1)
      | succ j => rw [ih hn.2 hi' (by simpa using hj)]
/-! ### dicts whose keys are values of one kind, by value or on the heap -/
structure VKind (prog : Program) (w : World) (D : Type) [DecidableEq D] where
  is : Heap → D → Value → Prop
  hash : D → Int
  room : Around → Prop
  quiet : Bool
  pyHash : ∀ {A : Around} {E : Value → Shared → Prop} {s : Shared} {k : D} {v : Value} {Q : Int → Shared → Prop}, room A → is s.heap k v → (∀ tk, Q (hash k) { s with toks := tk }) → wpAny (model prog w) A (PySem.pyHash v) Q E s
  find : ∀ {A : Around} {E : Value → Shared → Prop} {s : Shared} {d : Addr} {o : Obj} {es : Array DictEntry} {ep : Nat} {xs : List (D × Value × Value)} {k : D} {u : Value} {Q : Option Nat → Shared → Prop}, room A → is s.heap k u →
    s.heap.get? d = some o → o.data = .dict es ep → es.toList = xs.map (fun x => ⟨hash x.1, x.2.1, x.2.2⟩) → (∀ x ∈ xs, is s.heap x.1 x.2.1) → (xs.map (·.1)).Nodup →
    ((∀ x ∈ xs, x.1 ≠ k) → Q none s) → (∀ j x, xs[j]? = some x → x.1 = k → Q (some j) s) → wpAny (model prog w) A (dictFind d u (hash k)) Q E s
  eqq : ∀ {A : Around} {E : Value → Shared → Prop} {s : Shared} {k : D} {v : Value} {Q : Bool → Shared → Prop}, is s.heap k v → Q quiet s → wpAny (model prog w) A (Builtin.Dict.quietEq v) Q E s
section
variable {prog : Program} {w : World} {K : Type} [DecidableEq K]
def vOfKey (knd : KeyKind prog w K) : VKind prog w K where
  is := fun _ k v => knd.is k v = true
  hash := knd.hash
  room := fun _ => True
  quiet := true
  pyHash := fun _ h q => knd.pyHash h (q _)
  find := fun {A E s d o es ep xs k u Q} _ hu ho hd he his hn hnone hsome => by
    have hes : ∀ e ∈ es, ∃ x ∈ xs, e = (⟨knd.hash x.1, x.2.1, x.2.2⟩ : DictEntry) := fun e hm => by
      have : e ∈ es.toList := by simpa using hm
      rw [he] at this
      obtain ⟨x, hx, e1⟩ := List.mem_map.mp this
      exact ⟨x, hx, e1.symm⟩
    refine wpAny_dictFind_of hu ho hd (fun e hm => ?_) ?_
    · obtain ⟨x, hx, rfl⟩ := hes e hm
      exact ⟨x.1, his x hx, rfl⟩
    · cases hf : es.findIdx? fun e => knd.is k e.key with
      | none =>
        refine hnone fun x hx ek => ?_
        have := Array.findIdx?_eq_none_iff.mp hf (⟨knd.hash x.1, x.2.1, x.2.2⟩ : DictEntry) (by
          have : (⟨knd.hash x.1, x.2.1, x.2.2⟩ : DictEntry) ∈ es.toList := by rw [he]; exact List.mem_map.mpr ⟨x, hx, rfl⟩
          simpa using this)
        have h2 := his x hx
        rw [ek] at h2
        simp only [h2] at this
        cases this
      | some j =>
        have hl : (es.toList.findIdx? fun e => knd.is k e.key) = some j := by rw [← hf]; obtain ⟨l⟩ := es; simp
        obtain ⟨hj, hp, _⟩ := List.findIdx?_eq_some_iff_getElem.mp hl
        have hjx : j < xs.length := by rw [he, List.length_map] at hj; exact hj
        have hp' : knd.is k xs[j].2.1 = true := by
          have : es.toList[j].key = xs[j].2.1 := by
            have : es.toList[j]? = some (⟨knd.hash xs[j].1, xs[j].2.1, xs[j].2.2⟩ : DictEntry) := by rw [he, List.getElem?_map, List.getElem?_eq_getElem hjx]; rfl
            rw [List.getElem?_eq_getElem hj] at this
            rw [Option.some.inj this]
          rw [← this]; exact hp
        exact hsome j xs[j] (List.getElem?_eq_getElem hjx) (knd.inj _ _ _ (his _ (List.getElem_mem hjx)) hp')
  eqq := fun {A E s k v Q} h q => by
    have hb := knd.byValue k v h
    unfold Builtin.Dict.quietEq
    cases v with
    | ref a => cases hb
    | _ => exact wpAny_pure q
def addrOf1 : Value → Addr
  | .ref a => a
  | _ => 0
def vOfHeap (knd : HeapKind prog w K) (hT : ∀ {s : Shared} {k : K} {a : Addr}, knd.is s.heap k a → s.TypeIs (.ref a) "tuple") : VKind prog w K where
  is := fun h k v => ∃ a, v = .ref a ∧ knd.is h k a
  hash := knd.hash
  room := knd.room
  quiet := false
  pyHash := fun {A E s k v Q} hr h q => by
    obtain ⟨a, rfl, ha⟩ := h
    exact knd.pyHash hr ha (q _)
  find := fun {A E s d o es ep xs k u Q} hr hu ho hd he his hn hnone hsome => by
    obtain ⟨a, rfl, ha⟩ := hu
    refine wpAny_dictFind_heap (xs := xs.map fun x => (x.1, addrOf1 x.2.1, x.2.2)) hr ha ho hd ?_ ?_ ?_ ?_ ?_
    · rw [he, List.map_map]
      apply List.map_congr_left
      intro x hx
      obtain ⟨b, eb, _⟩ := his x hx
      simp only [Function.comp, entryOfKey, eb, addrOf1]
    · intro x hx
      obtain ⟨y, hy, rfl⟩ := List.mem_map.mp hx
      obtain ⟨b, eb, hb⟩ := his y hy
      simp only [eb, addrOf1]; exact hb
    · rw [List.map_map]; exact hn
    · intro h
      refine hnone fun x hx ek => ?_
      obtain ⟨j, hj, e⟩ := List.getElem_of_mem hx
      refine h j (addrOf1 x.2.1, x.2.2) ?_
      rw [List.getElem?_map, List.getElem?_eq_getElem hj, e, ← ek]; rfl
    · intro j p hj
      rw [List.getElem?_map] at hj
      obtain ⟨x, e1, e2⟩ := Option.map_eq_some_iff.mp hj
      exact hsome j x e1 (congrArg Prod.fst e2)
  eqq := fun {A E s k v Q} h q => by
    obtain ⟨a, rfl, ha⟩ := h
    unfold Builtin.Dict.quietEq
    refine wpAny_bind (wpAny_specialOf (hT ha) F.slot_tuple_eq.lookup (wpAny_pure ?_))
    exact q
end
section
variable {prog : Program} {w : World} {D : Type} [DecidableEq D] (knd : VKind prog w D)
def DictV (h : Heap) (d : Addr) (xs : List (D × Value × Value)) : Prop :=
  ∃ o es ep, h.get? d = some o ∧ o.ExactDict ∧ o.data = .dict es ep ∧ es.toList = xs.map (fun x => ⟨knd.hash x.1, x.2.1, x.2.2⟩) ∧ (xs.map (·.1)).Nodup
def valD (xs : List (D × Value × Value)) (k : D) : Option Value := (xs.find? fun x => decide (x.1 = k)).map (·.2.2)
def putD (xs : List (D × Value × Value)) (k : D) (u v : Value) : List (D × Value × Value) := if (xs.any fun x => decide (x.1 = k)) = true then xs.map (fun x => if x.1 = k then (x.1, x.2.1, v) else x) else xs ++ [(k, u, v)]
variable {knd} {A : Around} {E : Value → Shared → Prop} {s : Shared} {d : Addr} {xs : List (D × Value × Value)} {k : D} {u v : Value}
theorem DictV.typeIs (m : DictV knd s.heap d xs) : s.TypeIs (.ref d) "dict" := let ⟨o, _, _, h1, h2, _⟩ := m; ⟨o, h1, h2.1⟩
theorem valD_none (h : ∀ x ∈ xs, x.1 ≠ k) : valD xs k = none := by
  unfold valD
  rw [List.find?_eq_none.mpr fun x hx => by simpa using h x hx]; rfl
theorem valD_some {j : Nat} {x : D × Value × Value} (hn : (xs.map (·.1)).Nodup) (hj : xs[j]? = some x) (hx : x.1 = k) : valD xs k = some x.2.2 := by
  induction xs generalizing j with
  | nil => simp at hj
  | cons y r ih =>
    rw [List.map_cons, List.nodup_cons] at hn
    unfold valD
    cases j with
    | zero =>
      simp at hj; subst hj
      rw [List.find?_cons_of_pos (by simpa using hx)]; rfl
    | succ j =>
      have hj' : r[j]? = some x := by simpa using hj
      have : y.1 ≠ k := fun e => hn.1 (by rw [e, ← hx]; exact List.mem_map.mpr ⟨x, List.mem_of_getElem? hj', rfl⟩)
      rw [List.find?_cons_of_neg (by simpa using this)]
      exact ih hn.2 hj'
theorem dv_get {Q : Option Value → Shared → Prop} (hr : knd.room A) (hu : knd.is s.heap k u) (m : DictV knd s.heap d xs) (his : ∀ x ∈ xs, knd.is s.heap x.1 x.2.1) (h : ∀ tk, Q (valD xs k) { s with toks := tk }) : wpAny (model prog w) A (dictGet d u) Q E s := by
  obtain ⟨o, es, ep, ho, _, hd, he, hn⟩ := m
  unfold dictGet
  try with_reducible refine wpAny_holding ?_
  refine wpAny_bind (knd.pyHash hr hu fun tk => wpAny_bind (knd.find (s := { s with toks := tk }) hr hu ho hd he his hn ?_ ?_))
  · intro hno
    have := h tk
    rw [valD_none hno] at this
    exact wpAny_pure this
  · intro j x hj hx
    have := h tk
    rw [valD_some hn hj hx] at this
    refine wpAny_bind (wpAny_dictEntries (s := { s with toks := tk }) ho hd ?_)
    have e : es[j]? = some (⟨knd.hash x.1, x.2.1, x.2.2⟩ : DictEntry) := by rw [← Array.getElem?_toList, he, List.getElem?_map, hj]; rfl
    rw [e]
    exact wpAny_pure this
theorem dv_getItem {Q : Value → Shared → Prop} {r : Value} (hr : knd.room A.in1) (hu : knd.is s.heap k u) (m : DictV knd s.heap d xs) (his : ∀ x ∈ xs, knd.is s.heap x.1 x.2.1) (hv : valD xs k = some r) (h : ∀ tk, Q r { s with toks := tk }) :
    wpAny (model prog w) A (getItem (.ref d) u) Q E s := by
  unfold getItem
  try with_reducible refine wpAny_holding ?_
  refine wpAny_bind (wpAny_sequenceKey m.typeIs (by decide) ?_)
  refine wpAny_bind (wpAny_callSpecial?_slot (name := Str.ofString "__getitem__") m.typeIs slot_dict_getitem
    (wpAny_call_entry slot_dict_getitem m.typeIs entry_dict_getitem ?_ (args_dict_getitem _ _)))
  show wpAny _ _ (dictGet d u >>= _) _ _ s
  refine wpAny_bind (dv_get hr hu m his fun tk => ?_)
  rw [hv]
  exact wpAny_pure ⟨r, rfl, wpAny_pure (h tk)⟩
theorem dv_contains {Q : Bool → Shared → Prop} (hr : knd.room A.in1) (hu : knd.is s.heap k u) (hs : (d == sysModules) = false) (m : DictV knd s.heap d xs) (his : ∀ x ∈ xs, knd.is s.heap x.1 x.2.1) (h : ∀ tk, Q (valD xs k).isSome { s with toks := tk }) :
    wpAny (model prog w) A (contains (.ref d) u) Q E s := by
  unfold contains
  try with_reducible refine wpAny_holding ?_
  refine wpAny_bind (wpAny_specialOf m.typeIs slot_dict_contains.lookup ?_)
  show wpAny _ _ (if (some (Value.builtin "dict.__contains__") == some Value.none) = true then _ else _) _ E s
  rw [if_neg (by rw [beq_builtin_none]; exact Bool.false_ne_true)]
  refine wpAny_bind (wpAny_callSpecialUnlessNone?_slot (name := Str.ofString "__contains__") m.typeIs slot_dict_contains
    (wpAny_call_entry slot_dict_contains m.typeIs entry_dict_contains ?_ (args_dict_contains _ _)))
  show wpAny _ _ (dictGet d u >>= _) _ _ s
  refine wpAny_bind (dv_get hr hu m his fun tk => ?_)
  have h := h tk
  cases hf : valD xs k with
  | some p =>
    rw [hf] at h
    show wpAny _ _ (ret (.bool true)) _ _ _
    exact wpAny_pure ⟨_, rfl, wpAny_truthy_bool h⟩
  | none =>
    rw [hf] at h
    show wpAny _ _ (Builtin.Dict.pendingKey? d u >>= _) _ _ _
    exact wpAny_bind (wpAny_pendingKey_other hs (wpAny_pure ⟨_, rfl, wpAny_truthy_bool h⟩))
theorem dv_notIn {Q : Value → Shared → Prop} (hr : knd.room A.in1) (hu : knd.is s.heap k u) (hs : (d == sysModules) = false) (m : DictV knd s.heap d xs) (his : ∀ x ∈ xs, knd.is s.heap x.1 x.2.1) (h : ∀ tk, Q (.bool (!(valD xs k).isSome)) { s with toks := tk }) :
    wpAny (model prog w) A (compareOp .NotIn u (.ref d)) Q E s := by
  show wpAny _ _ (do return .bool (!(← contains (.ref d) u))) Q E s
  exact wpAny_bind (dv_contains hr hu hs m his fun tk => wpAny_pure (h tk))
theorem dv_setHashed {Q : Unit → Shared → Prop} (hr : knd.room A) (hu : knd.is s.heap k u) (m : DictV knd s.heap d xs) (his : ∀ x ∈ xs, knd.is s.heap x.1 x.2.1)
    (hQ : ∀ h', DictV knd h' d (putD xs k u v) → Heap.SameBut d s.heap h' → Q () { s with heap := h' }) (hsz : xs.length ≤ sizeLine) :
    wpAny (model prog w) A (dictSetHashed d u (knd.hash k) v) Q E s := by
  obtain ⟨o, es, ep, ho, hc, hd, he, hn⟩ := m
  have hes : es.size ≤ sizeLine := by
    have := congrArg List.length he
    rw [List.length_map, Array.length_toList] at this; omega
  unfold dictSetHashed
  try with_reducible refine wpAny_holding ?_
  refine wpAny_bind (knd.find hr hu ho hd he his hn ?_ ?_)
  · intro hno
    have ha : ¬ (xs.any fun x => decide (x.1 = k)) = true := by
      rw [List.any_eq_true]; rintro ⟨x, hx, e⟩; exact hno x hx (of_decide_eq_true e)
    refine wpAny_bind (wpAny_rule (wpAny_updateDictKeys (hz := hes) ho hd (hQ _ ⟨_, _, ep + 1, Heap.get?_update_self _ ho (Obj.isFreed_of_dict (Obj.data_mapDictKeys hd _)),
      hc.mapDictKeys _, Obj.data_mapDictKeys hd _, ?_, ?_⟩ (Heap.SameBut.update ..))))
    · unfold putD; rw [if_neg ha]
      simp [he]
    · unfold putD; rw [if_neg ha]
      rw [List.map_append, List.nodup_append]
      refine ⟨hn, by simp, fun x hx y hy e => ?_⟩
      simp only [List.map_cons, List.map_nil, List.mem_singleton] at hy
      subst hy; subst e
      obtain ⟨z, hz, e⟩ := List.mem_map.mp hx
      exact hno z hz e
  · intro j x hj hx
    have ha : (xs.any fun x => decide (x.1 = k)) = true := List.any_eq_true.mpr ⟨x, List.mem_of_getElem? hj, by simpa using hx⟩
    refine wpAny_bind (wpAny_rule (wpAny_bind (wpAny_updateDict ho hd (wpAny_point (hQ _ ⟨_, _, ep, Heap.get?_update_self _ ho (Obj.isFreed_of_dict (Obj.data_mapDict hd _)),
      hc.mapDict _, Obj.data_mapDict hd _, ?_, ?_⟩ (Heap.SameBut.update ..))))))
    · unfold putD; rw [if_pos ha]
      rw [Array.toList_modify, he, List.map_map]
      apply List.ext_getElem?
      intro i
      rw [List.getElem?_modify, List.getElem?_map, List.getElem?_map]
      cases hi : xs[i]? with
      | none => simp
      | some y =>
        simp only [Option.map_some, Function.comp]
        by_cases hij : j = i
        · subst hij
          rw [hj] at hi; cases hi
          rw [if_pos hx]; simp
        · have : y.1 ≠ k := fun e => hij (key_place hn hj hi (hx.trans e.symm))
          rw [if_neg this]
          simp [hij]
    · unfold putD; rw [if_pos ha, List.map_map]
      have : ((fun x : D × Value × Value => x.1) ∘ fun x => if x.1 = k then (x.1, x.2.1, v) else x) = (·.1) := by
        funext x; simp only [Function.comp]; split <;> rfl
      rw [this]; exact hn
theorem dv_setItem {Q : Unit → Shared → Prop} (hr : knd.room A.in1) (hu : knd.is s.heap k u) (m : DictV knd s.heap d xs) (his : ∀ x ∈ xs, knd.is s.heap x.1 x.2.1)
    (hQ : ∀ h' tk, DictV knd h' d (putD xs k u v) → Heap.SameBut d s.heap h' → Q () { s with heap := h', toks := tk }) (hsz : xs.length ≤ sizeLine) :
    wpAny (model prog w) A (setItem (.ref d) u v) Q E s := by
  unfold setItem
  try with_reducible refine wpAny_holding ?_
  refine wpAny_bind (wpAny_sequenceKey m.typeIs (by decide) ?_)
  refine wpAny_bind (wpAny_callSpecial?_slot (name := Str.ofString "__setitem__") m.typeIs slot_dict_setitem
    (wpAny_call_entry slot_dict_setitem m.typeIs entry_dict_setitem ?_ (args_dict_setitem _ _ _)))
  show wpAny _ _ (Builtin.Dict.notOrdered "__setitem__" ⟨[.ref d, u, v], []⟩ >>= _) _ _ s
  refine wpAny_bind (wpAny_notOrdered_dict m.typeIs ?_)
  show wpAny _ _ (dictSet d u v >>= _) _ _ s
  refine wpAny_bind ?_
  unfold dictSet
  try with_reducible refine wpAny_holding ?_
  refine wpAny_bind (knd.pyHash hr hu fun tk => ?_)
  exact dv_setHashed (s := { s with toks := tk }) hr hu m his (fun h' m' sb => wpAny_pure ⟨.none, rfl, wpAny_pure (hQ h' tk m' sb)⟩) hsz
end
end L3

set_option Elab.async false
set_option linter.all false
set_option maxRecDepth 100000
set_option maxHeartbeats 4000000
namespace L3
open PySem PySem.Spec PyProof.Rows
section
variable {prog : Program} {w : World} {D : Type} [DecidableEq D] {knd : VKind prog w D} {A : Around} {E : Value → Shared → Prop} {s : Shared} {d a b : Addr} {xs ys : List (D × Value × Value)}
theorem putD_new {k : D} {u v : Value} (h : ∀ x ∈ xs, x.1 ≠ k) : putD xs k u v = xs ++ [(k, u, v)] := by
  unfold putD
  rw [if_neg]
  rw [List.any_eq_true]; rintro ⟨x, hx, e⟩; exact h x hx (of_decide_eq_true e)
theorem filter_one {es : Array DictEntry} (he : es.toList = xs.map (fun x => (⟨knd.hash x.1, x.2.1, x.2.2⟩ : DictEntry))) (hn : (xs.map (·.1)).Nodup) (hi : ∀ x ∈ xs, ∀ y ∈ xs, knd.hash x.1 = knd.hash y.1 → x.1 = y.1) {e : DictEntry} (hm : e ∈ es) : ¬ (es.filter (·.hash == e.hash)).size > 1 := by
  have gen : ∀ (l : List (D × Value × Value)) (h : Int), (l.map (·.1)).Nodup → (∀ x ∈ l, ∀ y ∈ l, knd.hash x.1 = knd.hash y.1 → x.1 = y.1) → (l.filter fun x => knd.hash x.1 == h).length ≤ 1 := by
    intro l h
    induction l with
    | nil => intro _ _; simp
    | cons z r ih =>
      intro hn hi
      rw [List.map_cons, List.nodup_cons] at hn
      have ih' := ih hn.2 fun x hx y hy => hi x (List.mem_cons_of_mem _ hx) y (List.mem_cons_of_mem _ hy)
      by_cases c : (knd.hash z.1 == h) = true
      · rw [List.filter_cons_of_pos (p := fun x : D × Value × Value => knd.hash x.1 == h) c]
        have : r.filter (fun x => knd.hash x.1 == h) = [] := by
          rw [List.filter_eq_nil_iff]
          intro x hx e
          have e1 : knd.hash x.1 = knd.hash z.1 := (eq_of_beq e).trans (eq_of_beq c).symm
          have := hi x (List.mem_cons_of_mem _ hx) z List.mem_cons_self e1
          exact hn.1 (by rw [← this]; exact List.mem_map.mpr ⟨x, hx, rfl⟩)
        rw [this]; simp
      · rw [List.filter_cons_of_neg (p := fun x : D × Value × Value => knd.hash x.1 == h) c]; exact ih'
  have e1 : (es.filter (·.hash == e.hash)).size = (xs.filter fun x => knd.hash x.1 == e.hash).length := by
    rw [← Array.length_toList, Array.toList_filter, he, List.filter_map, List.length_map]
    rfl
  rw [e1]
  have := gen xs e.hash hn hi
  omega
theorem dv_entries {id : String} {o : Obj} {es : Array DictEntry} {ep : Nat} {Q : Array DictEntry → Shared → Prop} (ho : s.heap.get? d = some o) (hd : o.data = .dict es ep) (he : es.toList = xs.map (fun x => (⟨knd.hash x.1, x.2.1, x.2.2⟩ : DictEntry))) (hn : (xs.map (·.1)).Nodup)
    (his : ∀ x ∈ xs, knd.is s.heap x.1 x.2.1) (hi : knd.quiet = false → ∀ x ∈ xs, ∀ y ∈ xs, knd.hash x.1 = knd.hash y.1 → x.1 = y.1) (h : Q es s) : wpAny (model prog w) A (Builtin.Dict.entriesForEmpty id d) Q E s := by
  unfold Builtin.Dict.entriesForEmpty
  refine wpAny_bind (wpAny_dictEntries ho hd ?_)
  refine wpAny_bind ?_
  rw [← Array.forIn_toList]
  refine wpAny_forIn_list _ (fun rest _ s' => s' = s ∧ ∀ e ∈ rest, e ∈ es.toList) _ ?_ ?_ _ _ ⟨rfl, fun _ h => h⟩
  · rintro e rest r s' ⟨rfl, hr⟩
    have hm := hr e List.mem_cons_self
    have hm' : e ∈ es := by simpa using hm
    rw [he] at hm
    obtain ⟨x, hx, rfl⟩ := List.mem_map.mp hm
    refine wpAny_bind (knd.eqq (his x hx) ?_)
    have nx : s' = s' ∧ ∀ e ∈ rest, e ∈ es.toList := ⟨rfl, fun e m => hr e (List.mem_cons_of_mem _ m)⟩
    cases hq : knd.quiet
    · simp only [Bool.not_false, if_true]
      rw [if_neg (filter_one he hn (hi hq) hm')]
      exact wpAny_pure nx
    · simp only [Bool.not_true, Bool.false_eq_true, if_false]
      exact wpAny_pure nx
  · rintro r s' ⟨rfl, _⟩
    exact wpAny_pure h
/-- all of o is taken over into the empty dict d -/
theorem dv_merge {nm : String} {o : Addr} {Q : Unit → Shared → Prop} (hr : knd.room A) (hdo : d ≠ o) (hoS : (o == sysModules) = false) (m : DictV knd s.heap d []) (mo : DictV knd s.heap o xs)
    (his : ∀ h', Heap.SameBut d s.heap h' → ∀ x ∈ xs, knd.is h' x.1 x.2.1) (hi : knd.quiet = false → ∀ x ∈ xs, ∀ y ∈ xs, knd.hash x.1 = knd.hash y.1 → x.1 = y.1) (hsz : xs.length ≤ sizeLine)
    (hQ : ∀ h', DictV knd h' d xs → Heap.SameBut d s.heap h' → Q () { s with heap := h' }) : wpAny (model prog w) A (Builtin.Dict.mergeDict nm d o) Q E s := by
  obtain ⟨od, esd, epd, hod, hcd, hdd, hed, hnd⟩ := id m
  obtain ⟨oo, eso, epo, hoo, hco, hdo', heo, hno⟩ := id mo
  unfold Builtin.Dict.mergeDict
  rw [if_neg (by simpa using hdo)]
  unfold Builtin.Dict.showsAll
  rw [if_neg (by rw [hoS]; exact Bool.false_ne_true)]
  refine wpAny_bind (wpAny_pure ?_)
  refine wpAny_bind (wpAny_dictEntries hoo hdo' ?_)
  have hlen : eso.size = xs.length := by
    have := congrArg List.length heo
    rw [List.length_map, Array.length_toList] at this; exact this
  have loop : wpAny (model prog w) A (do
      let epoch ← dictEpoch o
      let l ← dictEntries o
      forIn [:l.size] PUnit.unit fun i (_ : PUnit) => (do
          let l' ← dictEntries o
          match l'[i]? with
            | some e => do
              holding [e.key, e.val] (dictSetHashed d e.key e.hash e.val)
              let ep' ← dictEpoch o
              if (ep' != epoch) = true then do
                  (unsupported (toString nm ++ toString ":source-changed-during-callback") : Sem PUnit)
                  pure (ForInStep.yield PUnit.unit)
                else pure (ForInStep.yield PUnit.unit)
            | _ => do
              (unsupported "internal:dict-merge" : Sem PUnit)
              pure (ForInStep.yield PUnit.unit) : Sem (ForInStep PUnit))
      pure ()) Q E s := by
    refine wpAny_bind (wpAny_dictEpoch hoo hdo' ?_)
    refine wpAny_bind (wpAny_dictEntries hoo hdo' ?_)
    refine wpAny_bind ?_
    rw [Std.Legacy.Range.forIn_eq_forIn_range']
    simp only [Std.Legacy.Range.size, Nat.sub_zero, Nat.add_sub_cancel, Nat.div_one]
    refine wpAny_forIn_list _
      (fun rest _ s' => ∃ h' i, s' = { s with heap := h' } ∧ rest = List.range' i (eso.size - i) ∧ i ≤ eso.size ∧ DictV knd h' d (xs.take i) ∧ h'.get? o = some oo ∧ Heap.SameBut d s.heap h')
      _ ?_ ?_ _ _ ⟨s.heap, 0, rfl, by simp, Nat.zero_le _, by simpa using m, hoo, Heap.SameBut.refl _ _⟩
    · rintro x rest b s' ⟨h', i, rfl, hr', hi', hd', hoo', hs'⟩
      have hlt : i < eso.size := by
        rcases Nat.lt_or_ge i eso.size with h | h
        · exact h
        · rw [Nat.sub_eq_zero_of_le h] at hr'; simp at hr'
      obtain ⟨rfl, hrest⟩ : x = i ∧ rest = List.range' (i + 1) (eso.size - (i + 1)) := by
        have e : eso.size - i = (eso.size - (i + 1)) + 1 := by omega
        rw [e, List.range'_succ] at hr'
        injection hr' with h1 h2
        exact ⟨h1, h2⟩
      refine wpAny_bind (wpAny_dictEntries hoo' hdo' ?_)
      have hlx : x < xs.length := by omega
      have hx : xs[x]? = some xs[x] := List.getElem?_eq_getElem hlx
      have ee : eso[x]? = some (⟨knd.hash xs[x].1, xs[x].2.1, xs[x].2.2⟩ : DictEntry) := by rw [← Array.getElem?_toList, heo, List.getElem?_map, hx]; rfl
      rw [ee]
      have hisx := his h' hs'
      have fresh : ∀ z ∈ xs.take x, z.1 ≠ xs[x].1 := fun z hz e => by
        obtain ⟨j, hj, ez⟩ := List.getElem_of_mem hz
        have hj2 : j < x := by rw [List.length_take] at hj; omega
        have : xs[j]? = some z := by rw [← ez, List.getElem_take]; exact List.getElem?_eq_getElem (by omega)
        have := key_place hno this hx e
        omega
      show wpAny _ _ (holding [xs[x].2.1, xs[x].2.2] (dictSetHashed d xs[x].2.1 (knd.hash xs[x].1) xs[x].2.2) >>= _) _ _ _
      refine wpAny_bind (wpAny_holding (dv_setHashed (s := { s with heap := h' }) hr (hisx _ (List.getElem_mem hlx)) hd' (fun z hz => hisx z (List.mem_of_mem_take hz)) (fun h'' hd'' hs'' => ?_) (by rw [List.length_take]; omega)))
      have hoo'' : h''.get? o = some oo := (hs''.2 o (Ne.symm hdo)).trans hoo'
      refine wpAny_bind (wpAny_dictEpoch (s := { s with heap := h'' }) hoo'' hdo' ?_)
      rw [if_neg (by simp)]
      rw [putD_new fresh] at hd''
      refine wpAny_pure ⟨h'', x + 1, rfl, hrest, hlt, ?_, hoo'', hs'.trans hs''⟩
      rw [List.take_add_one, hx]; exact hd''
    · rintro b s' ⟨h', i, rfl, hr', hi', hd', hoo', hs'⟩
      have hin : i = eso.size := by
        rcases Nat.lt_or_ge i eso.size with h | h
        · have e : eso.size - i = (eso.size - (i + 1)) + 1 := by omega
          rw [e, List.range'_succ] at hr'; exact nomatch hr'
        · exact Nat.le_antisymm hi' h
      refine wpAny_pure (hQ h' ?_ hs')
      rw [hin, hlen, List.take_length] at hd'; exact hd'
  dsimp only
  split
  · refine wpAny_bind (wpAny_dictEntries hod hdd ?_)
    have hemp : esd.isEmpty = true := by
      have := congrArg List.length hed
      rw [Array.length_toList] at this
      exact Array.isEmpty_iff_size_eq_zero.mpr this
    rw [if_pos hemp]
    refine wpAny_bind (dv_entries (xs := xs) hoo hdo' heo hno (his _ (Heap.SameBut.refl _ _)) hi ?_)
    split
    · refine wpAny_bind (wpAny_updateDictKeysTo hod hdd (wpAny_pure (hQ _ ⟨_, _, epd + 1, Heap.get?_update_self _ hod (Obj.isFreed_of_dict (Obj.data_mapDictKeys hdd _)), hcd.mapDictKeys _,
          Obj.data_mapDictKeys hdd _, heo, hno⟩ (Heap.SameBut.update ..))) (by rw [hlen]; omega))
    · rename_i hne
      have h0 : eso = #[] := Array.isEmpty_iff.mp (by simpa using hne)
      have hm0 : xs = [] := List.length_eq_zero_iff.mp (by rw [← hlen, h0]; rfl)
      subst hm0
      exact wpAny_pure (hQ _ m (Heap.SameBut.refl _ _))
  · exact loop
end
/-! ### == that is so -/
def EqT (prog : Program) (w : World) (n : Nat) (s : Shared) (x y : Value) : Prop :=
  ∀ (A : Around) (E : Value → Shared → Prop) (Q : Bool → Shared → Prop), A.units + n < cLine → Q true s → wpAny (model prog w) A (eqBool x y) Q E s
section
variable {prog : Program} {w : World} {D : Type} [DecidableEq D] {knd : VKind prog w D} {A : Around} {E : Value → Shared → Prop} {s : Shared} {d a b : Addr} {xs ys : List (D × Value × Value)} {n : Nat}
theorem dv_samePairs {nm : String} {Q : Bool → Shared → Prop} (hr : knd.room A) (ha : (a == sysModules) = false) (hb : (b == sysModules) = false) (ma : DictV knd s.heap a xs) (mb : DictV knd s.heap b ys)
    (hax : ∀ x ∈ xs, knd.is s.heap x.1 x.2.1) (hby : ∀ y ∈ ys, knd.is s.heap y.1 y.2.1) (hxy : xs.map (fun x => (x.1, x.2.2)) = ys.map (fun y => (y.1, y.2.2))) (hQ : Q true s) : wpAny (model prog w) A (Builtin.Dict.samePairs nm a b) Q E s := by
  obtain ⟨oa, esa, epa, hoa, hca, hda, hea, hna⟩ := id ma
  obtain ⟨ob, esb, epb, hob, hcb, hdb, heb, hnb⟩ := id mb
  have la : esa.size = xs.length := by
    have := congrArg List.length hea
    rw [List.length_map, Array.length_toList] at this; exact this
  have lb : esb.size = ys.length := by
    have := congrArg List.length heb
    rw [List.length_map, Array.length_toList] at this; exact this
  have lxy : xs.length = ys.length := by
    have := congrArg List.length hxy
    rwa [List.length_map, List.length_map] at this
  unfold Builtin.Dict.samePairs Builtin.Dict.showsAll
  rw [if_neg (by rw [ha]; exact Bool.false_ne_true)]
  refine wpAny_bind (wpAny_pure ?_)
  rw [if_neg (by rw [hb]; exact Bool.false_ne_true)]
  refine wpAny_bind (wpAny_pure ?_)
  refine wpAny_bind (wpAny_dictEntries hoa hda ?_)
  refine wpAny_bind (wpAny_dictEntries hob hdb ?_)
  dsimp only
  rw [if_neg (by simp; omega)]
  refine wpAny_bind (wpAny_dictEpoch hoa hda ?_)
  refine wpAny_bind ?_
  rw [Std.Legacy.Range.forIn_eq_forIn_range']
  simp only [Std.Legacy.Range.size, Nat.sub_zero, Nat.add_sub_cancel, Nat.div_one]
  refine wpAny_forIn_list _ (fun rest r s' => s' = s ∧ r.1 = none ∧ ∀ i ∈ rest, i < esa.size) _ ?_ ?_ _ _ ⟨rfl, rfl, fun i hi => by rw [List.mem_range'_1] at hi; omega⟩
  · rintro i rest r s' ⟨rfl, hr', hlt'⟩
    have hlt := hlt' i List.mem_cons_self
    refine wpAny_bind (wpAny_dictEntries hoa hda ?_)
    have hlx : i < xs.length := by omega
    have hx : xs[i]? = some xs[i] := List.getElem?_eq_getElem hlx
    have ee : esa[i]? = some (⟨knd.hash xs[i].1, xs[i].2.1, xs[i].2.2⟩ : DictEntry) := by rw [← Array.getElem?_toList, hea, List.getElem?_map, hx]; rfl
    rw [ee]
    dsimp only
    have hyi : ∃ y, ys[i]? = some y ∧ y.1 = xs[i].1 ∧ y.2.2 = xs[i].2.2 := by
      have := congrArg (fun l => l[i]?) hxy
      simp only [List.getElem?_map, hx, Option.map_some] at this
      obtain ⟨y, e1, e2⟩ := Option.map_eq_some_iff.mp this.symm
      exact ⟨y, e1, (Prod.ext_iff.mp e2).1, (Prod.ext_iff.mp e2).2⟩
    obtain ⟨y, hy, y1, y2⟩ := hyi
    refine wpAny_bind (wpAny_holding (wpAny_bind (knd.find hr (hax _ (List.getElem_mem hlx)) hob hdb heb hby hnb ?_ ?_)))
    · intro hno
      exact absurd y1 (hno y (List.mem_of_getElem? hy))
    · intro j z hj hz
      have hji : j = i := key_place hnb hj hy (hz.trans y1.symm)
      subst hji
      rw [hy] at hj; cases hj
      refine wpAny_bind (wpAny_dictEntries hob hdb ?_)
      have ef : esb[j]? = some (⟨knd.hash y.1, y.2.1, y.2.2⟩ : DictEntry) := by rw [← Array.getElem?_toList, heb, List.getElem?_map, hy]; rfl
      rw [ef]
      dsimp only
      refine wpAny_holding ?_
      rw [y2]
      refine PySem.SeqAt.EqAt.same _ prog w _ _ ?_
      simp only [Bool.not_true, Bool.false_eq_true, if_false]
      refine wpAny_bind (wpAny_dictEpoch hoa hda ?_)
      simp only [bne_self_eq_false, Bool.false_eq_true, if_false]
      exact wpAny_pure ⟨rfl, rfl, fun i hi => hlt' i (List.mem_cons_of_mem _ hi)⟩
  · rintro ⟨r1, r2⟩ s' ⟨rfl, hr', _⟩
    simp only at hr'
    subst hr'
    exact wpAny_pure hQ
end
end L3

set_option Elab.async false
set_option linter.all false
set_option maxRecDepth 100000
set_option maxHeartbeats 8000000
namespace L3
open PySem PySem.Spec PyProof.Rows
theorem dict_mro : mroOf (.type "dict") = pure [.type "dict", .type "object"] := by rw [mroOf_type]; kernel_rfl
theorem dict_look_new : typeLookup (.type "dict") "__new__" = pure (some (.builtin "dict.__new__")) := by rw [typeLookup_type, builtinLookup_eq_fast]; kernel_rfl
theorem called_dictN : TypeCalled "dict" "dict.__new__" "dict.__init__" :=
  ⟨by decide +kernel, by decide +kernel, ⟨_, _, dict_mro⟩, madeBy_type dict_mro dict_look_new (by decide +kernel), by decide +kernel, by rw [isSubtype_type]; kernel_rfl, PySem.F.slot_dict_init⟩
theorem typeCall_dict1 (a : Value) : checkTypeCall "dict" ⟨[a], []⟩ = pure () := by kernel_rfl
theorem newCall_dict1 (a : Value) : checkBuiltinCall "dict.__new__" ⟨[.type "dict", a], []⟩ = pure () := by kernel_rfl
theorem entry_dict_newN : entryFor table "dict.__new__" = some Builtin.«dict.__new__» := entryFor_of_tree (by kernel_rfl)
theorem plain_dict_newN : plainId "dict.__new__" = true := by decide +kernel
section
variable {prog : Program} {w : World} {D : Type} [DecidableEq D] {knd : VKind prog w D} {A : Around} {E : Value → Shared → Prop} {s : Shared} {d a b : Addr} {xs ys : List (D × Value × Value)} {n : Nat}
theorem code_dict_new (x : Value) {Q₁ : Value → Shared → Prop} (h : Q₁ (.ref s.heap.objs.size) { s with heap := s.heap.push { cls := .type "dict", data := .dict #[] } }) :
    codeAny (model prog w) A (.call (.builtin "dict.__new__") ⟨[.type "dict", x], []⟩) (wants Q₁ E) s := by
  refine codeAny_of_tree ?_
  show wpAny _ A.in1 (do checkBuiltinCall "dict.__new__" ⟨[.type "dict", x], []⟩; again (.builtin "dict.__new__" ⟨[.type "dict", x], []⟩)) _ _ s
  refine wpAny_bind (wpAny_of_eq (newCall_dict1 x) (wpAny_pure ⟨plainId_quiet plain_dict_newN _, codeAny_builtin entry_dict_newN ?_⟩))
  rw [Around.under_plainId plain_dict_newN _]
  unfold Builtin.«dict.__new__»
  have hsub := isSubtype_dict_dict
  have hm := dict_mro
  dsimp only
  have hty : isType (.type "dict") = pure true := rfl
  rw [hty]
  refine wpAny_bind (wpAny_pure ?_)
  simp only [Bool.not_true, Bool.false_eq_true, if_false]
  rw [hsub]
  refine wpAny_bind (wpAny_pure ?_)
  simp only [Bool.not_true, Bool.false_eq_true, if_false]
  rw [hm]
  refine wpAny_bind (wpAny_pure ?_)
  rw [if_neg (by decide +kernel)]
  refine wpAny_bind (wpAny_newObj_type ?_)
  exact wpAny_pure h
/-- dict(d): a copy -/
theorem call_dict1 {Q : Value → Shared → Prop} (hr : ∀ A', A'.units ≤ A.units + 4 → knd.room A') (hoS : (d == sysModules) = false) (hnS : (s.heap.objs.size == sysModules) = false) (m : DictV knd s.heap d xs)
    (his : ∀ h' : Heap, (∀ b o, s.heap.get? b = some o → h'.get? b = some o) → ∀ x ∈ xs, knd.is h' x.1 x.2.1) (hi : knd.quiet = false → ∀ x ∈ xs, ∀ y ∈ xs, knd.hash x.1 = knd.hash y.1 → x.1 = y.1) (hsz : xs.length ≤ sizeLine)
    (h : ∀ (h' : Heap) (tk : Nat), DictV knd h' s.heap.objs.size xs → (∀ b o, s.heap.get? b = some o → h'.get? b = some o) → Q (.ref s.heap.objs.size) { s with heap := h', toks := tk }) :
    wpAny (model prog w) A (call (.type "dict") [.ref d]) Q E s := by
  have hmade := called_dictN.made
  have hsub := called_dictN.sub
  obtain ⟨c, tl, hmro⟩ := called_dictN.mro
  refine wpAny_call (codeAny_of_tree (wpAny_pure ⟨Code.quiet_builtin _ (by decide +kernel), codeAny_builtin PySem.F.entry_type_call ?_⟩))
  rw [Around.under_plain (weight_type_call_type "dict" [.ref d] []) rfl]
  have g1 := called_dictN.notType
  have g2 := called_dictN.canCreate
  have g3 := typeCall_dict1 (.ref d)
  repeat (any_goals (first | assumption | wp_step))
  refine codeAny_mono (code_dict_new (.ref d) (E := E) (Q₁ := fun obj t => obj = .ref s.heap.objs.size ∧ t = { s with heap := s.heap.push { cls := .type "dict", data := .dict #[] } }) ⟨rfl, rfl⟩) fun r t hr' => ?_
  cases r with
  | error e => exact hr'
  | ok fl =>
    cases fl with
    | ret obj =>
      obtain ⟨rfl, rfl⟩ := hr'
      have hS : (s.heap.push { cls := .type "dict", data := .dict #[] }).get? s.heap.objs.size = some { cls := .type "dict", data := .dict #[] } := Heap.get?_push_size _ rfl
      have hT : Shared.TypeIs { s with heap := s.heap.push { cls := .type "dict", data := .dict #[] } } (.ref s.heap.objs.size) "dict" := ⟨_, hS, rfl⟩
      have hli := called_dictN.init.lookup
      have hbi := called_dictN.init.bind (.ref s.heap.objs.size)
      repeat (any_goals (first | assumption | wp_step))
      refine codeAny_mono (codeAny_call_builtin (R := wants (fun r u => r = .none ∧ ∃ h' tk, u = { s with heap := h', toks := tk } ∧ DictV knd h' s.heap.objs.size xs ∧
          (∀ b o, s.heap.get? b = some o → h'.get? b = some o)) E) called_dictN.init.plain PySem.F.entry_dict_init (called_dictN.init.check _ _ _ _ _ _ _ _ hT (PySem.F.args_dict_init_2 _ _) ?_)) fun r2 u hr2 => ?_
      · have mo : DictV knd (s.heap.push { cls := .type "dict", data := .dict #[] }) d xs := let ⟨o, es, ep, ho, r⟩ := m; ⟨o, es, ep, Heap.get?_push_of_some _ ho, r⟩
        have hTo := DictV.typeIs (s := { s with heap := s.heap.push { cls := .type "dict", data := .dict #[] } }) mo
        have hne : s.heap.objs.size ≠ d := by
          obtain ⟨o, es, ep, ho, _⟩ := m
          exact Nat.ne_of_gt (Heap.lt_size ho)
        unfold Builtin.«dict.__init__»
        refine wpAny_bind ?_
        unfold Builtin.Dict.selfAndRest
        refine wpAny_bind (wpAny_notOrdered_dict hT ?_)
        show wpAny _ _ (pure (s.heap.objs.size, [Value.ref d])) _ _ _
        refine wpAny_pure ?_
        show wpAny _ _ (Builtin.Dict.updateFrom "dict.__init__" s.heap.objs.size (.ref d) [] .none) _ _ _
        unfold Builtin.Dict.updateFrom
        refine wpAny_bind (wpAny_typeOf hTo ?_)
        rw [if_neg (by decide)]
        refine wpAny_bind ?_
        unfold Builtin.Dict.merge
        refine wpAny_bind ?_
        unfold Builtin.Dict.readDirectly
        refine wpAny_bind (wpAny_isInstance hTo isSubtype_dict_dict ?_)
        simp only [Bool.not_true, Bool.false_eq_true, if_false]
        refine wpAny_bind (wpAny_specialOf hTo PySem.F.slot_dict_iter.lookup (wpAny_pure ?_))
        simp only [beq_self_eq_true, if_true]
        refine wpAny_bind (wpAny_pure ?_)
        have ext : ∀ h', Heap.SameBut s.heap.objs.size (s.heap.push { cls := .type "dict", data := .dict #[] }) h' → ∀ b o, s.heap.get? b = some o → h'.get? b = some o := fun h' sb b o z => by
          rw [sb.2 b (Nat.ne_of_lt (Heap.lt_size z))]; exact Heap.get?_push_of_some _ z
        refine dv_merge (s := { s with heap := s.heap.push { cls := .type "dict", data := .dict #[] } }) (xs := xs) (hr _ ?_) hne hoS ⟨_, #[], 0, hS, ⟨rfl, rfl, rfl⟩, rfl, rfl, List.nodup_nil⟩ mo (fun h' sb => his h' (ext h' sb)) hi hsz fun h' m' sb => ?_
        · simp only [Around.in1_units]; omega
        · show wpAny _ _ (Builtin.Dict.addKeywords s.heap.objs.size [] >>= _) _ _ _
          exact wpAny_bind (wpAny_pure (wpAny_pure ⟨rfl, h', s.toks, rfl, m', ext h' sb⟩))
      · cases r2 with
        | error e => exact hr2
        | ok fl2 =>
          cases fl2 with
          | ret r =>
            obtain ⟨rfl, h', tk, rfl, a1, a4⟩ := hr2
            repeat (any_goals (first | assumption | wp_step))
            exact h _ _ a1 a4
          | _ => exact hr2.elim
    | _ => exact hr'.elim
theorem EqT.dict (hr : ∀ A', A'.units + n < cLine → knd.room A') (ha : (a == sysModules) = false) (hb : (b == sysModules) = false) (ma : DictV knd s.heap a xs) (mb : DictV knd s.heap b ys)
    (hax : ∀ x ∈ xs, knd.is s.heap x.1 x.2.1) (hby : ∀ y ∈ ys, knd.is s.heap y.1 y.2.1) (hxy : xs.map (fun x => (x.1, x.2.2)) = ys.map (fun y => (y.1, y.2.2))) : EqT prog w (n + 1) s (.ref a) (.ref b) := by
  intro A E Q hu h
  unfold eqBool
  try with_reducible refine wpAny_holding ?_
  show wpAny _ _ (if (Value.ref a == Value.ref b) = true then _ else _) Q E s
  by_cases hab : (Value.ref a == Value.ref b) = true
  · rw [if_pos hab]
    exact wpAny_bind (wpAny_rule (wpAny_pure h))
  · rw [if_neg hab]
    refine wpAny_bind (wpAny_richCompare_same_room (op := .Eq) ma.typeIs mb.typeIs PySem.F.slot_dict_eq
      (wpAny_call_entry PySem.F.slot_dict_eq ma.typeIs PySem.F.entry_dict_eq ?_ (PySem.F.args_dict_eq_2 _ _)) (by omega))
    show wpAny _ _ (Builtin.Dict.dictSlotArgs "__eq__" ⟨[.ref a, .ref b], []⟩ >>= _) _ _ s
    refine wpAny_bind ?_
    unfold Builtin.Dict.dictSlotArgs
    refine wpAny_bind (wpAny_notOrdered_dict ma.typeIs ?_)
    show wpAny _ _ (pure (Value.ref a, Value.ref b)) _ _ _
    refine wpAny_pure ?_
    dsimp only
    refine wpAny_bind (wpAny_isInstance mb.typeIs isSubtype_dict_dict ?_)
    simp only [Bool.not_true, Bool.false_eq_true, if_false]
    refine wpAny_bind (wpAny_pure (wpAny_bind (wpAny_pure (wpAny_bind (dv_samePairs (hr _ (by simp only [Around.in1_units]; omega)) ha hb ma mb hax hby hxy ?_)))))
    exact wpAny_pure ⟨_, rfl, (fun e => nomatch e), wpAny_truthy_bool h⟩
theorem eq_tup_yes {p q : Addr} {us vs : List Value} {Q : Value → Shared → Prop} (hu : A.units + (n + 1) < cLine) (hx : TupIs s p us) (hy : TupIs s q vs) (hl : us.length = vs.length) (he : ∀ z ∈ us.zip vs, EqT prog w n s z.1 z.2) (h : Q (.bool true) s) :
    wpAny (model prog w) A (compareOp .Eq (.ref p) (.ref q)) Q E s := by
  show wpAny _ _ (richCompare .Eq (.ref p) (.ref q)) _ _ s
  refine wpAny_richCompare_same_room (op := .Eq) hx.typeIs hy.typeIs PySem.F.slot_tuple_eq
      (wpAny_call_entry PySem.F.slot_tuple_eq hx.typeIs PySem.F.entry_tuple_eq ?_ (PySem.F.args_tuple_eq_2 _ _)) (by omega)
  have hTb := hy.typeIs
  obtain ⟨oa, na, hoa, _, hda⟩ := hx
  obtain ⟨ob, nb, hob, _, hdb⟩ := hy
  show wpAny _ _ (isInstance (.ref q) (.type "tuple") >>= _) _ _ s
  refine wpAny_bind (wpAny_isInstance hTb isSubtype_tuple_tuple ?_)
  simp only [Bool.not_true, Bool.false_eq_true, if_false]
  refine wpAny_bind (wpAny_tupleItemsOf hoa hda ?_)
  refine wpAny_bind (wpAny_tupleItemsOf hob hdb ?_)
  refine wpAny_bind ?_
  refine wpAny_forIn_list _ (fun rest r s' => r.1 = none ∧ s' = s ∧ ∀ z ∈ rest, EqT prog w n s z.1 z.2) _ ?_ ?_ _ _ ⟨rfl, rfl, he⟩
  · rintro ⟨u, v⟩ rest r s' ⟨hr, rfl, ha⟩
    refine wpAny_bind (ha (u, v) List.mem_cons_self A.in1 _ _ (by simp only [Around.in1_units]; omega) ?_)
    simp only [Bool.not_true, Bool.false_eq_true, if_false]
    exact wpAny_pure ⟨rfl, rfl, fun p hp => ha p (List.mem_cons_of_mem _ hp)⟩
  · rintro ⟨r1, r2⟩ s' ⟨hr, rfl, _⟩
    simp only at hr
    subst hr
    refine wpAny_pure ⟨_, rfl, (fun e => nomatch e), ?_⟩
    have : (us.toArray.size == vs.toArray.size) = true := by simp [hl]
    show Q (.bool (us.toArray.size == vs.toArray.size)) s'
    rw [this]; exact h
end
end L3

set_option Elab.async false
set_option linter.all false
set_option maxRecDepth 100000
set_option maxHeartbeats 4000000
namespace L3
open PySem PySem.Spec PyProof.Rows
/-! ### the hashes of ('n', k), k below 12, and of (i, (b, c)) are unlike -/
theorem lo31 (x : Nat) : x * 2147483648 % 18446744073709551616 = x % 8589934592 * 2147483648 := by omega
theorem rot_one {x y : Nat} (hx : x < 18446744073709551616) (hy : y < 18446744073709551616) (h : x % 8589934592 * 2147483648 + x / 8589934592 = y % 8589934592 * 2147483648 + y / 8589934592) : x = y := by omega
theorem rot_lt {x : Nat} (hx : x < 18446744073709551616) : x % 8589934592 * 2147483648 + x / 8589934592 < 18446744073709551616 := by omega
theorem add_one_c {u v : Nat} (hu : u < 18446744073709551616) (hv : v < 18446744073709551616) (h : (u + 2870177450013471924) % 18446744073709551616 = (v + 2870177450013471924) % 18446744073709551616) : u = v := by omega
theorem add_same {a u v : Nat} (h : (a + u) % 18446744073709551616 = (a + v) % 18446744073709551616) : u % 18446744073709551616 = v % 18446744073709551616 := by omega
theorem add_far {a u v : Nat} (h1 : (a + u) % 18446744073709551616 = 9148689060682678900) (h2 : (a + v) % 18446744073709551616 = 15881292906973731817) : (u + 6732603846291052917) % 18446744073709551616 = v % 18446744073709551616 := by omega
def hR (x : Nat) : Nat := x * 2147483648 % 18446744073709551616 + x / 8589934592
theorem hR_inj {x y : Nat} (hx : x < 18446744073709551616) (hy : y < 18446744073709551616) (h : hR x = hR y) : x = y := by
  unfold hR at h
  rw [lo31, lo31] at h
  exact rot_one hx hy h
theorem hR_lt {x : Nat} (hx : x < 18446744073709551616) : hR x < 18446744073709551616 := by
  unfold hR
  rw [lo31]
  exact rot_lt hx
theorem mul_back {p i m y : Nat} (hpi : p * i % m = 1) (hm : 1 < m) (hy : y < m) : (y * p % m) * i % m = y := by
  rw [Nat.mod_mul_mod, Nat.mul_assoc, Nat.mul_mod, hpi, Nat.mul_one, Nat.mod_mod, Nat.mod_eq_of_lt hy]
theorem mul_inj {p i m y z : Nat} (hpi : p * i % m = 1) (hm : 1 < m) (hy : y < m) (hz : z < m) (h : y * p % m = z * p % m) : y = z := by
  have e1 := mul_back hpi hm hy
  have e2 := mul_back hpi hm hz
  rw [h, e2] at e1
  exact e1.symm
def hT (x : Nat) : Nat := ((hR x * 11400714785074694791) % 18446744073709551616 + 2870177450013471924) % 18446744073709551616
theorem hT_inj {x y : Nat} (hx : x < 18446744073709551616) (hy : y < 18446744073709551616) (h : hT x = hT y) : x = y := by
  refine hR_inj hx hy (mul_inj (p := 11400714785074694791) (i := 614540362697595703) (m := 18446744073709551616) (by decide) (by decide) (hR_lt hx) (hR_lt hy) ?_)
  exact add_one_c (Nat.mod_lt _ (by decide)) (Nat.mod_lt _ (by decide)) h
theorem hT_lt (x : Nat) : hT x < 18446744073709551616 := Nat.mod_lt _ (by decide)
def hX (a k : Nat) : Nat := (a + k * 14029467366897019727) % 18446744073709551616
theorem hX_inj {a k j : Nat} (hk : k < 12) (hj : j < 12) (h : hX a k = hX a j) : k = j := by
  refine mul_inj (p := 14029467366897019727) (i := 839798700976720815) (m := 18446744073709551616) (by decide) (by decide) (Nat.lt_trans hk (by decide)) (Nat.lt_trans hj (by decide)) ?_
  exact add_same h
theorem far_all : ((List.range 12).all fun k => (List.range 12).all fun j => !((k * 14029467366897019727 + 6732603846291052917) % 18446744073709551616 == (j * 14029467366897019727) % 18446744073709551616)) = true := by decide +kernel
theorem hX_far {a k j : Nat} (hk : k < 12) (hj : j < 12) (h1 : hX a k = 9148689060682678900) (h2 : hX a j = 15881292906973731817) : False := by
  have h := add_far h1 h2
  have h3 := List.all_eq_true.mp (List.all_eq_true.mp far_all k (List.mem_range.mpr hk)) j (List.mem_range.mpr hj)
  rw [h] at h3
  simp at h3
theorem rh_same {i : Int} (h1 : -9223372036854775808 ≤ i) (h2 : i < 9223372036854775808) (h3 : i ≠ -1) : reduceHash i = i := by
  unfold reduceHash
  have e : (2 : Int) ^ 63 = 9223372036854775808 := by decide
  rw [e, if_pos (by rw [Bool.and_eq_true]; exact ⟨decide_eq_true h1, decide_eq_true h2⟩), if_neg (by simpa using h3)]
def hF (t : Nat) : Int := if t = 18446744073709551615 then 1546275796 else if t < 9223372036854775808 then (t : Int) else (t : Int) - 18446744073709551616
theorem hF_b {t : Nat} (ht : t < 18446744073709551616) : -9223372036854775808 ≤ hF t ∧ hF t < 9223372036854775808 ∧ hF t ≠ -1 := by
  unfold hF
  by_cases c1 : t = 18446744073709551615
  · rw [if_pos c1]; decide
  · rw [if_neg c1]
    by_cases c2 : t < 9223372036854775808
    · rw [if_pos c2]; omega
    · rw [if_neg c2]; omega
theorem hF_red {t : Nat} (ht : t < 18446744073709551616) : reduceHash (hF t) = hF t := let ⟨a, b, c⟩ := hF_b ht; rh_same a b c
theorem hF_eq {t u : Nat} (ht : t < 18446744073709551616) (hu : u < 18446744073709551616) (h : hF t = hF u) : t = u ∨ (t = 18446744073709551615 ∧ u = 1546275796) ∨ (t = 1546275796 ∧ u = 18446744073709551615) := by
  unfold hF at h
  by_cases c1 : t = 18446744073709551615
  · rw [if_pos c1] at h
    by_cases d1 : u = 18446744073709551615
    · exact .inl (c1.trans d1.symm)
    · rw [if_neg d1] at h
      by_cases d2 : u < 9223372036854775808
      · rw [if_pos d2] at h; exact .inr (.inl ⟨c1, by omega⟩)
      · rw [if_neg d2] at h; omega
  · rw [if_neg c1] at h
    by_cases c2 : t < 9223372036854775808
    · rw [if_pos c2] at h
      by_cases d1 : u = 18446744073709551615
      · rw [if_pos d1] at h; exact .inr (.inr ⟨by omega, d1⟩)
      · rw [if_neg d1] at h
        by_cases d2 : u < 9223372036854775808
        · rw [if_pos d2] at h; exact .inl (by omega)
        · rw [if_neg d2] at h; omega
    · rw [if_neg c2] at h
      by_cases d1 : u = 18446744073709551615
      · rw [if_pos d1] at h; omega
      · rw [if_neg d1] at h
        by_cases d2 : u < 9223372036854775808
        · rw [if_pos d2] at h; omega
        · rw [if_neg d2] at h; exact .inl (by omega)
theorem xor_c : ((2 : Nat) ^^^ (2870177450012600261 ^^^ 3527539)) = 2870177450013471924 := by decide +kernel
theorem fin_hF (t : Nat) : (if (t == 2 ^ 64 - 1) = true then (1546275796 : Int) else if t < 2 ^ 63 then (t : Int) else (t : Int) - ((2 ^ 64 : Nat) : Int)) = hF t := by
  have e1 : (2 : Nat) ^ 64 - 1 = 18446744073709551615 := by decide
  have e2 : (2 : Nat) ^ 63 = 9223372036854775808 := by decide
  have e3 : (2 : Nat) ^ 64 = 18446744073709551616 := by decide
  unfold hF
  rw [e1, e2, e3]
  by_cases c : t = 18446744073709551615
  · rw [if_pos c, if_pos (by rw [c]; exact beq_self_eq_true _)]
  · rw [if_neg c, if_neg (by simpa using c)]; rfl
def stepH (acc : Nat) (h : Int) : Nat := hR ((acc + (h % (18446744073709551616 : Int)).toNat * 14029467366897019727) % 18446744073709551616) * 11400714785074694791 % 18446744073709551616
theorem hash_fold (hs : List Int) : Builtin.Tuple.tupleHashOf hs = hF ((hs.foldl stepH 2870177450012600261 + (hs.length ^^^ (2870177450012600261 ^^^ 3527539))) % 18446744073709551616) := by
  have e3 : (2 : Nat) ^ 64 = 18446744073709551616 := by decide
  have e4 : (2 : Nat) ^ 31 = 2147483648 := by decide
  have e5 : (2 : Nat) ^ 33 = 8589934592 := by decide
  have es : (fun (acc : Nat) (h : Int) => ((((acc + (h % ((2 ^ 64 : Nat) : Int)).toNat * 14029467366897019727) % 2 ^ 64) * 2 ^ 31) % 2 ^ 64 + ((acc + (h % ((2 ^ 64 : Nat) : Int)).toNat * 14029467366897019727) % 2 ^ 64) / 2 ^ 33) * 11400714785074694791 % 2 ^ 64) = stepH := by
    funext acc h
    rw [e3, e4, e5]
    rfl
  unfold Builtin.Tuple.tupleHashOf
  show (if ((hs.foldl _ 2870177450012600261 + (hs.length ^^^ (2870177450012600261 ^^^ 3527539))) % 2 ^ 64 == 2 ^ 64 - 1) = true then (1546275796 : Int) else _) = _
  rw [← fin_hF, ← es]
theorem hash_two (h1 h2 : Int) : Builtin.Tuple.tupleHashOf [h1, h2] = hF (hT (hX (stepH 2870177450012600261 h1) (h2 % (18446744073709551616 : Int)).toNat)) := by
  rw [hash_fold]
  rw [List.foldl_cons, List.foldl_cons, List.foldl_nil, show [h1, h2].length = 2 from rfl, xor_c]
  generalize stepH 2870177450012600261 h1 = A
  unfold stepH hT hX
  with_reducible rfl
theorem hash_nk {h1 : Int} {k j : Nat} (hk : k < 12) (hj : j < 12) (h : reduceHash (Builtin.Tuple.tupleHashOf [h1, (k : Int)]) = reduceHash (Builtin.Tuple.tupleHashOf [h1, (j : Int)])) : k = j := by
  have e : ∀ i : Nat, i < 12 → ((i : Int) % (18446744073709551616 : Int)).toNat = i := fun i hi => by
    omega
  rw [hash_two, hash_two, e k hk, e j hj, hF_red (hT_lt _), hF_red (hT_lt _)] at h
  have lt : ∀ a i, hX a i < 18446744073709551616 := fun a i => Nat.mod_lt _ (by decide)
  have t1 : hT 9148689060682678900 = 18446744073709551615 := by decide +kernel
  have t2 : hT 15881292906973731817 = 1546275796 := by decide +kernel
  rcases hF_eq (hT_lt _) (hT_lt _) h with q | ⟨q1, q2⟩ | ⟨q1, q2⟩
  · exact hX_inj hk hj (hT_inj (lt _ _) (lt _ _) q)
  · exact (hX_far hk hj (hT_inj (lt _ _) (by decide) (q1.trans t1.symm)) (hT_inj (lt _ _) (by decide) (q2.trans t2.symm))).elim
  · exact (hX_far hj hk (hT_inj (lt _ _) (by decide) (q2.trans t1.symm)) (hT_inj (lt _ _) (by decide) (q1.trans t2.symm))).elim
def pkH (i : Nat) (b c : Bool) : Int := reduceHash (Builtin.Tuple.tupleHashOf [hashInt (i : Int), reduceHash (Builtin.Tuple.tupleHashOf [hashB b, hashB c])])
theorem hash_pk_all : ((List.range 2).all fun i => [true, false].all fun b => [true, false].all fun c => (List.range 2).all fun j => [true, false].all fun d => [true, false].all fun e => !(pkH i b c == pkH j d e) || (i == j && b == d && c == e)) = true := by decide +kernel
theorem hash_pk {i j : Nat} {b c d e : Bool} (hi : i < 2) (hj : j < 2) (h : pkH i b c = pkH j d e) : i = j ∧ b = d ∧ c = e := by
  have mb : ∀ b : Bool, b ∈ [true, false] := fun b => by cases b <;> simp
  have h1 := List.all_eq_true.mp hash_pk_all i (List.mem_range.mpr hi)
  have h2 := List.all_eq_true.mp h1 b (mb b)
  have h3 := List.all_eq_true.mp h2 c (mb c)
  have h4 := List.all_eq_true.mp h3 j (List.mem_range.mpr hj)
  have h5 := List.all_eq_true.mp h4 d (mb d)
  have h6 := List.all_eq_true.mp h5 e (mb e)
  have hb : (pkH i b c == pkH j d e) = true := by rw [h]; exact beq_self_eq_true _
  rw [hb] at h6
  simp only [Bool.not_true, Bool.false_or, Bool.and_eq_true, beq_iff_eq] at h6
  exact ⟨h6.1.1, h6.1.2, h6.2⟩
theorem hashInt_small : ∀ k : Nat, k < 12 → hashInt (k : Int) = (k : Int) := by
  intro k hk
  have : (List.range 12).all (fun k => hashInt (k : Int) == (k : Int)) = true := by decide +kernel
  exact eq_of_beq (List.all_eq_true.mp this k (List.mem_range.mpr hk))
end L3

set_option Elab.async false
set_option linter.all false
set_option maxRecDepth 100000
set_option maxHeartbeats 4000000
namespace L3
open PySem PySem.Spec PyProof.Rows L2
/-! ### nodes of a net: a number, ('n', k), a text, (i, (b, c)) -/
inductive ND where
  | i (k : Nat) | t (k : Nat) | s (x : Str) | p (i : Nat) (b c : Bool)
  deriving DecidableEq
def strN : Str := "n"
/-- of which kind, within which bounds -/
def OkD : Nat → ND → Prop
  | 0, .i k => k < 12
  | 1, .t k => k < 12
  | 2, .s x => PyData.strOk x = true
  | 3, .p i _ _ => i < 2
  | _, _ => False
def ValD (H : Hp) (v : V) : ND → Prop
  | .i k => v = .int (k : Int)
  | .t k => ∃ a, v = .ref a ∧ H a = some (.tup [.str strN, .int (k : Int)])
  | .s x => v = .str x
  | .p i b c => ∃ a e, v = .ref a ∧ H a = some (.tup [.int (i : Int), .ref e]) ∧ H e = some (.tup [.bl b, .bl c])
structure Nd (κ : Nat) (H : Hp) (v : V) (d : ND) : Prop where
  ok : OkD κ d
  val : ValD H v d
theorem Nd.mono {κ : Nat} {H H' : Hp} {v : V} {d : ND} (s : SameU H H') (h : Nd κ H v d) : Nd κ H' v d := by
  refine ⟨h.ok, ?_⟩
  have := h.val
  cases d with
  | i k => exact this
  | t k => obtain ⟨a, e, q⟩ := this; exact ⟨a, e, s _ _ q⟩
  | s x => exact this
  | p i b c => obtain ⟨a, e, h1, h2, h3⟩ := this; exact ⟨a, e, h1, s _ _ h2, s _ _ h3⟩
/-- as data -/
def toD : ND → PyData
  | .i k => .int k
  | .t k => .tuple [.str strN, .int k]
  | .s x => .str x
  | .p i b c => .tuple [.int i, .tuple [.bool b, .bool c]]
theorem Nd.dp {K : PySem.W.Frag} {κ : Nat} {H : Hp} {v : V} {d : ND} (h : Nd κ H v d) : Dp K H v (toD d) := by
  have := h.val
  cases d with
  | i k => cases (show v = _ from this); exact .int _
  | t k => obtain ⟨a, rfl, q⟩ := this; exact .tup (SqT.of q) (.cons (.str _) (.cons (.int _) .nil))
  | s x => cases (show v = _ from this); exact .str _
  | p i b c => obtain ⟨a, e, rfl, h2, h3⟩ := this; exact .tup (SqT.of h2) (.cons (.int _) (.cons (.tup (SqT.of h3) (.cons (.bl _) (.cons (.bl _) .nil))) .nil))
theorem toD_fine {κ : Nat} {d : ND} (h : OkD κ d) : Fine 2 (toD d) := by
  have hs : PyData.strOk strN = true := by decide +kernel
  cases d with
  | i k => exact ⟨by simp [toD, PyData.canLay0], by simp [toD, PyData.depth]⟩
  | t k => exact ⟨by simp [toD, PyData.canLay0, PyData.canLayAll0, hs], by simp [toD, PyData.depth, PyData.depthAll]⟩
  | s x =>
    have : PyData.strOk x = true := by
      unfold OkD at h
      split at h <;> first | (rename_i e; cases e; exact h) | (rename_i e; cases e) | exact h.elim
    exact ⟨by simp [toD, PyData.canLay0, this], by simp [toD, PyData.depth]⟩
  | p i b c => exact ⟨by simp [toD, PyData.canLay0, PyData.canLayAll0], by simp [toD, PyData.depth, PyData.depthAll]⟩
theorem okD_kind {κ : Nat} {d : ND} (h : OkD κ d) : (κ = 0 ∧ ∃ k, d = .i k ∧ k < 12) ∨ (κ = 1 ∧ ∃ k, d = .t k ∧ k < 12) ∨ (κ = 2 ∧ ∃ x, d = .s x ∧ PyData.strOk x = true) ∨ (κ = 3 ∧ ∃ i b c, d = .p i b c ∧ i < 2) := by
  match κ, d, h with
  | 0, .i k, h => exact .inl ⟨rfl, k, rfl, h⟩
  | 1, .t k, h => exact .inr (.inl ⟨rfl, k, rfl, h⟩)
  | 2, .s x, h => exact .inr (.inr (.inl ⟨rfl, x, rfl, h⟩))
  | 3, .p i b c, h => exact .inr (.inr (.inr ⟨rfl, i, b, c, rfl, h⟩))
/-- nodes of one kind are == just where they are the same -/
theorem eqv_toD {κ : Nat} {d e : ND} (h : OkD κ d) (h' : OkD κ e) : PyData.eqv (toD d) (toD e) = decide (d = e) := by
  have ki : ∀ a b : Int, (a == b) = decide (a = b) := fun a b => by by_cases e : a = b <;> simp [e]
  rcases okD_kind h with ⟨rfl, k, rfl, _⟩ | ⟨rfl, k, rfl, _⟩ | ⟨rfl, k, rfl, _⟩ | ⟨rfl, i, b, c, rfl, _⟩ <;>
  rcases okD_kind h' with ⟨z, l, rfl, _⟩ | ⟨z, l, rfl, _⟩ | ⟨z, l, rfl, _⟩ | ⟨z, j, f, g, rfl, _⟩ <;> (try omega)
  · by_cases e : k = l
    · subst e; simp [toD, PyData.eqv]
    · have : ¬ (k : Int) = l := by omega
      simp [toD, PyData.eqv, e, this]
  · by_cases e : k = l
    · subst e; simp [toD, PyData.eqv, PyData.eqvAll]
    · have : ¬ (k : Int) = l := by omega
      simp [toD, PyData.eqv, PyData.eqvAll, e, this]
  · by_cases e : k = l
    · subst e; simp [toD, PyData.eqv]
    · simp [toD, PyData.eqv, e]
  · by_cases e : i = j
    · subst e
      cases b <;> cases c <;> cases f <;> cases g <;> simp [toD, PyData.eqv, PyData.eqvAll]
    · have : ¬ (i : Int) = j := by omega
      simp [toD, PyData.eqv, PyData.eqvAll, e, this]
end L3

set_option Elab.async false
set_option linter.all false
set_option maxRecDepth 100000
set_option maxHeartbeats 4000000
namespace L3
open PySem PySem.Spec PyProof.Rows L2
/-! ### the hash of a node, by the world's parameters alone -/
def hStrP (Pm : Params) (x : Str) : Int := if x.cps.isEmpty = true then 0 else reduceHash (Pm.strHash x.cps)
def hN (Pm : Params) : ND → Int
  | .i k => hashInt k
  | .t k => reduceHash (Builtin.Tuple.tupleHashOf [hStrP Pm strN, hashInt (k : Int)])
  | .s x => hStrP Pm x
  | .p i b c => pkH i b c
theorem hN_inj {Pm : Params} {κ : Nat} {d e : ND} (hκ : κ = 1 ∨ κ = 3) (h : OkD κ d) (h' : OkD κ e) (q : hN Pm d = hN Pm e) : d = e := by
  rcases hκ with rfl | rfl
  · rcases okD_kind h with ⟨z, k, rfl, l⟩ | ⟨z, k, rfl, l⟩ | ⟨z, k, rfl, l⟩ | ⟨z, i, b, c, rfl, l⟩ <;> (try omega)
    rcases okD_kind h' with ⟨z, k', rfl, l'⟩ | ⟨z, k', rfl, l'⟩ | ⟨z, k', rfl, l'⟩ | ⟨z, i', b', c', rfl, l'⟩ <;> (try omega)
    replace q : reduceHash (Builtin.Tuple.tupleHashOf [hStrP Pm strN, hashInt (k : Int)]) = reduceHash (Builtin.Tuple.tupleHashOf [hStrP Pm strN, hashInt (k' : Int)]) := q
    rw [hashInt_small k l, hashInt_small k' l'] at q
    rw [hash_nk l l' q]
  · rcases okD_kind h with ⟨z, k, rfl, l⟩ | ⟨z, k, rfl, l⟩ | ⟨z, k, rfl, l⟩ | ⟨z, i, b, c, rfl, l⟩ <;> (try omega)
    rcases okD_kind h' with ⟨z, k', rfl, l'⟩ | ⟨z, k', rfl, l'⟩ | ⟨z, k', rfl, l'⟩ | ⟨z, i', b', c', rfl, l'⟩ <;> (try omega)
    obtain ⟨e1, e2, e3⟩ := hash_pk l l' q
    rw [e1, e2, e3]
/-- a kind seen through a map that keeps things apart -/
def pull {prog : Program} {w : World} {K D : Type} [DecidableEq K] [DecidableEq D] (knd : VKind prog w K) (P : D → Prop) (f : D → K) (g : D → Int) (R : Around → Prop) (hg : ∀ d, P d → g d = knd.hash (f d)) (hf : ∀ d e, P d → P e → f d = f e → d = e) (hR : ∀ A, R A → knd.room A) : VKind prog w D where
  is := fun h d v => P d ∧ knd.is h (f d) v
  hash := g
  room := R
  quiet := knd.quiet
  pyHash := fun {A E s k v Q} hr h q => knd.pyHash (hR _ hr) h.2 fun tk => by rw [← hg k h.1]; exact q tk
  find := fun {A E s d o es ep xs k u Q} hr hu ho hd he his hn hnone hsome => by
    rw [hg k hu.1]
    refine knd.find (xs := xs.map fun x => (f x.1, x.2.1, x.2.2)) (hR _ hr) hu.2 ho hd ?_ ?_ ?_ ?_ ?_
    · rw [he, List.map_map]
      apply List.map_congr_left
      intro x hx
      simp only [Function.comp]
      rw [hg x.1 (his x hx).1]
    · intro x hx
      obtain ⟨y, hy, rfl⟩ := List.mem_map.mp hx
      exact (his y hy).2
    · rw [List.map_map]
      have inj : ∀ x ∈ xs, ∀ y ∈ xs, f x.1 = f y.1 → x.1 = y.1 := fun x hx y hy e => hf _ _ (his x hx).1 (his y hy).1 e
      clear he hnone hsome his
      induction xs with
      | nil => exact List.nodup_nil
      | cons z r ih =>
        rw [List.map_cons, List.nodup_cons] at hn ⊢
        refine ⟨fun hm => ?_, ih hn.2 fun x hx y hy => inj x (List.mem_cons_of_mem _ hx) y (List.mem_cons_of_mem _ hy)⟩
        obtain ⟨y, hy, e⟩ := List.mem_map.mp hm
        exact hn.1 (List.mem_map.mpr ⟨y, hy, inj y (List.mem_cons_of_mem _ hy) z List.mem_cons_self e⟩)
    · intro h
      exact hnone fun x hx e => h (f x.1, x.2.1, x.2.2) (List.mem_map.mpr ⟨x, hx, rfl⟩) (by rw [e])
    · intro j x hj hx
      rw [List.getElem?_map] at hj
      obtain ⟨y, e1, e2⟩ := Option.map_eq_some_iff.mp hj
      refine hsome j y e1 (hf _ _ (his y (List.mem_of_getElem? e1)).1 hu.1 ?_)
      rw [← hx, ← e2]
  eqq := fun {A E s k v Q} h q => knd.eqq h.2 q
def keyOfI : ND → Key
  | .i k => .inl (k : Int)
  | .s x => .inr x
  | _ => .inl 0
def keyOfT : ND → List Key
  | .t k => [.inr strN, .inl (k : Int)]
  | _ => []
def keyOfP : ND → Int × List Bool
  | .p i b c => ((i : Int), [b, c])
  | _ => (0, [])
def roomN (A : Around) : Prop := A.units + 2 < cLine
section
variable (prog : Program) (w : World)
def vI : VKind prog w ND := pull (vOfKey (mixKind prog w)) (OkD 0) keyOfI (hN w.params) roomN
  (fun d h => by rcases okD_kind h with ⟨z, k, rfl, l⟩ | ⟨z, _⟩ | ⟨z, _⟩ | ⟨z, _⟩ <;> first | rfl | omega)
  (fun d e h h' q => by
    rcases okD_kind h with ⟨z, k, rfl, l⟩ | ⟨z, _⟩ | ⟨z, _⟩ | ⟨z, _⟩ <;> (try omega)
    rcases okD_kind h' with ⟨z, k', rfl, l'⟩ | ⟨z, _⟩ | ⟨z, _⟩ | ⟨z, _⟩ <;> (try omega)
    have : (k : Int) = k' := Sum.inl.inj q
    rw [Int.ofNat.inj this]) (fun _ _ => True.intro)
def vS : VKind prog w ND := pull (vOfKey (mixKind prog w)) (OkD 2) keyOfI (hN w.params) roomN
  (fun d h => by rcases okD_kind h with ⟨z, _⟩ | ⟨z, _⟩ | ⟨z, x, rfl, l⟩ | ⟨z, _⟩ <;> first | rfl | omega)
  (fun d e h h' q => by
    rcases okD_kind h with ⟨z, _⟩ | ⟨z, _⟩ | ⟨z, x, rfl, l⟩ | ⟨z, _⟩ <;> (try omega)
    rcases okD_kind h' with ⟨z, _⟩ | ⟨z, _⟩ | ⟨z, x', rfl, l'⟩ | ⟨z, _⟩ <;> (try omega)
    have : x = x' := Sum.inr.inj q
    rw [this]) (fun _ _ => True.intro)
def vT : VKind prog w ND := pull (vOfHeap (tupleKind (mixKind prog w)) fun h => h.typeIs) (OkD 1) keyOfT (hN w.params) roomN
  (fun d h => by rcases okD_kind h with ⟨z, _⟩ | ⟨z, k, rfl, l⟩ | ⟨z, _⟩ | ⟨z, _⟩ <;> first | rfl | omega)
  (fun d e h h' q => by
    rcases okD_kind h with ⟨z, _⟩ | ⟨z, k, rfl, l⟩ | ⟨z, _⟩ | ⟨z, _⟩ <;> (try omega)
    rcases okD_kind h' with ⟨z, _⟩ | ⟨z, k', rfl, l'⟩ | ⟨z, _⟩ | ⟨z, _⟩ <;> (try omega)
    have : (k : Int) = k' := by
      have q' : [(Sum.inr strN : Key), .inl (k : Int)] = [.inr strN, .inl (k' : Int)] := q
      injection q' with _ q2
      injection q2 with q3 _
      exact Sum.inl.inj q3
    rw [Int.ofNat.inj this]) (fun A h => by show A.units < cLine; unfold roomN at h; omega)
def vP : VKind prog w ND := pull (vOfHeap (pkKind (intKind prog w) (boolKind prog w)) fun h => h.typeIs) (OkD 3) keyOfP (hN w.params) roomN
  (fun d h => by rcases okD_kind h with ⟨z, _⟩ | ⟨z, _⟩ | ⟨z, _⟩ | ⟨z, i, b, c, rfl, l⟩ <;> first | rfl | omega)
  (fun d e h h' q => by
    rcases okD_kind h with ⟨z, _⟩ | ⟨z, _⟩ | ⟨z, _⟩ | ⟨z, i, b, c, rfl, l⟩ <;> (try omega)
    rcases okD_kind h' with ⟨z, _⟩ | ⟨z, _⟩ | ⟨z, _⟩ | ⟨z, i', b', c', rfl, l'⟩ <;> (try omega)
    have q' : ((i : Int), [b, c]) = ((i' : Int), [b', c']) := q
    injection q' with q1 q2
    injection q2 with q3 q4
    injection q4 with q5 _
    rw [Int.ofNat.inj q1, q3, q5]) (fun A h => by show A.units + 1 < cLine; unfold roomN at h; omega)
def vN : Nat → VKind prog w ND
  | 0 => vI prog w
  | 1 => vT prog w
  | 2 => vS prog w
  | _ => vP prog w
end
theorem vN_hash {prog : Program} {w : World} {κ : Nat} : (vN prog w κ).hash = hN w.params := by
  unfold vN; split <;> rfl
theorem vN_room {prog : Program} {w : World} {κ : Nat} : (vN prog w κ).room = roomN := by
  unfold vN; split <;> rfl
theorem vN_loud {prog : Program} {w : World} {κ : Nat} (h : (vN prog w κ).quiet = false) (hκ : κ < 4) : κ = 1 ∨ κ = 3 := by
  match κ, hκ with
  | 0, _ => cases h
  | 1, _ => exact .inl rfl
  | 2, _ => cases h
  | 3, _ => exact .inr rfl
theorem OkD.lt {κ : Nat} {d : ND} (h : OkD κ d) : κ < 4 := by
  rcases okD_kind h with ⟨z, _⟩ | ⟨z, _⟩ | ⟨z, _⟩ | ⟨z, _⟩ <;> omega
section
variable {X : Cx} {pins : List (Addr × Obj)} {σ : L3.St} {H : Hp} {s : Shared}
theorem IsTup.at2 {h : Heap} {a : Addr} {u v : Value} (t : IsTup h a [u, v].toArray) : ∃ o n, h.get? a = some o ∧ o.cls = .type "tuple" ∧ o.data = .seq #[u, v] n := by
  obtain ⟨o, h1, h2, n, h3⟩ := t
  exact ⟨o, n, h1, h2, h3⟩
theorem Nd.is {κ : Nat} {v : V} {d : ND} {u : Value} (I : L2.Inv X pins σ H s) (h : Nd κ H v d) (r : RelV v u) : (vN X.prog X.w κ).is s.heap d u := by
  obtain ⟨ok, val⟩ := h
  rcases okD_kind ok with ⟨rfl, k, rfl, l⟩ | ⟨rfl, k, rfl, l⟩ | ⟨rfl, x, rfl, l⟩ | ⟨rfl, i, b, c, rfl, l⟩
  · cases (show v = _ from val)
    obtain ⟨t, rfl⟩ := r
    exact ⟨ok, keyIs_int _ t⟩
  · obtain ⟨a, rfl, q⟩ := val
    cases (show u = Value.ref a from r)
    refine ⟨ok, a, rfl, ?_⟩
    exact key_ofK (ks := [.inr strN, .inl (k : Int)]) I (SqT.of q)
  · cases (show v = _ from val)
    obtain ⟨t, rfl⟩ := r
    exact ⟨ok, keyIs_str _ t⟩
  · obtain ⟨a, e, rfl, q1, q2⟩ := val
    cases (show u = Value.ref a from r)
    refine ⟨ok, a, rfl, ?_⟩
    obtain ⟨its, rv, t, _⟩ := I.tuple (SqT.of q1)
    obtain ⟨u1, u2, rfl, r1, r2⟩ := vals2 rv
    obtain ⟨t1, rfl⟩ := r1
    cases (show u2 = Value.ref e from r2)
    obtain ⟨its', rv', t', _⟩ := I.tuple (SqT.of q2)
    obtain ⟨w1, w2, rfl, s1, s2⟩ := vals2 rv'
    cases (show w1 = Value.bool b from s1)
    cases (show w2 = Value.bool c from s2)
    obtain ⟨o, n, h1, h2, h3⟩ := IsTup.at2 t
    obtain ⟨o', n', h1', h2', h3'⟩ := IsTup.at2 t'
    exact ⟨o, _, e, n, h1, h2, h3, intKind_is _ _ _ _, ⟨o', _, n', h1', h2', h3', .cons (by simp [boolKind, isB]) (.cons (by simp [boolKind, isB]) .nil)⟩⟩
end
end L3

set_option Elab.async false
set_option linter.all false
set_option maxRecDepth 100000
set_option maxHeartbeats 4000000
namespace L3
open PySem PySem.Spec PyProof.Rows L2
/-! ### dicts from nodes -/
abbrev NE := List (ND × V × V)
def NPr : NE → List (ND × Value × Value) → Prop := Paired fun p q => p.1 = q.1 ∧ RelV p.2.1 q.2.1 ∧ RelV p.2.2 q.2.2
def DnAt (Pm : Params) (a : Addr) (es : NE) (h : Heap) : Prop := es.length ≤ sizeLine ∧ (a == sysModules) = false ∧ ∃ xs : List (ND × Value × Value), NPr es xs ∧
  ∃ o fs ep, h.get? a = some o ∧ o.ExactDict ∧ o.data = .dict fs ep ∧ fs.toList = xs.map (fun x => ⟨hN Pm x.1, x.2.1, x.2.2⟩) ∧ (xs.map (·.1)).Nodup
def DnO (Pm : Params) (a : Addr) (es : NE) : HO := .ext (DnAt Pm a es)
theorem dn_ok {P : Program} {w : World} {Pm : Params} {H : Hp} {h : Heap} {a : Addr} {es : NE} (x : DnAt Pm a es h) : ObjOk P w H h a (DnO Pm a es) := by
  refine ⟨x, ?_, ?_⟩
  · obtain ⟨_, _, _, _, o, _, _, e, _⟩ := x
    exact ⟨o, e⟩
  · rintro h1 h2 ⟨z, y, xs, r, o, fs, ep, e, c⟩ k
    exact ⟨z, y, xs, r, o, fs, ep, k _ e, c⟩
def valN (es : NE) (d : ND) : Option V := (es.find? fun e => decide (e.1 = d)).map (·.2.2)
def putN (es : NE) (d : ND) (y v : V) : NE := if (es.any fun e => decide (e.1 = d)) = true then es.map (fun e => if e.1 = d then (e.1, e.2.1, v) else e) else es ++ [(d, y, v)]
theorem NPr.val {es : NE} {xs : List (ND × Value × Value)} (r : NPr es xs) (d : ND) : RelO (valN es d) (valD xs d) := by
  induction r with
  | nil => exact True.intro
  | @cons p q ps qs h t ih =>
    obtain ⟨h1, _, h2⟩ := h
    unfold valN valD at ih ⊢
    by_cases e : p.1 = d
    · have e' : q.1 = d := h1.symm.trans e
      rw [List.find?_cons_of_pos (by simpa using e), List.find?_cons_of_pos (by simpa using e')]; exact h2
    · have e' : ¬ q.1 = d := fun z => e (h1.trans z)
      rw [List.find?_cons_of_neg (by simpa using e), List.find?_cons_of_neg (by simpa using e')]; exact ih
theorem NPr.any {es : NE} {xs : List (ND × Value × Value)} (r : NPr es xs) (d : ND) : (es.any fun e => decide (e.1 = d)) = (xs.any fun e => decide (e.1 = d)) := by
  induction r with
  | nil => rfl
  | cons h t ih => rw [List.any_cons, List.any_cons, ih, h.1]
theorem NPr.put {es : NE} {xs : List (ND × Value × Value)} (r : NPr es xs) {d : ND} {y v : V} {u w : Value} (ry : RelV y u) (rv : RelV v w) : NPr (putN es d y v) (putD xs d u w) := by
  unfold putN putD
  rw [r.any d]
  split
  · rename_i hh
    clear ry hh
    induction r with
    | nil => exact .nil
    | @cons p q ps qs h t ih =>
      rw [List.map_cons, List.map_cons]
      refine .cons ?_ ih
      by_cases e : p.1 = d
      · rw [if_pos e, if_pos (h.1.symm.trans e)]; exact ⟨h.1, h.2.1, rv⟩
      · rw [if_neg e, if_neg fun z => e (h.1.trans z)]; exact h
  · exact Paired.snoc r ⟨rfl, ry, rv⟩
theorem NPr.keys {es : NE} {xs : List (ND × Value × Value)} (r : NPr es xs) : es.map (·.1) = xs.map (·.1) := by
  induction r with
  | nil => rfl
  | cons h t ih => rw [List.map_cons, List.map_cons, ih, h.1]
theorem putN_len (es : NE) (d : ND) (y v : V) : (putN es d y v).length ≤ es.length + 1 := by
  unfold putN; split <;> simp
section
variable {X : Cx} {pins : List (Addr × Obj)} {σ : L3.St} {H : Hp} {s : Shared} {a : Addr} {y v : V} {u r : Value} {A : Around} {E : Value → Shared → Prop} {Pm : Params} {κ : Nat} {es : NE} {d : ND}
theorem NPr.is {xs : List (ND × Value × Value)} (q : NPr es xs) (I : L2.Inv X pins σ H s) (hk : ∀ e ∈ es, Nd κ H e.2.1 e.1) : ∀ x ∈ xs, (vN X.prog X.w κ).is s.heap x.1 x.2.1 := by
  induction q with
  | nil => intro x hx; exact nomatch hx
  | @cons p q ps qs hq t ih =>
    intro x hx
    rcases List.mem_cons.mp hx with e | hx
    · subst e
      have := hk p (by simp)
      rw [← hq.1]
      exact this.is I hq.2.1
    · exact ih (fun e he => hk e (List.mem_cons_of_mem _ he)) x hx
theorem dn_of (κ : Nat) (hw : X.w.params = Pm) (I : L2.Inv X pins σ H s) (e : H a = some (DnO Pm a es)) : es.length ≤ sizeLine ∧ (a == sysModules) = false ∧ ∃ xs, NPr es xs ∧ DictV (vN X.prog X.w κ) s.heap a xs := by
  obtain ⟨⟨z, y, xs, r, o, fs, ep, h1, h2, h3, h4, h5⟩, _⟩ := I.hok a _ e
  refine ⟨z, y, xs, r, o, fs, ep, h1, h2, h3, ?_, h5⟩
  rw [h4, vN_hash, hw]
theorem dn_new (hw : X.w.params = Pm) {xs : List (ND × Value × Value)} {h : Heap} (hz : es.length ≤ sizeLine) (hs : (a == sysModules) = false) (r : NPr es xs) (m : DictV (vN X.prog X.w κ) h a xs) : DnAt Pm a es h := by
  obtain ⟨o, fs, ep, h1, h2, h3, h4, h5⟩ := m
  refine ⟨hz, hs, xs, r, o, fs, ep, h1, h2, h3, ?_, h5⟩
  rw [h4, vN_hash, hw]
theorem room1 {A : Around} (hu : A.units + 3 < cLine) : (vN X.prog X.w κ).room A.in1 := by
  rw [vN_room]; show A.in1.units + 2 < cLine; simp only [Around.in1_units]; omega
end
def tNGet (Pm : Params) (td ty : TE) : TE := fun σ H Q => td σ H fun x H1 => ty σ H1 fun y H2 => ∃ a es κ d v, x = .ref a ∧ H2 a = some (DnO Pm a es) ∧ (∀ e ∈ es, Nd κ H2 e.2.1 e.1) ∧ Nd κ H2 y d ∧ valN es d = some v ∧ Q v H2
def tNNotIn (Pm : Params) (ty td : TE) : TE := fun σ H Q => ty σ H fun y H1 => td σ H1 fun x H2 => ∃ a es κ d, x = .ref a ∧ H2 a = some (DnO Pm a es) ∧ (∀ e ∈ es, Nd κ H2 e.2.1 e.1) ∧ Nd κ H2 y d ∧ Q (.bl (!(valN es d).isSome)) H2
def sNPut (Pm : Params) (td ty tv : TE) : L2.TS := fun D σ H => tv σ H fun v H1 => td σ H1 fun x H2 => ty σ H2 fun y H3 => ∃ a es κ d, x = .ref a ∧ H3 a = some (DnO Pm a es) ∧ (∀ e ∈ es, Nd κ H3 e.2.1 e.1) ∧ Nd κ H3 y d ∧ es.length < sizeLine ∧ D.nx σ (upd H3 a (DnO Pm a (putN es d y v)))
def tNNew (Pm : Params) : TE := fun _ H Q => ∀ p, H p = none → Q (.ref p) (upd H p (DnO Pm p []))
section
variable {X : Cx} {o i e value : Expr} {pos pos' : Pos} {td ty tv : TE} {Pm : Params}
theorem n_dict {pins : List (Addr × Obj)} {σ : L3.St} {H : Hp} {s : Shared} {a : Addr} {es : NE} (I : L2.Inv X pins σ H s) (e : H a = some (DnO Pm a es)) : s.TypeIs (.ref a) "dict" := by
  obtain ⟨⟨_, _, _, _, o, _, _, h1, h2, _⟩, _⟩ := I.hok a _ e
  exact ⟨o, h1, h2.1⟩
theorem pe_nget (hw : X.w.params = Pm) (hu : X.A.units + 3 < cLine) (ho : PE X o td) (hi : PE X i ty) (hs : NoSl i) : PE X (.Subscript o i pos) (tNGet Pm td ty) := by
  intro pins s σ H Q I h
  refine subD_of PySem.F.slot_dict_getitem.lookup hs (thn (ho pins s σ H _ I h) fun u s1 ⟨x, H1, I1, rx, q1⟩ => thn (hi pins s1 σ H1 _ I1 q1) fun iv s2 ⟨y, H2, I2, ry, a, es, κ, d, v, ex, g, hk, hn, hv, q2⟩ => ?_)
  subst ex
  obtain rfl : u = Value.ref a := rx
  obtain ⟨z, hd, xs, rel, m⟩ := dn_of κ hw I2 g
  obtain ⟨w', hw', rw'⟩ := RelO.some_of (v := v) (o := valD xs d) (by rw [← hv]; exact rel.val d)
  exact ⟨n_dict I2 g, dv_getItem (room1 hu) (hn.is I2 ry) m (rel.is I2 hk) hw' fun tk => ⟨v, H2, I2.tok _, rw', q2⟩⟩
theorem pc_nnotin (hw : X.w.params = Pm) (hu : X.A.units + 3 < cLine) (hi : PE X i ty) (ho : PE X o td) : PC X .NotIn i o (tNNotIn Pm ty td) := by
  intro pins s σ H Q I h
  refine thn (hi pins s σ H _ I h) fun iv s1 ⟨y, H1, I1, ry, q1⟩ => thn (ho pins s1 σ H1 _ I1 q1) fun u s2 ⟨x, H2, I2, rx, a, es, κ, d, ex, g, hk, hn, q2⟩ => ?_
  subst ex
  obtain rfl : u = Value.ref a := rx
  obtain ⟨z, hd, xs, rel, m⟩ := dn_of κ hw I2 g
  refine dv_notIn (room1 hu) (hn.is I2 ry) hd m (rel.is I2 hk) fun tk => ?_
  rw [← (rel.val d).isSome_eq]
  exact ⟨.bl _, H2, I2.tok _, rfl, q2⟩
theorem ps_nput (hw : X.w.params = Pm) (hu : X.A.units + 3 < cLine) (ho : PE X o td) (hi : PE X i ty) (hv : PE X value tv) (hs : swapsWith value (some (.Subscript o i pos')) pos.line X.env = pure false) :
    PS X (.Assign [.Subscript o i pos'] value pos) (sNPut Pm td ty tv) := by
  intro pins s σ H D I h
  refine wpAny_Assign_Subscript (thn (hv pins s σ H _ I h) fun r s1 ⟨v, H1, I1, rv, q1⟩ => thn (ho pins s1 σ H1 _ I1 q1) fun u s2 ⟨x, H2, I2, rx, q2⟩ => thn (hi pins s2 σ H2 _ I2 q2) fun iv s3 ⟨y, H3, I3, ry, a, es, κ, d, ex, g, hk, hn, hl, q3⟩ => ?_) hs
  subst ex
  obtain rfl : u = Value.ref a := rx
  obtain ⟨z, hd, xs, rel, m⟩ := dn_of κ hw I3 g
  have hz : xs.length ≤ sizeLine := by rw [← Paired.length rel]; exact z
  refine dv_setItem (room1 hu) (hn.is I3 ry) m (rel.is I3 hk) (fun h' tk m' sb => ?_) hz
  have he : ∃ q, h'.get? a = some q := let ⟨q, _, _, hq, _⟩ := m'; ⟨q, hq⟩
  refine ⟨σ, _, ?_, q3⟩
  exact d_write (ob := DnO Pm a (putN es d y v)) I3 (by rw [g]; exact True.intro) sb he (dn_ok (dn_new hw (by have := putN_len es d y v; omega) hd (rel.put ry rv) m'))
theorem pe_nnew (hw : X.w.params = Pm) : PE X (.Dict [] [] pos) (tNNew Pm) := fun pins s σ H Q I h =>
  wpAny_Dict_empty ⟨.ref s.heap.objs.size, _, I.laid (a := s.heap.objs.size) (o := DnO Pm s.heap.objs.size []) (t' := s.toks) (fun _ _ q => Heap.get?_push_of_some _ q) (Nat.le_refl _) (dn_ok ⟨Nat.zero_le _, beq_eq_false_iff_ne.mpr (Ne.symm (Nat.ne_of_lt (Inv.big I))), [], .nil, _, #[], 0, Heap.get?_push_size _ rfl, ⟨rfl, rfl, rfl⟩, rfl, rfl, List.nodup_nil⟩), rfl, h _ (I.hok.fresh (Nat.le_refl _))⟩
/-- dict(d) -/
def rDictN (Pm : Params) : List V → Hp → VK → Prop := fun xs H Q => ∃ a es κ, xs = [.ref a] ∧ H a = some (DnO Pm a es) ∧ (∀ e ∈ es, Nd κ H e.2.1 e.1) ∧ ∀ l, H l = none → Q (.ref l) (upd H l (DnO Pm l es))
theorem call_dictN (hw : X.w.params = Pm) (hu : X.A.units + 8 < cLine) : CallR X (.type "dict") (rDictN Pm) := by
  intro pins s σ H xs us Q I r h
  obtain ⟨a, es, κ, rfl, g, hk, q⟩ := h
  obtain ⟨u, rfl, ru⟩ := vals1 r
  obtain rfl : u = Value.ref a := ru
  obtain ⟨z, hd, xs, rel, m⟩ := dn_of κ hw I g
  have hz : xs.length ≤ sizeLine := by rw [← Paired.length rel]; exact z
  refine call_dict1 (knd := vN X.prog X.w κ) (fun A' hA => by rw [vN_room]; show A'.units + 2 < cLine; omega) hd (beq_eq_false_iff_ne.mpr (Ne.symm (Nat.ne_of_lt (Inv.big I)))) m
    (fun h' k => NPr.is (s := { s with heap := h', toks := s.toks }) rel (I.kept k) hk) (fun hq x hx y hy e => ?_) hz fun h' tk m' k => ?_
  · have := rel.is I hk
    have kx : ∀ x ∈ xs, OkD κ x.1 := fun x hx => by
      have : x.1 ∈ es.map (·.1) := by rw [rel.keys]; exact List.mem_map.mpr ⟨x, hx, rfl⟩
      obtain ⟨p, hp, e⟩ := List.mem_map.mp this
      rw [← e]; exact (hk p hp).ok
    rw [vN_hash] at e
    exact hN_inj (vN_loud hq (kx x hx).lt) (kx x hx) (kx y hy) e
  · exact ⟨.ref s.heap.objs.size, _, I.laid (o := DnO Pm s.heap.objs.size es) k (Nat.le_refl _) (dn_ok (dn_new hw z (beq_eq_false_iff_ne.mpr (Ne.symm (Nat.ne_of_lt (Inv.big I)))) rel m')), rfl, q _ (I.hok.fresh (Nat.le_refl _))⟩
end
end L3

set_option Elab.async false
set_option linter.all false
set_option maxRecDepth 100000
set_option maxHeartbeats 4000000
namespace L3
open PySem PySem.Spec PyProof.Rows L2
section
variable {prog : Program} {w : World} {s : Shared} {d e : ND} {u v : Value} {κ : Nat} {A : Around} {E : Value → Shared → Prop}
theorem isI (h : (vN prog w 0).is s.heap d u) : ∃ k t, d = .i k ∧ u = .int (k : Int) t := by
  obtain ⟨ok, h⟩ := h
  rcases okD_kind ok with ⟨z, k, rfl, l⟩ | ⟨z, _⟩ | ⟨z, _⟩ | ⟨z, _⟩ <;> (try omega)
  rcases keyIs_shape (k := .inl (k : Int)) h with ⟨i, t, e1, e2⟩ | ⟨x, t, e1, e2⟩
  · cases e1; exact ⟨k, t, rfl, e2⟩
  · cases e1
theorem isS (h : (vN prog w 2).is s.heap d u) : ∃ x t, d = .s x ∧ u = .str x t := by
  obtain ⟨ok, h⟩ := h
  rcases okD_kind ok with ⟨z, _⟩ | ⟨z, _⟩ | ⟨z, x, rfl, l⟩ | ⟨z, _⟩ <;> (try omega)
  rcases keyIs_shape (k := .inr x) h with ⟨i, t, e1, e2⟩ | ⟨y, t, e1, e2⟩
  · cases e1
  · cases e1; exact ⟨x, t, rfl, e2⟩
theorem isT (h : (vN prog w 1).is s.heap d u) : ∃ a k t1 t2, d = .t k ∧ u = .ref a ∧ TupIs s a [.str strN t1, .int (k : Int) t2] := by
  obtain ⟨ok, a, rfl, h⟩ := h
  rcases okD_kind ok with ⟨z, _⟩ | ⟨z, k, rfl, l⟩ | ⟨z, _⟩ | ⟨z, _⟩ <;> (try omega)
  obtain ⟨o, items, n, h1, h2, h3, h4⟩ := h
  have h4' : ItemsAre (mixKind prog w) [.inr strN, .inl (k : Int)] items.toList := h4
  cases hh : items.toList with
  | nil => rw [hh] at h4'; cases h4'
  | cons p r =>
    rw [hh] at h4'
    cases h4' with
    | cons q1 q2 =>
      cases q2 with
      | cons q3 q4 =>
        cases q4
        rcases keyIs_shape (k := .inr strN) q1 with ⟨i, t, e1, e2⟩ | ⟨x, t, e1, rfl⟩
        · cases e1
        · cases e1
          rcases keyIs_shape (k := .inl (k : Int)) q3 with ⟨i, t', e1, rfl⟩ | ⟨x, t', e1, _⟩
          · cases e1
            refine ⟨a, k, t, t', rfl, rfl, o, n, h1, h2, ?_⟩
            rw [h3, ← hh]
          · cases e1
theorem isP (h : (vN prog w 3).is s.heap d u) : ∃ a i b c t e, d = .p i b c ∧ u = .ref a ∧ TupIs s a [.int (i : Int) t, .ref e] ∧ TupIs s e [.bool b, .bool c] := by
  obtain ⟨ok, a, rfl, h⟩ := h
  rcases okD_kind ok with ⟨z, _⟩ | ⟨z, _⟩ | ⟨z, _⟩ | ⟨z, i, b, c, rfl, l⟩ <;> (try omega)
  obtain ⟨o, v, e, n, h1, h2, h3, h4, o', items, n', h1', h2', h3', h4'⟩ := h
  have q : Value.isInt (i : Int) v = true := h4
  obtain ⟨t, rfl⟩ := Value.isInt_shape q
  have r : ItemsAre (boolKind prog w) [b, c] items.toList := h4'
  cases hh : items.toList with
  | nil => rw [hh] at r; cases r
  | cons p rr =>
    rw [hh] at r
    cases r with
    | cons q1 q2 =>
      cases q2 with
      | cons q3 q4 =>
        cases q4
        rw [isB_shape q1, isB_shape q3] at hh
        exact ⟨a, i, b, c, t, e, rfl, rfl, ⟨o, n, h1, h2, h3⟩, ⟨o', n', h1', h2', by rw [h3', ← hh]⟩⟩
theorem is_mono {h' : Heap} (h : (vN prog w κ).is s.heap d u) (k : ∀ b o, s.heap.get? b = some o → h'.get? b = some o) : (vN prog w κ).is h' d u := by
  match κ, h with
  | 0, h => exact h
  | 2, h => exact h
  | 1, ⟨ok, a, e, o, items, n, h1, r⟩ => exact ⟨ok, a, e, o, items, n, k _ _ h1, r⟩
  | n + 3, ⟨ok, a, e, o, v, b, m, h1, h2, h3, h4, o', items, n', h1', r⟩ => exact ⟨ok, a, e, o, v, b, m, k _ _ h1, h2, h3, h4, o', items, n', k _ _ h1', r⟩
theorem TupIs.uniq {a : Addr} {xs ys : List Value} (h : TupIs s a xs) (h' : TupIs s a ys) : xs = ys := by
  obtain ⟨o, n, h1, _, h2⟩ := h
  obtain ⟨o', n', h1', _, h2'⟩ := h'
  rw [h1] at h1'; cases h1'
  rw [h2] at h2'
  injection h2' with e _
  have := congrArg Array.toList e
  simpa using this
/-- what a set and a sort ask of tuples that are nodes -/
theorem elts_nodes {vs : List Value} (hκ : κ = 1 ∨ κ = 3) (hv : ∀ v ∈ vs, ∃ d, (vN prog w κ).is s.heap d v) : Elts prog w 4 vs s := by
  rcases hκ with rfl | rfl
  · refine ⟨fun v m => ?_, fun v m A E Q hu h => ?_, fun u mu v mv => ?_, fun v m => ?_, fun v m => ?_, fun v m => ?_⟩
    · obtain ⟨d, q⟩ := hv v m; obtain ⟨a, k, t1, t2, _, e, _⟩ := isT q; exact ⟨a, e⟩
    · obtain ⟨d, q⟩ := hv v m; exact (vN prog w 1).pyHash (by rw [vN_room]; show A.units + 2 < cLine; omega) q fun tk => h _ tk
    · obtain ⟨d, q⟩ := hv u mu; obtain ⟨a, k, t1, t2, _, rfl, T⟩ := isT q
      obtain ⟨d, q⟩ := hv v mv; obtain ⟨b, k', t1', t2', _, rfl, T'⟩ := isT q
      intro A E Q hu h
      exact EqAny.tup (n := 0) T T' (fun p hp => by
        simp only [List.zip_cons_cons, List.zip_nil_right, List.mem_cons, List.not_mem_nil, or_false] at hp
        rcases hp with rfl | rfl
        · exact EqAny.str _ _ _ _
        · exact EqAny.int _ _ _ _) A E Q (by omega) h
    · obtain ⟨d, q⟩ := hv v m; obtain ⟨a, k, t1, t2, _, rfl, T⟩ := isT q
      exact Quiet.tup T fun y hy => by
        simp only [List.mem_cons, List.not_mem_nil, or_false] at hy
        rcases hy with rfl | rfl
        · exact Quiet.plain (.inr (.inl ⟨_, _, rfl⟩))
        · exact Quiet.plain (.inl ⟨_, _, rfl⟩)
    · obtain ⟨d, q⟩ := hv v m; obtain ⟨a, k, t1, t2, _, rfl, T⟩ := isT q
      exact OaNo.tup T fun y hy => by
        simp only [List.mem_cons, List.not_mem_nil, or_false] at hy
        rcases hy with rfl | rfl
        · exact OaNo.plain (.inr (.inl ⟨_, _, rfl⟩))
        · exact OaNo.plain (.inl ⟨_, _, rfl⟩)
    · obtain ⟨d, q⟩ := hv v m; obtain ⟨a, k, t1, t2, _, rfl, T⟩ := isT q
      exact HbAny.tup T fun y hy => by
        simp only [List.mem_cons, List.not_mem_nil, or_false] at hy
        rcases hy with rfl | rfl
        · exact HbAny.plain (.inr (.inl ⟨_, _, rfl⟩))
        · exact HbAny.plain (.inl ⟨_, _, rfl⟩)
  · refine ⟨fun v m => ?_, fun v m A E Q hu h => ?_, fun u mu v mv => ?_, fun v m => ?_, fun v m => ?_, fun v m => ?_⟩
    · obtain ⟨d, q⟩ := hv v m; obtain ⟨a, i, b, c, t, e, _, e', _⟩ := isP q; exact ⟨a, e'⟩
    · obtain ⟨d, q⟩ := hv v m; exact (vN prog w 3).pyHash (by rw [vN_room]; show A.units + 2 < cLine; omega) q fun tk => h _ tk
    · obtain ⟨d, q⟩ := hv u mu; obtain ⟨a, i, b, c, t, e, _, rfl, T1, T2⟩ := isP q
      obtain ⟨d, q⟩ := hv v mv; obtain ⟨a', i', b', c', t', e', _, rfl, T1', T2'⟩ := isP q
      intro A E Q hu h
      exact EqAny.tup (n := 1) T1 T1' (fun p hp => by
        simp only [List.zip_cons_cons, List.zip_nil_right, List.mem_cons, List.not_mem_nil, or_false] at hp
        rcases hp with rfl | rfl
        · exact EqAny.int _ _ _ _
        · exact EqAny.tup (n := 0) T2 T2' (fun p hp => by
            simp only [List.zip_cons_cons, List.zip_nil_right, List.mem_cons, List.not_mem_nil, or_false] at hp
            rcases hp with rfl | rfl
            · exact EqAny.bool _ _
            · exact EqAny.bool _ _)) A E Q (by omega) h
    · obtain ⟨d, q⟩ := hv v m; obtain ⟨a, i, b, c, t, e, _, rfl, T1, T2⟩ := isP q
      exact Quiet.tup T1 fun y hy => by
        simp only [List.mem_cons, List.not_mem_nil, or_false] at hy
        rcases hy with rfl | rfl
        · exact Quiet.plain (.inl ⟨_, _, rfl⟩)
        · exact Quiet.tup T2 fun y hy => by
            simp only [List.mem_cons, List.not_mem_nil, or_false] at hy
            rcases hy with rfl | rfl <;> exact Quiet.plain (.inr (.inr ⟨_, rfl⟩))
    · obtain ⟨d, q⟩ := hv v m; obtain ⟨a, i, b, c, t, e, _, rfl, T1, T2⟩ := isP q
      exact OaNo.tup T1 fun y hy => by
        simp only [List.mem_cons, List.not_mem_nil, or_false] at hy
        rcases hy with rfl | rfl
        · exact OaNo.plain (.inl ⟨_, _, rfl⟩)
        · exact OaNo.tup T2 fun y hy => by
            simp only [List.mem_cons, List.not_mem_nil, or_false] at hy
            rcases hy with rfl | rfl <;> exact OaNo.plain (.inr (.inr ⟨_, rfl⟩))
    · obtain ⟨d, q⟩ := hv v m; obtain ⟨a, i, b, c, t, e, _, rfl, T1, T2⟩ := isP q
      exact HbAny.tup T1 fun y hy => by
        simp only [List.mem_cons, List.not_mem_nil, or_false] at hy
        rcases hy with rfl | rfl
        · exact HbAny.plain (.inl ⟨_, _, rfl⟩)
        · exact HbAny.tup T2 fun y hy => by
            simp only [List.mem_cons, List.not_mem_nil, or_false] at hy
            rcases hy with rfl | rfl <;> exact HbAny.plain (.inr (.inr ⟨_, rfl⟩))
theorem sortOk_nodes {vs : List Value} (hκ : κ < 4) (hu : A.units + 4 < cLine) (hv : ∀ v ∈ vs, ∃ d, (vN prog w κ).is s.heap d v) : SortOk prog w A vs s := by
  match κ, hκ with
  | 0, _ => exact sortOk_ints fun v m => by obtain ⟨d, q⟩ := hv v m; obtain ⟨k, t, _, e⟩ := isI q; exact ⟨_, _, e⟩
  | 2, _ => exact sortOk_strs fun v m => by obtain ⟨d, q⟩ := hv v m; obtain ⟨k, t, _, e⟩ := isS q; exact ⟨_, _, e⟩
  | 1, _ =>
    refine sortOk_tups (n := 0) (by omega) (fun v m => ?_) fun a b xs ys ma mb ta tb => ?_
    · obtain ⟨d, q⟩ := hv v m; obtain ⟨a, k, t1, t2, _, rfl, T⟩ := isT q
      exact ⟨a, _, _, rfl, T, .inr ⟨_, _, rfl⟩⟩
    · obtain ⟨d, q⟩ := hv _ ma; obtain ⟨a', k, t1, t2, _, e, T⟩ := isT q
      cases e
      obtain ⟨d, q⟩ := hv _ mb; obtain ⟨b', k', t1', t2', _, e, T'⟩ := isT q
      cases e
      rw [ta.uniq T, tb.uniq T']
      refine ⟨fun p hp => ?_, fun p hp => ?_⟩
      · simp only [List.zip_cons_cons, List.zip_nil_right, List.mem_cons, List.not_mem_nil, or_false] at hp
        rcases hp with rfl | rfl
        · exact ⟨EqAny.str _ _ _ _, LtAny.str _ _ _ _⟩
        · exact ⟨EqAny.int _ _ _ _, LtAny.int _ _ _ _⟩
      · have : p = (Value.str strN t1, Value.str strN t1') := by simpa using hp.symm
        subst this
        exact .inr ⟨_, _, _, _, rfl, rfl⟩
  | 3, _ =>
    refine sortOk_tups (n := 1) (by omega) (fun v m => ?_) fun a b xs ys ma mb ta tb => ?_
    · obtain ⟨d, q⟩ := hv v m; obtain ⟨a, i, b, c, t, e, _, rfl, T1, T2⟩ := isP q
      exact ⟨a, _, _, rfl, T1, .inl ⟨_, _, rfl⟩⟩
    · obtain ⟨d, q⟩ := hv _ ma; obtain ⟨a', i, x, c, t, e, _, e1, T1, T2⟩ := isP q
      cases e1
      obtain ⟨d, q⟩ := hv _ mb; obtain ⟨b', i', x', c', t', e', _, e1, T1', T2'⟩ := isP q
      cases e1
      rw [ta.uniq T1, tb.uniq T1']
      refine ⟨fun p hp => ?_, fun p hp => ?_⟩
      · simp only [List.zip_cons_cons, List.zip_nil_right, List.mem_cons, List.not_mem_nil, or_false] at hp
        rcases hp with rfl | rfl
        · exact ⟨EqAny.int _ _ _ _, LtAny.int _ _ _ _⟩
        · have all : ∀ p ∈ [Value.bool x, Value.bool c].zip [Value.bool x', Value.bool c'], EqAny prog w 0 s p.1 p.2 ∧ LtAny prog w 0 s p.1 p.2 := fun p hp => by
            simp only [List.zip_cons_cons, List.zip_nil_right, List.mem_cons, List.not_mem_nil, or_false] at hp
            rcases hp with rfl | rfl <;> exact ⟨EqAny.bool _ _, LtAny.bool _ _⟩
          exact ⟨EqAny.tup T2 T2' fun p hp => (all p hp).1, LtAny.tup T2 T2' all⟩
      · have : p = (Value.int (i : Int) t, Value.int (i' : Int) t') := by simpa using hp.symm
        subst this
        exact .inl ⟨_, _, _, _, rfl, rfl⟩
end
end L3

set_option Elab.async false
set_option linter.all false
set_option maxRecDepth 100000
set_option maxHeartbeats 4000000
namespace L3
open PySem PySem.Spec PyProof.Rows L2
/-! ### set(list), sorted(set) of nodes -/
def AllN (κ : Nat) (H : Hp) (vs : List V) : Prop := ∀ v ∈ vs, ∃ d, Nd κ H v d
def SnAt (Pm : Params) (a : Addr) (vs : List V) (h : Heap) : Prop := ∃ its, Vals vs its ∧ SetL (Pm.followText "set-order") h a its
def SnO (Pm : Params) (a : Addr) (vs : List V) : HO := .ext (SnAt Pm a vs)
theorem sn_ok {P : Program} {w : World} {Pm : Params} {H : Hp} {h : Heap} {a : Addr} {vs : List V} (x : SnAt Pm a vs h) : ObjOk P w H h a (SnO Pm a vs) := by
  refine ⟨x, ?_, ?_⟩
  · obtain ⟨_, _, _, _, _, ⟨o, e, _⟩, _⟩ := x
    exact ⟨o, e⟩
  · rintro h1 h2 ⟨its, r, es, ep, t, hA, c⟩ k
    exact ⟨its, r, es, ep, t, hA.at fun o z => k o z, c⟩
theorem vals_mem {vs : List V} {us : List Value} (r : Vals vs us) : ∀ u ∈ us, ∃ v ∈ vs, RelV v u := by
  induction r with
  | nil => intro u h; exact nomatch h
  | cons h t ih =>
    intro u hu
    rcases List.mem_cons.mp hu with e | hu
    · subst e; exact ⟨_, List.mem_cons_self, h⟩
    · obtain ⟨v, m, q⟩ := ih u hu; exact ⟨v, List.mem_cons_of_mem _ m, q⟩
theorem vals_back {vs : List V} {us out : List Value} (r : Vals vs us) (h : ∀ u ∈ out, u ∈ us) : ∃ ws, Vals ws out ∧ ∀ v ∈ ws, v ∈ vs := by
  induction out with
  | nil => exact ⟨[], .nil, fun _ h => nomatch h⟩
  | cons u rr ih =>
    obtain ⟨ws, a, b⟩ := ih fun x hx => h x (List.mem_cons_of_mem _ hx)
    obtain ⟨v, m, q⟩ := vals_mem r u (h u List.mem_cons_self)
    exact ⟨v :: ws, .cons q a, fun x hx => by
      rcases List.mem_cons.mp hx with e | hx
      · subst e; exact m
      · exact b x hx⟩
theorem Inv.dr {X : Cx} {pins : List (Addr × Obj)} {σ : L3.St} {H : Hp} {s : Shared} (I : L2.Inv X pins σ H s) (d : Drawn) : L2.Inv X pins σ H { s with drawn := d } :=
  ⟨I.ok, I.os, I.bare, I.base, I.loc, I.cell, I.free, I.freeC, I.pin, I.hok, I.len⟩
def rSetN (K : PySem.W.Frag) (Pm : Params) : List V → Hp → VK → Prop := fun xs H Q => ∃ p vs κ, xs = [.ref p] ∧ SqL K H p vs ∧ AllN κ H vs ∧ κ < 4 ∧ vs.length < 18 ∧ ∀ l, H l = none → Q (.ref l) (upd H l (SnO Pm l vs))
def rSortN (Pm : Params) : List V → Hp → VK → Prop := fun xs H Q => ∃ p vs κ, xs = [.ref p] ∧ H p = some (SnO Pm p vs) ∧ AllN κ H vs ∧ κ < 4 ∧ vs.length < 18 ∧
  ∀ l out, H l = none → (∀ v ∈ out, v ∈ vs) → out.length ≤ vs.length → (vs ≠ [] → out ≠ []) → Q (.ref l) (upd H l (.lst out))
section
variable {X : Cx} {K : PySem.W.Frag} {Pm : Params}
theorem call_setN (hK : X.K = K) (hw : X.w.params = Pm) (hc : X.calm = true) (hu : X.A.units + 12 < cLine) : CallR X (.type "set") (rSetN K Pm) := by
  subst hK
  intro pins s σ H xs us Q I r h
  obtain ⟨p, vs, κ, rfl, hq, hN, hκ, hl, q⟩ := h
  obtain ⟨u, rfl, ru⟩ := vals1 r
  obtain rfl : u = Value.ref p := ru
  obtain ⟨its, rv, pl, hz⟩ := I.list hq
  have el := rv.length
  have his : ∀ v ∈ its, ∃ d, (vN X.prog X.w κ).is s.heap d v := fun v m => by
    obtain ⟨x, mx, rx⟩ := vals_mem rv v m
    obtain ⟨d, hd⟩ := hN x mx
    exact ⟨d, hd.is I rx⟩
  have done : ∀ (h' : Heap) (tk : Nat), SetL (X.w.params.followText "set-order") h' s.heap.objs.size its → (∀ b o, s.heap.get? b = some o → h'.get? b = some o) → EP X pins σ Q (.ref s.heap.objs.size) { s with heap := h', toks := tk } := fun h' tk hS k =>
    ⟨.ref s.heap.objs.size, _, I.laid (o := SnO Pm s.heap.objs.size vs) k (Nat.le_refl _) (sn_ok ⟨its, rv, by rw [← hw]; exact hS⟩), rfl, q _ (I.hok.fresh (Nat.le_refl _))⟩
  have tups : κ = 1 ∨ κ = 3 → wpAny (model X.prog X.w) X.A (call (.type "set") [.ref p]) (EP X pins σ Q) X.xe s := fun hk =>
    call_setT (n := 4) (I.ok.hd hc) (by omega) pl.isList (fun s' k => elts_nodes hk fun v m => let ⟨d, hd⟩ := his v m; ⟨d, is_mono hd k⟩) (by omega) done
  match κ, hκ with
  | 0, _ =>
    refine call_setS (knd := mixKind X.prog X.w) (I.ok.hd hc) pl.isList (fun v m => ?_) (by omega) done
    obtain ⟨d, hd⟩ := his v m
    obtain ⟨k, t, _, rfl⟩ := isI hd
    exact ⟨rfl, .inl (k : Int), keyIs_int _ t⟩
  | 2, _ =>
    refine call_setS (knd := mixKind X.prog X.w) (I.ok.hd hc) pl.isList (fun v m => ?_) (by omega) done
    obtain ⟨d, hd⟩ := his v m
    obtain ⟨x, t, _, rfl⟩ := isS hd
    exact ⟨rfl, .inr x, keyIs_str _ t⟩
  | 1, _ => exact tups (.inl rfl)
  | 3, _ => exact tups (.inr rfl)
theorem call_sortN (hw : X.w.params = Pm) (hc : X.calm = true) (hu : X.A.units + 12 < cLine) : CallR X (.builtin "sorted") (rSortN Pm) := by
  intro pins s σ H xs us Q I r h
  obtain ⟨p, vs, κ, rfl, hq, hN, hκ, hl, q⟩ := h
  obtain ⟨u, rfl, ru⟩ := vals1 r
  obtain rfl : u = Value.ref p := ru
  obtain ⟨⟨its, rv, hS⟩, _⟩ := I.hok p _ hq
  have el := rv.length
  have his : ∀ v ∈ its, ∃ d, (vN X.prog X.w κ).is s.heap d v := fun v m => by
    obtain ⟨x, mx, rx⟩ := vals_mem rv v m
    obtain ⟨d, hd⟩ := hN x mx
    exact ⟨d, hd.is I rx⟩
  refine sortedSet (I.ok.hd hc) (vs := its) (by rw [hw]; exact hS) (by omega) (fun A' s' seq hA k m => sortOk_nodes hκ (by omega) fun v mv => let ⟨d, hd⟩ := his v (m v mv); ⟨d, is_mono hd k⟩) fun out L n h' dr tk m1 m2 m3 hL k hg => ?_
  obtain ⟨ws, rw', mw⟩ := vals_back rv m1
  have lw := rw'.length
  refine ⟨.ref L, _, Inv.dr (I.laid (o := .lst ws) k hL ⟨by rw [sizeLine_eq]; omega, out, n, rw', hg⟩) dr, rfl, q L ws (I.hok.fresh hL) mw (by omega) fun hne => ?_⟩
  intro e
  have : its ≠ [] := fun e' => by subst e'; simp at el; exact hne el
  have := m3 this
  rw [← lw, e] at this
  exact absurd this (by simp)
/-! ### == of what was kept and what is there -/
def rKept (K : PySem.W.Frag) (Pm : Params) : R2 := fun x y H Q => ∃ p q a1 a2 l1 b1 b2 l2 es1 es2 vs κ, x = .ref p ∧ y = .ref q ∧ SqT K H p [.ref a1, .ref a2, .ref l1] ∧ SqT K H q [.ref b1, .ref b2, .ref l2] ∧
  H a1 = some (DnO Pm a1 es1) ∧ H b1 = some (DnO Pm b1 es1) ∧ H a2 = some (DnO Pm a2 es2) ∧ H b2 = some (DnO Pm b2 es2) ∧ SqL K H l1 vs ∧ SqL K H l2 vs ∧
  (∀ e ∈ es1, Nd κ H e.2.1 e.1 ∧ ∃ r, e.2.2 = .ref r) ∧ (∀ e ∈ es2, Nd κ H e.2.1 e.1 ∧ ∃ r, e.2.2 = .ref r) ∧ AllN κ H vs ∧ Q (.bl true) H
theorem eqAt_rel {A : Around} {s : Shared} {v : V} {u u' : Value} {κ : Nat} {H : Hp} {d : ND} (h : Nd κ H v d) (r : RelV v u) (r' : RelV v u') : PySem.SeqAt.EqAt A s u u' true := by
  have val := h.val
  cases d with
  | i k => cases (show v = _ from val); obtain ⟨t, rfl⟩ := r; obtain ⟨t', rfl⟩ := r'; exact fun prog w E Q q => wpAny_eqBool_int (by simpa using q)
  | s x => cases (show v = _ from val); obtain ⟨t, rfl⟩ := r; obtain ⟨t', rfl⟩ := r'; exact fun prog w E Q q => wpAny_eqBool_str (by simpa using q)
  | t k => obtain ⟨a, rfl, _⟩ := val; cases (show u = _ from r); cases (show u' = _ from r'); exact PySem.SeqAt.EqAt.same _
  | p i b c => obtain ⟨a, e, rfl, _⟩ := val; cases (show u = _ from r); cases (show u' = _ from r'); exact PySem.SeqAt.EqAt.same _
theorem op_kept (hK : X.K = K) (hw : X.w.params = Pm) (hu : X.A.units + 12 < cLine) : OpR X (compareOp .Eq) (rKept K Pm) := by
  subst hK
  intro pins s σ H x y u v Q I rx ry h
  obtain ⟨p, q, a1, a2, l1, b1, b2, l2, es1, es2, vs, κ, rfl, rfl, t1, t2, ga1, gb1, ga2, gb2, hl1, hl2, k1, k2, kv, hq⟩ := h
  cases (show u = Value.ref p from rx)
  cases (show v = Value.ref q from ry)
  have tup : ∀ {p a b c : Addr}, SqT X.K H p [.ref a, .ref b, .ref c] → TupIs s p [.ref a, .ref b, .ref c] := fun {p a b c} t => by
    obtain ⟨its, rv, ⟨o, h1, h2, n, h3⟩, _⟩ := I.tuple t
    cases rv with
    | cons r1 rv =>
      cases rv with
      | cons r2 rv =>
        cases rv with
        | cons r3 rv =>
          cases rv
          cases r1; cases r2; cases r3
          exact ⟨o, n, h1, h2, h3⟩
  have dict : ∀ {a b : Addr} {es : NE}, H a = some (DnO Pm a es) → H b = some (DnO Pm b es) → (∀ e ∈ es, Nd κ H e.2.1 e.1 ∧ ∃ r, e.2.2 = .ref r) → EqT X.prog X.w 4 s (.ref a) (.ref b) := fun {a b es} ga gb hk => by
    obtain ⟨z, hd, xs, rel, m⟩ := dn_of κ hw I ga
    obtain ⟨z', hd', ys, rel', m'⟩ := dn_of κ hw I gb
    refine EqT.dict (n := 3) (fun A' hA => by rw [vN_room]; show A'.units + 2 < cLine; omega) hd hd' m m' (rel.is I fun e he => (hk e he).1) (rel'.is I fun e he => (hk e he).1) ?_
    clear m m' z z' ga gb
    induction rel generalizing ys with
    | nil => cases rel'; rfl
    | @cons p q ps qs h t ih =>
      cases rel' with
      | @cons _ q' _ qs' h' t' =>
        rw [List.map_cons, List.map_cons, ih (fun e he => hk e (List.mem_cons_of_mem _ he)) _ t']
        obtain ⟨r, er⟩ := (hk p List.mem_cons_self).2
        have e1 : q.2.2 = q'.2.2 := by
          have h2 := h.2.2
          have h2' := h'.2.2
          rw [er] at h2 h2'
          exact (show q.2.2 = Value.ref r from h2).trans (show q'.2.2 = Value.ref r from h2').symm
        rw [← h.1, ← h'.1, e1]
  obtain ⟨its1, rv1, pl1, _⟩ := I.list hl1
  obtain ⟨its2, rv2, pl2, _⟩ := I.list hl2
  have lists : EqT X.prog X.w 4 s (.ref l1) (.ref l2) := by
    intro A E Q hu h
    have e12 : its1.toArray.size = its2.toArray.size := by
      have := rv1.length; have := rv2.length
      simp; omega
    by_cases hpq : l1 = l2
    · subst hpq; exact PySem.SeqAt.EqAt.same _ X.prog X.w E Q h
    · have := PySem.SeqAt.EqAt.of_refs hpq (PySem.SeqAt.RcAt.lists (A := A) (s := s) (e := fun _ => true) pl1.isList pl2.isList e12 (by omega) fun j h1 h2 => ?_)
      · refine this X.prog X.w E Q ?_
        have e : (List.range its1.toArray.size).all (fun _ => true) = true := List.all_eq_true.mpr fun _ _ => rfl
        rw [e]; exact h
      · have hj1 : j < its1.length := by simpa using h1
        have hj2 : j < its2.length := by simpa using h2
        have hv : j < vs.length := by have := rv1.length; omega
        obtain ⟨w1, g1, r1⟩ := rv1.get (List.getElem?_eq_getElem hv)
        obtain ⟨w2, g2, r2⟩ := rv2.get (List.getElem?_eq_getElem hv)
        have e1 : its1.toArray[j] = w1 := by have := (List.getElem?_eq_some_iff.mp g1).2; simpa using this
        have e2 : its2.toArray[j] = w2 := by have := (List.getElem?_eq_some_iff.mp g2).2; simpa using this
        rw [e1, e2]
        obtain ⟨d, hd⟩ := kv _ (List.getElem_mem hv)
        exact eqAt_rel hd r1 r2
  refine eq_tup_yes (n := 4) (by omega) (tup t1) (tup t2) rfl (fun z hz => ?_) ⟨.bl true, H, I, rfl, hq⟩
  simp only [List.zip_cons_cons, List.zip_nil_right, List.mem_cons, List.not_mem_nil, or_false] at hz
  rcases hz with rfl | rfl | rfl
  · exact dict ga1 gb1 k1
  · exact dict ga2 gb2 k2
  · exact lists
end
end L3

set_option Elab.async false
set_option linter.all false
set_option maxRecDepth 100000
set_option maxHeartbeats 4000000
namespace L3
open PySem PySem.Spec PyProof.Rows L2
/-! ### zip of two tuples -/
section
variable {prog : Program} {w : World} {A : Around} {E : Value → Shared → Prop} {s : Shared}
theorem nextT_item {it t : Addr} {i : Nat} {items : Array Value} {x : Value} {Q : Value → Shared → Prop} (hit : s.heap.IsTupleIter it t i) (ht : s.heap.IsTuple t items) (hx : items[i]? = some x)
    (hQ : ∀ h', h'.IsTupleIter it t (i + 1) → Heap.SameBut it s.heap h' → Q x { s with heap := h' }) : wpAny (model prog w) A (Builtin.SmallTypes.nextOf (.ref it)) Q E s := by
  obtain ⟨o, ho, hc, hd⟩ := id hit
  obtain ⟨ol, hol, _, nl, hdl⟩ := ht
  unfold Builtin.SmallTypes.nextOf
  refine wpAny_bind (wpAny_callSpecial?_slot (name := Str.ofString "__next__") hit.typeIs PySem.F.slot_tuple_iterator_next (wpAny_call_entry PySem.F.slot_tuple_iterator_next hit.typeIs PySem.F.entry_tuple_iterator_next ?_ (PySem.F.args_tuple_iterator_next_1 _)))
  show wpAny _ _ (field (.ref it) 0 >>= fun _ => _) _ _ s
  refine wpAny_bind (wpAny_field ho hd (x := .ref t) rfl ?_)
  show wpAny _ _ (if (Value.ref t == Value.none) = true then _ else (field (.ref it) 1 >>= fun _ => _)) _ _ s
  rw [if_neg (show ¬ (Value.ref t == Value.none) = true from Bool.false_ne_true)]
  refine wpAny_bind (wpAny_field ho hd (x := .int i 0) rfl ?_)
  show wpAny _ _ (seqItems? (.ref t) >>= fun _ => _) _ _ s
  refine wpAny_bind (wpAny_seqItems hol hdl ?_)
  simp only [Int.toNat_natCast, hx]
  refine wpAny_bind (wpAny_setField ho hd (by simp) (wpAny_pure ⟨x, rfl, wpAny_pure (hQ _ ⟨_, Heap.get?_update_self _ ho (Obj.isFreed_of_fields (Obj.data_mapFields hd _)), (Obj.cls_mapFields ..).trans hc, ?_⟩ (Heap.SameBut.update ..))⟩))
  rw [Obj.data_mapFields hd]; simp [rawInt]
theorem nextT_end {it t : Addr} {i : Nat} {items : Array Value} {Q : Value → Shared → Prop} (hh : A.handled = none) (hit : s.heap.IsTupleIter it t i) (ht : s.heap.IsTuple t items) (hx : items[i]? = none)
    (hE : ∀ h' e, Heap.ExtBut it s.heap h' → (∃ o, h'.get? e = some o ∧ o.cls = .type "StopIteration") → E (.ref e) { s with heap := h' }) : wpAny (model prog w) A (Builtin.SmallTypes.nextOf (.ref it)) Q E s := by
  obtain ⟨o, ho, hc, hd⟩ := id hit
  obtain ⟨ol, hol, _, nl, hdl⟩ := ht
  unfold Builtin.SmallTypes.nextOf
  refine wpAny_bind (wpAny_callSpecial?_slot (name := Str.ofString "__next__") hit.typeIs PySem.F.slot_tuple_iterator_next (wpAny_call_entry PySem.F.slot_tuple_iterator_next hit.typeIs PySem.F.entry_tuple_iterator_next ?_ (PySem.F.args_tuple_iterator_next_1 _)))
  show wpAny _ _ (field (.ref it) 0 >>= fun _ => _) _ _ s
  refine wpAny_bind (wpAny_field ho hd (x := .ref t) rfl ?_)
  show wpAny _ _ (if (Value.ref t == Value.none) = true then _ else (field (.ref it) 1 >>= fun _ => _)) _ _ s
  rw [if_neg (show ¬ (Value.ref t == Value.none) = true from Bool.false_ne_true)]
  refine wpAny_bind (wpAny_field ho hd (x := .int i 0) rfl ?_)
  show wpAny _ _ (seqItems? (.ref t) >>= fun _ => _) _ _ s
  refine wpAny_bind (wpAny_seqItems hol hdl ?_)
  simp only [Int.toNat_natCast, hx]
  refine wpAny_bind (wpAny_rule (wpAny_bind (wpAny_setField ho hd (by simp) (wpAny_bind ?_))))
  simp only [newExc, newTuple]
  refine wpAny_bind (wpAny_newObj_type (wpAny_bind (m := firstArgMember _ _) (wpAny_of_eq (a := Value.none) (by first | rfl | (simp only [firstArgMember]; rfl)) (wpAny_newObj_type ?_ (by size_fits)))) (by size_fits))
  simp only [raiseNew]
  refine wpAny_bind (wpAny_handled ?_)
  rw [show A.in1.handled = none from hh]
  exact wpAny_bind (wpAny_pure (wpAny_throw (hE _ _ (((Heap.SameBut.update ..).extBut.push _).push _) ⟨_, Heap.get?_push_size _ rfl, rfl⟩)))
/-- the zip at z, its two iterators, how far they are -/
structure ZSt (h : Heap) (z TI TO i1 i2 l1 l2 : Addr) (f : Value) (k : Nat) (xs ys : Array Value) : Prop where
  z : IsZip h z TI TO f
  ti : IsPair h TI (.ref i1) (.ref i2)
  to : ∃ a b, IsPair h TO a b
  n1 : h.IsTupleIter i1 l1 k
  n2 : h.IsTupleIter i2 l2 k
  t1 : h.IsTuple l1 xs
  t2 : h.IsTuple l2 ys
theorem zipT_item {z TI TO i1 i2 l1 l2 : Addr} {k : Nat} {xs ys : Array Value} {x y : Value} {Q : Option Value → Shared → Prop} (D : ZipApart z TI TO i1 i2 l1 l2) (S : ZSt s.heap z TI TO i1 i2 l1 l2 .none k xs ys) (hx : xs[k]? = some x) (hy : ys[k]? = some y)
    (hQ : ∀ h', IsZip h' z TI TO (rawInt s.heap.objs.size) → IsPair h' TO x y → h'.IsTupleIter i1 l1 (k + 1) → h'.IsTupleIter i2 l2 (k + 1) → IsPair h' s.heap.objs.size x y →
      (∀ c o, c ≠ z → c ≠ TO → c ≠ i1 → c ≠ i2 → s.heap.get? c = some o → h'.get? c = some o) → Q (some (.ref s.heap.objs.size)) { s with heap := h' }) : wpAny (model prog w) A (pyNext (.ref z)) Q E s := by
  obtain ⟨hz, hTI, ⟨a, b, hTO⟩, h1, h2, hl1, hl2⟩ := S
  have hT : s.TypeIs (.ref z) "zip" := ⟨_, hz, rfl⟩
  unfold pyNext
  refine wpAny_bind (wpAny_attempt (wpAny_callSpecial?_slot (name := Str.ofString "__next__") hT PySem.F.slot_zip_next (wpAny_call_entry PySem.F.slot_zip_next hT PySem.F.entry_zip_next ?_ (PySem.F.args_zip_next_1 _))))
  show wpAny _ _ (field (.ref z) 2 >>= fun _ => _) _ _ s
  refine wpAny_bind (wpAny_field (x := .bool false) hz rfl rfl ?_)
  show wpAny _ _ (field (.ref z) 3 >>= fun _ => _) _ _ s
  refine wpAny_bind (wpAny_field (x := .ref TI) hz rfl rfl (wpAny_bind (wpAny_seqItems hTI rfl ?_)))
  show wpAny _ _ (Builtin.SmallTypes.ownedTupleIsFree (.ref z) >>= fun _ => _) _ _ s
  refine wpAny_bind ?_
  unfold Builtin.SmallTypes.ownedTupleIsFree
  refine wpAny_bind (wpAny_field (x := .none) hz rfl rfl (wpAny_pure ?_))
  simp only [if_true]
  refine wpAny_bind (wpAny_rule (wpAny_bind (wpAny_field (x := .ref TO) hz rfl rfl (wpAny_bind (wpAny_setField_rec hz (by simp) fun g1 z1 e1 => ?_)))))
  replace z1 : IsZip g1 z TI TO .ellipsis := z1
  refine wpAny_bind ?_
  simp only [List.zipIdx_cons, List.zipIdx_nil, List.forIn_cons, List.forIn_nil]
  refine wpAny_bind (wpAny_bind (wpAny_onRaise ?_))
  refine wpAny_bind (nextT_item (s := { s with heap := g1 }) (h1.at fun o q => (e1.2 _ D.i1z).trans q) (hl1.at fun o q => (e1.2 _ D.l1z).trans q) hx fun g2 n1 e2 => wpAny_pure ?_)
  have o2 : IsPair g2 TO a b := (e2.2 _ D.TOi1).trans ((e1.2 _ D.TOz).trans hTO)
  refine wpAny_bind (wpAny_seqItems o2 rfl (wpAny_bind (wpAny_updateSeq_pair o2 fun g3 o3 e3 => ?_)))
  replace o3 : IsPair g3 TO x b := o3
  refine wpAny_bind (wpAny_letGo (wpAny_pure (wpAny_bind (wpAny_bind (wpAny_onRaise ?_)))))
  refine wpAny_bind (nextT_item (s := { s with heap := g3 }) (h2.at fun o q => (e3.2 _ D.TOi2.symm).trans ((e2.2 _ D.i12.symm).trans ((e1.2 _ D.i2z).trans q))) (hl2.at fun o q => (e3.2 _ D.l2TO).trans ((e2.2 _ D.l2i1).trans ((e1.2 _ D.l2z).trans q))) hy fun g4 n2 e4 => wpAny_pure ?_)
  have o4 : IsPair g4 TO x b := (e4.2 _ D.TOi2).trans o3
  refine wpAny_bind (wpAny_seqItems o4 rfl (wpAny_bind (wpAny_updateSeq_pair o4 fun g5 o5 e5 => ?_)))
  replace o5 : IsPair g5 TO x y := o5
  refine wpAny_bind (wpAny_letGo (wpAny_pure (wpAny_pure (wpAny_bind (wpAny_seqItems o5 rfl (wpAny_bind (wpAny_newTuple ?_)))))))
  have sz : g5.objs.size = s.heap.objs.size := by rw [e5.1, e4.1, e3.1, e2.1, e1.1]
  have all : ∀ c, c ≠ z → c ≠ TO → c ≠ i1 → c ≠ i2 → g5.get? c = s.heap.get? c := fun c c1 c2 c3 c4 => (e5.2 _ c2).trans ((e4.2 _ c4).trans ((e3.2 _ c2).trans ((e2.2 _ c3).trans (e1.2 _ c1))))
  have z5 : IsZip g5 z TI TO .ellipsis := (e5.2 _ D.TOz.symm).trans ((e4.2 _ D.i2z.symm).trans ((e3.2 _ D.TOz.symm).trans ((e2.2 _ D.i1z.symm).trans z1)))
  have n15 : g5.IsTupleIter i1 l1 (k + 1) := n1.at fun o q => (e5.2 _ D.TOi1.symm).trans ((e4.2 _ D.i12).trans ((e3.2 _ D.TOi1.symm).trans q))
  have n25 : g5.IsTupleIter i2 l2 (k + 1) := n2.at fun o q => (e5.2 _ D.TOi2.symm).trans q
  have ltz : z < g5.objs.size := Heap.lt_size z5
  show wpAny _ _ (Builtin.SmallTypes.ownedTupleHandOut (.ref z) (.ref g5.objs.size) >>= fun _ => _) _ _ _
  refine wpAny_bind ?_
  unfold Builtin.SmallTypes.ownedTupleHandOut
  have z6 : IsZip (g5.push { cls := .type "tuple", data := .seq #[x, y] }) z TI TO .ellipsis := Heap.get?_push_of_some _ z5
  refine wpAny_bind (wpAny_setField_rec z6 (by simp) fun g7 z7 e7 => ?_)
  replace z7 : IsZip g7 z TI TO (rawInt g5.objs.size) := z7
  refine wpAny_setField_rec z7 (by simp) fun g8 z8 e8 => ?_
  replace z8 : IsZip g8 z TI TO (rawInt g5.objs.size) := z8
  have up : ∀ c o, c ≠ z → g5.get? c = some o → g8.get? c = some o := fun c o c1 q => (e8.2 _ c1).trans ((e7.2 _ c1).trans (Heap.get?_push_of_some _ q))
  have p8 : IsPair g8 g5.objs.size x y := (e8.2 _ (Nat.ne_of_gt ltz)).trans ((e7.2 _ (Nat.ne_of_gt ltz)).trans (Heap.get?_push_size _ rfl))
  rw [sz] at z8 p8
  refine wpAny_pure ⟨_, rfl, ?_⟩
  show wpAny _ _ (pure (some (Value.ref g5.objs.size))) _ _ _
  rw [sz]
  exact wpAny_pure (hQ g8 z8 (up _ _ D.TOz o5) (n15.at fun o q => up _ o D.i1z q) (n25.at fun o q => up _ o D.i2z q) p8 fun c o c1 c2 c3 c4 q => up c o c1 ((all c c1 c2 c3 c4).trans q))
theorem zipT_end {z TI TO i1 i2 l1 l2 : Addr} {k : Nat} {xs ys : Array Value} {Q : Option Value → Shared → Prop} (hh : A.handled = none) (D : ZipApart z TI TO i1 i2 l1 l2) (S : ZSt s.heap z TI TO i1 i2 l1 l2 .none k xs ys) (hl : xs.size = ys.size) (hx : xs[k]? = none)
    (hQ : ∀ h', (∀ c o, c ≠ z → c ≠ TO → c ≠ i1 → c ≠ i2 → s.heap.get? c = some o → h'.get? c = some o) → Q none { s with heap := h' }) : wpAny (model prog w) A (pyNext (.ref z)) Q E s := by
  obtain ⟨hz, hTI, ⟨a, b, hTO⟩, h1, h2, hl1, hl2⟩ := S
  have hT : s.TypeIs (.ref z) "zip" := ⟨_, hz, rfl⟩
  unfold pyNext
  refine wpAny_bind (wpAny_attempt (wpAny_callSpecial?_slot (name := Str.ofString "__next__") hT PySem.F.slot_zip_next (wpAny_call_entry PySem.F.slot_zip_next hT PySem.F.entry_zip_next ?_ (PySem.F.args_zip_next_1 _))))
  show wpAny _ _ (field (.ref z) 2 >>= fun _ => _) _ _ s
  refine wpAny_bind (wpAny_field (x := .bool false) hz rfl rfl ?_)
  show wpAny _ _ (field (.ref z) 3 >>= fun _ => _) _ _ s
  refine wpAny_bind (wpAny_field (x := .ref TI) hz rfl rfl (wpAny_bind (wpAny_seqItems hTI rfl ?_)))
  show wpAny _ _ (Builtin.SmallTypes.ownedTupleIsFree (.ref z) >>= fun _ => _) _ _ s
  refine wpAny_bind ?_
  unfold Builtin.SmallTypes.ownedTupleIsFree
  refine wpAny_bind (wpAny_field (x := .none) hz rfl rfl (wpAny_pure ?_))
  simp only [if_true]
  refine wpAny_bind (wpAny_rule (wpAny_bind (wpAny_field (x := .ref TO) hz rfl rfl (wpAny_bind (wpAny_setField_rec hz (by simp) fun g1 z1 e1 => ?_)))))
  replace z1 : IsZip g1 z TI TO .ellipsis := z1
  refine wpAny_bind ?_
  simp only [List.zipIdx_cons, List.zipIdx_nil, List.forIn_cons, List.forIn_nil]
  refine wpAny_bind (wpAny_bind (wpAny_onRaise ?_))
  refine wpAny_bind (nextT_end (s := { s with heap := g1 }) (by simpa using hh) (h1.at fun o q => (e1.2 _ D.i1z).trans q) (hl1.at fun o q => (e1.2 _ D.l1z).trans q) hx fun g2 e x2 he => ?_)
  obtain ⟨oe, hoe, hce⟩ := he
  have z2 : IsZip g2 z TI TO .ellipsis := x2 _ _ D.i1z.symm z1
  have hez : e ≠ z := fun x => by subst x; rw [z2] at hoe; cases hoe; simp at hce
  refine wpAny_setField_rec z2 (by simp) fun g3 _ e3 => ?_
  refine wpAny_bind (wpAny_isInstance (T := "StopIteration") (b := true) ⟨oe, (e3.2 _ hez).trans hoe, hce⟩ isSubtype_stop ?_)
  exact wpAny_pure (hQ _ fun c o c1 _ c3 _ q => (e3.2 _ c1).trans (x2 _ _ c3 ((e1.2 _ c1).trans q)))
end
end L3

set_option Elab.async false
set_option linter.all false
set_option maxRecDepth 100000
set_option maxHeartbeats 4000000
namespace L3
open PySem PySem.Spec PyProof.Rows L2
abbrev zA (h : Heap) (l1 : Addr) : Heap := h.push { cls := .type "tuple_iterator", data := .fields #[.ref l1, .int 0 0] }
abbrev zB (h : Heap) (l1 l2 : Addr) : Heap := (zA h l1).push { cls := .type "tuple_iterator", data := .fields #[.ref l2, .int 0 0] }
abbrev zC (h : Heap) (l1 l2 : Addr) : Heap := (zB h l1 l2).push { cls := .type "tuple", data := .seq #[.ref h.objs.size, .ref (zA h l1).objs.size] }
abbrev zD (h : Heap) (l1 l2 : Addr) : Heap := (zC h l1 l2).push { cls := .type "tuple", data := .seq #[.none, .none] }
abbrev zE (h : Heap) (l1 l2 : Addr) : Heap := (zD h l1 l2).push { cls := .type "zip", data := .fields #[.none, .bool false, .bool false, .ref (zB h l1 l2).objs.size, .ref (zC h l1 l2).objs.size] }
theorem meets_zipT (l1 l2 : Addr) (xs ys : Array Value) :
    Meets (Builtin.«zip.__new__» ⟨[.type "zip", .ref l1, .ref l2], []⟩) (fun _ R s => s.heap.IsTuple l1 xs ∧ s.heap.IsTuple l2 ys ∧ R (.ok (.ret (.ref (zD s.heap l1 l2).objs.size))) { s with heap := zE s.heap l1 l2 }) :=
  .of_wp fun prog w A R s h => by
    obtain ⟨hp, g, d, tk, os⟩ := s; obtain ⟨hl1, hl2, h⟩ := h
    have hsub := sub_zip
    have a1 : Heap.IsTuple (Shared.heap ⟨hp, g, d, tk, os⟩) l1 xs := hl1
    have a2 : Heap.IsTuple (Shared.heap ⟨hp.push { cls := .type "tuple_iterator", data := .fields #[.ref l1, .int 0 0] }, g, d, tk, os⟩) l2 ys := hl2.at fun o q => Heap.get?_push_of_some _ q
    wp_walk using wpAny_pyIter_tuple a1, wpAny_pyIter_tuple a2
    exact ⟨_, rfl, h⟩
section
variable {prog : Program} {w : World} {A : Around} {E : Value → Shared → Prop} {s : Shared}
theorem call_zipT {l1 l2 : Addr} {xs ys : Array Value} {Q : Value → Shared → Prop} (hl1 : s.heap.IsTuple l1 xs) (hl2 : s.heap.IsTuple l2 ys)
    (h : ∀ h', ZSt h' (s.heap.objs.size + 4) (s.heap.objs.size + 2) (s.heap.objs.size + 3) s.heap.objs.size (s.heap.objs.size + 1) l1 l2 .none 0 xs ys → (∀ c o, s.heap.get? c = some o → h'.get? c = some o) → Q (.ref (s.heap.objs.size + 4)) { s with heap := h' }) :
    wpAny (model prog w) A (call (.type "zip") [.ref l1, .ref l2]) Q E s := by
  refine callType_new PySem.F.called_zip (by decide) (PySem.F.typeCall_zip_2 _ _) (PySem.F.newCall_zip_2 _ _) (fun obj => PySem.F.args_object_init_3 obj _ _) PySem.F.entry_zip_new (meets_zipT l1 l2 xs ys) ⟨hl1, hl2, ?_⟩
  have s1 : (zA s.heap l1).objs.size = s.heap.objs.size + 1 := Heap.size_push ..
  have s2 : (zB s.heap l1 l2).objs.size = s.heap.objs.size + 2 := by rw [Heap.size_push, s1]
  have s3 : (zC s.heap l1 l2).objs.size = s.heap.objs.size + 3 := by rw [Heap.size_push, s2]
  have s4 : (zD s.heap l1 l2).objs.size = s.heap.objs.size + 4 := by rw [Heap.size_push, s3]
  have g5 : (zE s.heap l1 l2).get? (zD s.heap l1 l2).objs.size = some _ := Heap.get?_push_size _ rfl
  have g4 : (zE s.heap l1 l2).get? (zC s.heap l1 l2).objs.size = some _ := Heap.get?_push_of_some _ (Heap.get?_push_size _ rfl)
  have g3 : (zE s.heap l1 l2).get? (zB s.heap l1 l2).objs.size = some _ := Heap.get?_push_of_some _ (Heap.get?_push_of_some _ (Heap.get?_push_size _ rfl))
  have g2 : (zE s.heap l1 l2).get? (zA s.heap l1).objs.size = some _ := Heap.get?_push_of_some _ (Heap.get?_push_of_some _ (Heap.get?_push_of_some _ (Heap.get?_push_size _ rfl)))
  have g1 : (zE s.heap l1 l2).get? s.heap.objs.size = some _ := Heap.get?_push_of_some _ (Heap.get?_push_of_some _ (Heap.get?_push_of_some _ (Heap.get?_push_of_some _ (Heap.get?_push_size _ rfl))))
  have k : ∀ c o, s.heap.get? c = some o → (zE s.heap l1 l2).get? c = some o := fun c o x => Heap.get?_push_of_some _ (Heap.get?_push_of_some _ (Heap.get?_push_of_some _ (Heap.get?_push_of_some _ (Heap.get?_push_of_some _ x))))
  show _ ∧ _
  rw [s2, s3, s4] at g5
  rw [s1, s2] at g3
  rw [s3] at g4
  rw [s1] at g2
  rw [s4]
  exact ⟨⟨_, g5, rfl⟩, h _ ⟨g5, g3, ⟨_, _, g4⟩, ⟨_, g1, rfl, rfl⟩, ⟨_, g2, rfl, rfl⟩, hl1.at fun o q => k _ o q, hl2.at fun o q => k _ o q⟩ k⟩
end
/-- zip of the tuples at a and b, of one length: a new pair each turn -/
def ItzT (K : PySem.W.Frag) (a b : Addr) : It :=
  ⟨fun i H => ∃ xs ys x y, SqT K H a xs ∧ SqT K H b ys ∧ xs[i]? = some x ∧ ys[i]? = some y, fun i H x H' => ∃ p v w, x = .ref p ∧ H p = none ∧ H' = upd H p (.tup [v, w]) ∧ (∀ xs, SqT K H a xs → xs[i]? = some v) ∧ ∀ ys, SqT K H b ys → ys[i]? = some w, fun i H => ∃ xs ys, SqT K H a xs ∧ SqT K H b ys ∧ xs.length = ys.length ∧ xs.length ≤ i⟩
theorem isTuple_of {X : Cx} {pins : List (Addr × Obj)} {σ : L3.St} {H : Hp} {s : Shared} {a : Addr} {xs : List V} (I : L2.Inv X pins σ H s) (h : SqT X.K H a xs) : ∃ its : List Value, Vals xs its ∧ s.heap.IsTuple a its.toArray := by
  obtain ⟨its, rv, ⟨o, h1, h2, n, h3⟩, _⟩ := I.tuple h
  exact ⟨its, rv, o, h1, h2, n, h3⟩
theorem turn_zipT {P : Program} {w : World} {K : PySem.W.Frag} {elts : List Expr} {k1 : Nat} {pt : Pos} (a b z TI TO i1 i2 : Addr) (D : ZipApart z TI TO i1 i2 a b) :
    Turn P w K (.Tuple elts k1 pt) (ItzT K a b) [z, TI, TO, i1, i2] z (fun i h => IsZip h z TI TO .none ∧ IsPair h TI (.ref i1) (.ref i2) ∧ (∃ u v, IsPair h TO u v) ∧ h.IsTupleIter i1 a i ∧ h.IsTupleIter i2 b i) where
  mem := by simp
  obj := fun i h st c hb => by
    obtain ⟨hz, hTI, ⟨u, v, hTO⟩, ⟨o1, e1, c1, d1⟩, ⟨o2, e2, c2, d2⟩⟩ := st
    rcases (by simpa using hb : c = z ∨ c = TI ∨ c = TO ∨ c = i1 ∨ c = i2) with rfl | rfl | rfl | rfl | rfl
    · exact ⟨_, hz, fun v q => by
        have q' : Data.fields _ = Data.cell v := q
        cases q'⟩
    · exact ⟨_, hTI, fun v q => by
        have q' : Data.seq _ _ = Data.cell v := q
        cases q'⟩
    · exact ⟨_, hTO, fun v q => by
        have q' : Data.seq _ _ = Data.cell v := q
        cases q'⟩
    · exact ⟨o1, e1, fun v q => by rw [d1] at q; cases q⟩
    · exact ⟨o2, e2, fun v q => by rw [d2] at q; cases q⟩
  keep := fun i h h' st k => by
    obtain ⟨hz, hTI, ⟨u, v, hTO⟩, h1, h2⟩ := st
    exact ⟨k z (by simp) _ hz, k TI (by simp) _ hTI, ⟨u, v, k TO (by simp) _ hTO⟩, h1.at fun o q => k i1 (by simp) o q, h2.at fun o q => k i2 (by simp) o q⟩
  item := by
    intro X hP hw hK hc i pins s σ H E I hf st hg
    subst hP hw hK
    obtain ⟨xs, ys, x, y, hq1, hq2, hx, hy⟩ := hg
    obtain ⟨its1, rv1, p1⟩ := isTuple_of I hq1
    obtain ⟨its2, rv2, p2⟩ := isTuple_of I hq2
    obtain ⟨u1, hu1, ru1⟩ := rv1.get hx
    obtain ⟨u2, hu2, ru2⟩ := rv2.get hy
    obtain ⟨hz, hTI, hTO, hi1, hi2⟩ := st
    refine zipT_item D ⟨hz, hTI, hTO, hi1, hi2, p1, p2⟩ (x := u1) (y := u2) (by simpa using hu1) (by simpa using hu2) fun h1 b1 b2 b3 b4 b5 b7 => ?_
    refine ⟨_, rfl, wpAny_letOwnedTupleGo_zip b1 fun h2 c1 c2 => ?_⟩
    have c2' : Heap.SameBut z h1 h2 := c2
    have ltz : z < s.heap.objs.size := Heap.lt_size hz
    have hit1 : h2.IsTupleIter i1 a (i + 1) := b3.at fun o q => (c2'.2 i1 D.i1z).trans q
    have hit2 : h2.IsTupleIter i2 b (i + 1) := b4.at fun o q => (c2'.2 i2 D.i2z).trans q
    have hTO2 : IsPair h2 TO u1 u2 := (c2'.2 TO D.TOz).trans b2
    have hTI2 : IsPair h2 TI (.ref i1) (.ref i2) := (c2'.2 TI D.TIz).trans (b7 TI _ D.TIz D.TITO D.TIi1 D.TIi2 hTI)
    have ht : h2.get? s.heap.objs.size = some { cls := .type "tuple", data := .seq #[u1, u2] } := (c2'.2 _ (Nat.ne_of_gt ltz)).trans b5
    have I2 : L2.Inv X pins σ (upd H s.heap.objs.size (.tup [x, y])) { s with heap := h2, toks := s.toks } := by
      refine Inv.turnedLaid (ch := [z, TI, TO, i1, i2]) I (fun c o hb q => ?_) (fun c hb => ?_) hf (Nat.le_refl _) ?_
      · have hb' : c ≠ z ∧ c ≠ TI ∧ c ≠ TO ∧ c ≠ i1 ∧ c ≠ i2 := by simpa using hb
        exact (c2'.2 c hb'.1).trans (b7 c o hb'.1 hb'.2.2.1 hb'.2.2.2.1 hb'.2.2.2.2 q)
      · rcases (by simpa using hb : c = z ∨ c = TI ∨ c = TO ∨ c = i1 ∨ c = i2) with rfl | rfl | rfl | rfl | rfl
        · exact ⟨_, c1⟩
        · exact ⟨_, hTI2⟩
        · exact ⟨_, hTO2⟩
        · obtain ⟨o, q, _⟩ := hit1; exact ⟨o, q⟩
        · obtain ⟨o, q, _⟩ := hit2; exact ⟨o, q⟩
      · exact ⟨by show 2 ≤ sizeLine; decide, [u1, u2], .cons ru1 (.cons ru2 .nil), ⟨_, ht, rfl, _, rfl⟩⟩
    have hn := I.hok.fresh (Nat.le_refl s.heap.objs.size)
    refine ⟨.ref s.heap.objs.size, _, I2, rfl, ⟨_, x, y, rfl, hn, rfl, fun zs q => by rw [I.tuple_inj q hq1]; exact hx, fun zs q => by rw [I.tuple_inj q hq2]; exact hy⟩, ⟨c1, hTI2, ⟨_, _, hTO2⟩, hit1, hit2⟩, fun c hb => ?_⟩
    have lb : c < s.heap.objs.size := by
      rcases (by simpa using hb : c = z ∨ c = TI ∨ c = TO ∨ c = i1 ∨ c = i2) with rfl | rfl | rfl | rfl | rfl
      · exact ltz
      · exact Heap.lt_size hTI
      · obtain ⟨_, _, q⟩ := hTO; exact Heap.lt_size q
      · obtain ⟨o, q, _⟩ := hi1; exact Heap.lt_size q
      · obtain ⟨o, q, _⟩ := hi2; exact Heap.lt_size q
    rw [upd_ne (Nat.ne_of_lt lb)]
    exact (hf c hb).1
  done := by
    intro X hP hw hK hc i pins s σ H E I hf st hg
    subst hP hw hK
    obtain ⟨xs, ys, hq1, hq2, hll, hx⟩ := hg
    obtain ⟨its1, rv1, p1⟩ := isTuple_of I hq1
    obtain ⟨its2, rv2, p2⟩ := isTuple_of I hq2
    obtain ⟨hz, hTI, hTO, hi1, hi2⟩ := st
    have l1 := rv1.length
    have l2 := rv2.length
    refine zipT_end (I.ok.hd hc) D ⟨hz, hTI, hTO, hi1, hi2, p1, p2⟩ (by simp; omega) (by simp; omega) fun h' eb => ⟨rfl, ?_⟩
    exact Inv.turnedM (ch := [z, TI, TO, i1, i2]) (t' := s.toks) I (fun c o hb q => by
      have hb' : c ≠ z ∧ c ≠ TI ∧ c ≠ TO ∧ c ≠ i1 ∧ c ≠ i2 := by simpa using hb
      exact eb c o hb'.1 hb'.2.2.1 hb'.2.2.2.1 hb'.2.2.2.2 q) hf
  self := fun _ _ _ _ _ st h => wpAny_pyIter_zip st.1 h
section
variable {X : Cx}
def iZipT (K : PySem.W.Frag) (ta : TA) : TI := fun σ H R => ta σ H fun vs H1 => ∃ a b xs ys, vs = [.ref a, .ref b] ∧ SqT K H1 a xs ∧ SqT K H1 b ys ∧ R (ItzT K a b) H1
theorem pi_zipT {elts : List Expr} {k1 : Nat} {pt : Pos} {a b : Expr} {ta : TA} {p pos : Pos} {K : PySem.W.Frag} (hK : X.K = K) (hg : Gl X "zip") (hm : X.mg "zip" = none) (ha : PA X [a, b] ta) (hs : starEach [a, b] X.env = [(false, eval a X.env), (false, eval b X.env)] := by rfl) (hs2 : starEach [b] X.env = [(false, eval b X.env)] := by rfl) :
    PI X (.Tuple elts k1 pt) (.Call (.Name "zip" p) [a, b] [] pos) (iZipT K ta) := by
  subst hK
  intro pins s σ H R I h
  refine Call_ (ld_blt I hg hm PyProof.Rows.boot_zip (PyProof.Rows.callWith_type1 (thn (ha pos pins s σ H _ I h) fun us s1 ⟨vs, H1, I1, r1, q1⟩ => ?_) (by rw [hs, hs2]) (by rw [hs2]; rfl)))
  obtain ⟨l1, l2, xs, ys, rfl, hq1, hq2, q⟩ := q1
  obtain ⟨u, v, rfl, ru, rv⟩ := vals2 r1
  obtain rfl : u = Value.ref l1 := ru
  obtain rfl : v = Value.ref l2 := rv
  obtain ⟨its1, rv1, p1⟩ := isTuple_of I1 hq1
  obtain ⟨its2, rv2, p2⟩ := isTuple_of I1 hq2
  have lt1 : l1 < s1.heap.objs.size := by obtain ⟨_, e, _⟩ := p1; exact Heap.lt_size e
  have lt2 : l2 < s1.heap.objs.size := by obtain ⟨_, e, _⟩ := p2; exact Heap.lt_size e
  refine call_zipT p1 p2 fun h' S k => wpAny_pyIter_zip S.z ?_
  have I2 : L2.Inv X pins σ H1 { s1 with heap := h' } := I1.kept (t' := s1.toks) k
  refine ⟨s1.heap.objs.size + 4, [s1.heap.objs.size + 4, s1.heap.objs.size + 2, s1.heap.objs.size + 3, s1.heap.objs.size, s1.heap.objs.size + 1], _, _, H1, rfl, I2, turn_zipT l1 l2 _ _ _ _ _ (apart_of _ _ _ lt1 lt2), ⟨S.z, S.ti, S.to, S.n1, S.n2⟩, fun c hb => ?_, q⟩
  have lb : s1.heap.objs.size ≤ c := by
    rcases (by simpa using hb : c = s1.heap.objs.size + 4 ∨ c = s1.heap.objs.size + 2 ∨ c = s1.heap.objs.size + 3 ∨ c = s1.heap.objs.size ∨ c = s1.heap.objs.size + 1) with rfl | rfl | rfl | rfl | rfl <;> first | exact Nat.le_add_right _ _ | exact Nat.le_refl _
  exact I1.fpOk lb (I1.hok.fresh lb)
end
end L3

set_option Elab.async false
set_option linter.all false
set_option maxRecDepth 100000
set_option maxHeartbeats 4000000
namespace L3
open PySem PySem.Spec PyProof.Rows L2
theorem Room.units3 {k : Nat} {A : Around} (r : Room k A) : A.units + 3 < cLine := by have := r.un; omega
theorem Room.units8 {k : Nat} {A : Around} (r : Room k A) : A.units + 8 < cLine := by have := r.un; omega
theorem Room.units12 {k : Nat} {A : Around} (r : Room k A) : A.units + 12 < cLine := by have := r.un; omega
/-! ### is_same, over data -/
mutual
def sameD : PyData → PyData → Bool
  | .tuple xs, .tuple ys => sameAll xs ys
  | .int i, .int j => i == j
  | .str x, .str y => x == y
  | .bool a, .bool b => a == b
  | _, _ => false
def sameAll : List PyData → List PyData → Bool
  | [], [] => true
  | x :: xs, y :: ys => sameD x y && sameAll xs ys
  | _, _ => false
end
def plD : Nat → PyData → Prop
  | 0, _ => False
  | _ + 1, .int _ => True
  | _ + 1, .str _ => True
  | _ + 1, .bool _ => True
  | n + 1, .tuple xs => xs.length ≤ 100 ∧ ∀ x ∈ xs, plD n x
  | _ + 1, _ => False
theorem plD_toD (d : ND) : plD 4 (toD d) := by
  cases d with
  | i k => exact True.intro
  | t k => refine ⟨by show 2 ≤ 100; decide, ?_⟩; intro x hx; simp only [List.mem_cons, List.not_mem_nil, or_false] at hx; rcases hx with rfl | rfl <;> exact True.intro
  | s x => exact True.intro
  | p i b c =>
    refine ⟨by show 2 ≤ 100; decide, ?_⟩
    intro x hx; simp only [List.mem_cons, List.not_mem_nil, or_false] at hx
    rcases hx with rfl | rfl
    · exact True.intro
    · refine ⟨by show 2 ≤ 100; decide, ?_⟩; intro x hx; simp only [List.mem_cons, List.not_mem_nil, or_false] at hx; rcases hx with rfl | rfl <;> exact True.intro
mutual
theorem sameD_eq : ∀ (d t : PyData), sameD d t = true → d = t
  | .tuple xs, .tuple ys, h => congrArg _ (sameAll_eq xs ys (by unfold sameD at h; exact h))
  | .int i, .int j, h => by unfold sameD at h; rw [eq_of_beq h]
  | .str x, .str y, h => by unfold sameD at h; rw [eq_of_beq h]
  | .bool x, .bool y, h => by unfold sameD at h; rw [eq_of_beq h]
  | .none, t, h => by unfold sameD at h; cases h
  | .list xs, t, h => by unfold sameD at h; cases h
  | .dict xs, t, h => by unfold sameD at h; cases h
  | .tuple xs, .none, h => by unfold sameD at h; cases h
  | .tuple xs, .bool _, h => by unfold sameD at h; cases h
  | .tuple xs, .int _, h => by unfold sameD at h; cases h
  | .tuple xs, .str _, h => by unfold sameD at h; cases h
  | .tuple xs, .list _, h => by unfold sameD at h; cases h
  | .tuple xs, .dict _, h => by unfold sameD at h; cases h
  | .int _, .none, h => by unfold sameD at h; cases h
  | .int _, .bool _, h => by unfold sameD at h; cases h
  | .int _, .str _, h => by unfold sameD at h; cases h
  | .int _, .list _, h => by unfold sameD at h; cases h
  | .int _, .tuple _, h => by unfold sameD at h; cases h
  | .int _, .dict _, h => by unfold sameD at h; cases h
  | .str _, .none, h => by unfold sameD at h; cases h
  | .str _, .bool _, h => by unfold sameD at h; cases h
  | .str _, .int _, h => by unfold sameD at h; cases h
  | .str _, .list _, h => by unfold sameD at h; cases h
  | .str _, .tuple _, h => by unfold sameD at h; cases h
  | .str _, .dict _, h => by unfold sameD at h; cases h
  | .bool _, .none, h => by unfold sameD at h; cases h
  | .bool _, .int _, h => by unfold sameD at h; cases h
  | .bool _, .str _, h => by unfold sameD at h; cases h
  | .bool _, .list _, h => by unfold sameD at h; cases h
  | .bool _, .tuple _, h => by unfold sameD at h; cases h
  | .bool _, .dict _, h => by unfold sameD at h; cases h
theorem sameAll_eq : ∀ (xs ys : List PyData), sameAll xs ys = true → xs = ys
  | [], [], _ => rfl
  | x :: xs, y :: ys, h => by
    unfold sameAll at h
    rw [Bool.and_eq_true] at h
    rw [sameD_eq x y h.1, sameAll_eq xs ys h.2]
  | [], _ :: _, h => by unfold sameAll at h; cases h
  | _ :: _, [], h => by unfold sameAll at h; cases h
end
theorem sameD_self (d : ND) : sameD (toD d) (toD d) = true := by
  cases d <;> simp [toD, sameD, sameAll]
theorem sameD_toD {d : ND} {t : PyData} : sameD (toD d) t = true ↔ t = toD d := ⟨fun h => (sameD_eq _ _ h).symm, fun h => by rw [h]; exact sameD_self d⟩
theorem toD_inj {d e : ND} (h : toD d = toD e) : d = e := by
  cases d <;> cases e <;> simp [toD] at h
  · rw [Int.ofNat.inj h]
  · rw [Int.ofNat.inj h]
  · rw [h]
  · rw [Int.ofNat.inj h.1, h.2.1, h.2.2]
/-! ### lists of nodes -/
abbrev NdL (κ : Nat) (H : Hp) : List V → List ND → Prop := Paired (Nd κ H)
theorem NdL.mono {κ : Nat} {H H' : Hp} {vs : List V} {ds : List ND} (s : SameU H H') (h : NdL κ H vs ds) : NdL κ H' vs ds := Paired.mapP h fun _ _ q => q.mono s
theorem NdL.get {κ : Nat} {H : Hp} {vs : List V} {ds : List ND} (h : NdL κ H vs ds) {i : Nat} {v : V} (e : vs[i]? = some v) : ∃ d, ds[i]? = some d ∧ Nd κ H v d := by
  induction h generalizing i with
  | nil => simp at e
  | cons q t ih =>
    cases i with
    | zero => simp at e; subst e; exact ⟨_, rfl, q⟩
    | succ i => obtain ⟨d, a, b⟩ := ih (i := i) (by simpa using e); exact ⟨d, by simpa using a, b⟩
theorem NdL.get' {κ : Nat} {H : Hp} {vs : List V} {ds : List ND} (h : NdL κ H vs ds) {i : Nat} {d : ND} (e : ds[i]? = some d) : ∃ v, vs[i]? = some v ∧ Nd κ H v d := by
  induction h generalizing i with
  | nil => simp at e
  | cons q t ih =>
    cases i with
    | zero => simp at e; subst e; exact ⟨_, rfl, q⟩
    | succ i => obtain ⟨d, a, b⟩ := ih (i := i) (by simpa using e); exact ⟨d, by simpa using a, b⟩
theorem NdL.app {κ : Nat} {H : Hp} {vs us : List V} {ds es : List ND} (h : NdL κ H vs ds) (g : NdL κ H us es) : NdL κ H (vs ++ us) (ds ++ es) := by
  induction h with
  | nil => exact g
  | cons q t ih => exact .cons q ih
theorem NdL.take {κ : Nat} {H : Hp} {vs : List V} {ds : List ND} (h : NdL κ H vs ds) (n : Nat) : NdL κ H (vs.take n) (ds.take n) := by
  induction h generalizing n with
  | nil => simpa using Paired.nil
  | cons q t ih => cases n with
    | zero => exact .nil
    | succ n => exact .cons q (ih n)
theorem NdL.drop {κ : Nat} {H : Hp} {vs : List V} {ds : List ND} (h : NdL κ H vs ds) (n : Nat) : NdL κ H (vs.drop n) (ds.drop n) := by
  induction h generalizing n with
  | nil => simpa using Paired.nil
  | cons q t ih => cases n with
    | zero => exact .cons q t
    | succ n => exact ih n
theorem NdL.erase {κ : Nat} {H : Hp} {vs : List V} {ds : List ND} (h : NdL κ H vs ds) (n : Nat) : NdL κ H (vs.eraseIdx n) (ds.eraseIdx n) := by
  induction h generalizing n with
  | nil => simpa using Paired.nil
  | cons q t ih => cases n with
    | zero => exact t
    | succ n => exact .cons q (ih n)
theorem NdL.dp {K : PySem.W.Frag} {κ : Nat} {H : Hp} {vs : List V} {ds : List ND} (h : NdL κ H vs ds) : DpAll K H vs (ds.map toD) := by
  induction h with
  | nil => exact .nil
  | cons q t ih => exact .cons q.dp ih
theorem NdL.ok {κ : Nat} {H : Hp} {vs : List V} {ds : List ND} (h : NdL κ H vs ds) : ∀ d ∈ ds, OkD κ d := by
  induction h with
  | nil => intro d hd; exact nomatch hd
  | cons q t ih => intro d hd; rcases List.mem_cons.mp hd with e | hd; subst e; exact q.ok; exact ih d hd
theorem NdL.all {κ : Nat} {H : Hp} {vs : List V} {ds : List ND} (h : NdL κ H vs ds) : AllN κ H vs := by
  intro v hv
  obtain ⟨i, hi, e⟩ := List.getElem_of_mem hv
  obtain ⟨d, _, q⟩ := h.get (i := i) (v := v) (by rw [List.getElem?_eq_getElem hi, e])
  exact ⟨d, q⟩
theorem NdL.len {κ : Nat} {H : Hp} {vs : List V} {ds : List ND} (h : NdL κ H vs ds) : vs.length = ds.length := Paired.length h
theorem AllN.list {κ : Nat} {H : Hp} {vs : List V} (h : AllN κ H vs) : ∃ ds, NdL κ H vs ds := by
  induction vs with
  | nil => exact ⟨[], .nil⟩
  | cons v r ih =>
    obtain ⟨d, q⟩ := h v List.mem_cons_self
    obtain ⟨ds, t⟩ := ih fun x hx => h x (List.mem_cons_of_mem _ hx)
    exact ⟨d :: ds, .cons q t⟩
theorem fineNs {κ : Nat} {ds : List ND} (h : ∀ d ∈ ds, OkD κ d) : PyData.canLayAll0 (ds.map toD) = true ∧ PyData.depthAll (ds.map toD) ≤ 2 := fineAll fun d hd => toD_fine (h d hd)
theorem any_toD {κ : Nat} {ds : List ND} {d : ND} (h : ∀ e ∈ ds, OkD κ e) (hd : OkD κ d) : ((ds.map toD).any fun z => PyData.eqv z (toD d)) = ds.any fun e => decide (e = d) := by
  rw [List.any_map]
  induction ds with
  | nil => rfl
  | cons e r ih => rw [List.any_cons, List.any_cons, ih fun x hx => h x (List.mem_cons_of_mem _ hx)]; simp only [Function.comp]; rw [eqv_toD (h e List.mem_cons_self) hd]
/-! ### full loops -/
def along (N : ND → List ND) : List ND → List PyData → List ND
  | _, [] => []
  | ch, t :: r => match ch.find? fun d => sameD (toD d) t with
    | none => []
    | some d => d :: along N (N d) r
theorem along_cons (N : ND → List ND) (ch : List ND) (t : PyData) (r : List PyData) : along N ch (t :: r) = match ch.find? fun d => sameD (toD d) t with | none => [] | some d => d :: along N (N d) r := rfl
def hdIn (ch : List ND) : List ND → Bool
  | [] => true
  | d :: _ => decide (d ∈ ch)
def markAll (M : ND → List Bool) (n : Nat) (ds : List ND) : Bool := (List.range n).all fun k => ds.any fun d => (M d).getD k false
def progFull (N : ND → List ND) (M : ND → List Bool) (bs : List ND) (way ring : List PyData) : Bool :=
  let row := way ++ ring ++ ring.take 1
  decide ((along N bs row).length = row.length) && markAll M (match (along N bs row).drop way.length with | [] => 0 | d :: _ => (M d).length) ((along N bs row).drop way.length)
def chain (N : ND → List ND) : List ND → Bool
  | [] => true
  | [_] => true
  | a :: b :: r => decide (b ∈ N a) && chain N (b :: r)
def lawFull (N : ND → List ND) (M : ND → List Bool) (n : Nat) (bs way ring : List ND) : Bool :=
  let row := way ++ ring ++ ring.take 1
  chain N row && hdIn bs row && markAll M n ring
theorem find_toD {ch : List ND} {d : ND} : (ch.find? fun e => sameD (toD e) (toD d)) = if d ∈ ch then some d else none := by
  induction ch with
  | nil => simp
  | cons e r ih =>
    by_cases h : e = d
    · subst h
      rw [List.find?_cons_of_pos (by exact sameD_toD.mpr rfl)]; simp
    · have : ¬ sameD (toD e) (toD d) = true := fun q => h (toD_inj (sameD_toD.mp q)).symm
      rw [List.find?_cons_of_neg (by simpa using this), ih]
      have h' : ¬ d = e := fun q => h q.symm
      simp [h']
theorem along_len (N : ND → List ND) : ∀ (ch : List ND) (row : List ND), (decide ((along N ch (row.map toD)).length = (row.map toD).length)) = (hdIn ch row && chain N row) ∧ ((along N ch (row.map toD)).length = row.length → along N ch (row.map toD) = row)
  | ch, [] => by simp [along, chain, hdIn]
  | ch, d :: r => by
    have ih := along_len N (N d) r
    by_cases h : d ∈ ch
    · have e : along N ch ((d :: r).map toD) = d :: along N (N d) (r.map toD) := by
        rw [List.map_cons, along_cons, find_toD, if_pos h]
      rw [e]
      have e2 : chain N (d :: r) = (hdIn (N d) r && chain N r) := by
        cases r <;> simp [chain, hdIn]
      constructor
      · rw [e2, ← ih.1]; simp [h, hdIn]
      · intro q; rw [ih.2 (by simpa using q)]
    · have e : along N ch ((d :: r).map toD) = [] := by
        rw [List.map_cons, along_cons, find_toD, if_neg h]
      rw [e]; simp [h, hdIn]
theorem full_same (N : ND → List ND) (M : ND → List Bool) {n : Nat} {bs way ring : List ND} (hr : ring ≠ []) (hM : ∀ d ∈ ring, (M d).length = n) : progFull N M bs (way.map toD) (ring.map toD) = lawFull N M n bs way ring := by
  unfold progFull lawFull
  have er : way.map toD ++ ring.map toD ++ (ring.map toD).take 1 = (way ++ ring ++ ring.take 1).map toD := by simp
  dsimp only
  rw [er]
  obtain ⟨a1, a2⟩ := along_len N bs (way ++ ring ++ ring.take 1)
  have hne : way ++ ring ++ ring.take 1 ≠ [] := by simp [hr]
  generalize hw : way ++ ring ++ ring.take 1 = row at a1 a2 hne
  rw [a1]
  cases row with
  | nil => exact absurd rfl hne
  | cons d r =>
    by_cases c : (hdIn bs (d :: r) && chain N (d :: r)) = true
    · have a3 := a2 (by rw [c] at a1; have := of_decide_eq_true a1; simpa using this)
      rw [a3, List.length_map]
      have ed : (d :: r).drop way.length = ring ++ ring.take 1 := by rw [← hw, List.append_assoc, List.drop_left]
      rw [ed]
      cases ring with
      | nil => exact absurd rfl hr
      | cons e s =>
        dsimp only [List.cons_append]
        rw [hM e List.mem_cons_self]
        have em : markAll M n (e :: (s ++ (e :: s).take 1)) = markAll M n (e :: s) := by
          unfold markAll
          congr 1
          funext k
          rw [List.any_cons, List.any_append, List.any_cons, List.take_succ_cons, List.any_cons]
          generalize (M e).getD k false = q
          generalize (s.any fun d => (M d).getD k false) = z
          rw [List.take_zero, List.any_nil]
          cases q <;> cases z <;> rfl
        rw [em]
        rw [c, Bool.and_comm (chain N (d :: r)), c]
    · have c' : (hdIn bs (d :: r) && chain N (d :: r)) = false := by simpa using c
      rw [c', Bool.false_and]
      rw [Bool.and_comm (chain N (d :: r)), c', Bool.false_and]
end L3

set_option Elab.async false
set_option linter.all false
set_option maxRecDepth 100000
set_option maxHeartbeats 4000000
namespace L3
open PySem PySem.Spec PyProof.Rows L2
/-! ### things, as data -/
mutual
inductive ThH (H : Hp) : V → PyData → Prop
  | non : ThH H .non .none
  | bl (b) : ThH H (.bl b) (.bool b)
  | int (i) : ThH H (.int i) (.int i)
  | str (x) : ThH H (.str x) (.str x)
  | lst {a xs ds} : H a = some (.lst xs) → ThL H xs ds → ThH H (.ref a) (.list ds)
  | tup {a xs ds} : H a = some (.tup xs) → ThL H xs ds → ThH H (.ref a) (.tuple ds)
inductive ThL (H : Hp) : List V → List PyData → Prop
  | nil : ThL H [] []
  | cons {v d vs ds} : ThH H v d → ThL H vs ds → ThL H (v :: vs) (d :: ds)
end
mutual
theorem ThH.dp {K : PySem.W.Frag} {H : Hp} : ∀ {v : V} {d : PyData}, ThH H v d → Dp K H v d
  | _, _, .non => .non
  | _, _, .bl b => .bl b
  | _, _, .int i => .int i
  | _, _, .str x => .str x
  | _, _, .lst h t => .lst (SqL.of h) (ThL.dp t)
  | _, _, .tup h t => .tup (SqT.of h) (ThL.dp t)
theorem ThL.dp {K : PySem.W.Frag} {H : Hp} : ∀ {vs : List V} {ds : List PyData}, ThL H vs ds → DpAll K H vs ds
  | _, _, .nil => .nil
  | _, _, .cons h t => .cons (ThH.dp h) (ThL.dp t)
end
mutual
theorem ThH.mono {H H' : Hp} (s : Same H H') : ∀ {v : V} {d : PyData}, ThH H v d → ThH H' v d
  | _, _, .non => .non
  | _, _, .bl b => .bl b
  | _, _, .int i => .int i
  | _, _, .str x => .str x
  | _, _, .lst h t => .lst (s _ _ h) (ThL.mono s t)
  | _, _, .tup h t => .tup (s _ _ h) (ThL.mono s t)
theorem ThL.mono {H H' : Hp} (s : Same H H') : ∀ {vs : List V} {ds : List PyData}, ThL H vs ds → ThL H' vs ds
  | _, _, .nil => .nil
  | _, _, .cons h t => .cons (ThH.mono s h) (ThL.mono s t)
end
theorem ThL.get {H : Hp} : ∀ {vs : List V} {ds : List PyData} {i : Nat} {v : V}, ThL H vs ds → vs[i]? = some v → ∃ d, ds[i]? = some d ∧ ThH H v d
  | _, _, i, v, .nil, e => by simp at e
  | _, _, 0, v, .cons h t, e => by simp at e; subst e; exact ⟨_, rfl, h⟩
  | _, _, i + 1, v, .cons h t, e => by
    obtain ⟨d, a, b⟩ := ThL.get (i := i) (v := v) t (by simpa using e)
    exact ⟨d, by simpa using a, b⟩
theorem ThL.len {H : Hp} : ∀ {vs : List V} {ds : List PyData}, ThL H vs ds → vs.length = ds.length
  | _, _, .nil => rfl
  | _, _, .cons h t => by rw [List.length_cons, List.length_cons, ThL.len t]
theorem ThL.app {H : Hp} : ∀ {vs us : List V} {ds es : List PyData}, ThL H vs ds → ThL H us es → ThL H (vs ++ us) (ds ++ es)
  | _, _, _, _, .nil, g => g
  | _, _, _, _, .cons h t, g => .cons h (ThL.app t g)
theorem ThL.take {H : Hp} : ∀ {vs : List V} {ds : List PyData} (n : Nat), ThL H vs ds → ThL H (vs.take n) (ds.take n)
  | _, _, 0, _ => .nil
  | _, _, _ + 1, .nil => .nil
  | _, _, n + 1, .cons h t => .cons h (ThL.take n t)
theorem Nd.th {κ : Nat} {H : Hp} {v : V} {d : ND} (h : Nd κ H v d) : ThH H v (toD d) := by
  have := h.val
  cases d with
  | i k => cases (show v = _ from this); exact .int _
  | t k => obtain ⟨a, rfl, q⟩ := this; exact .tup q (.cons (.str _) (.cons (.int _) .nil))
  | s x => cases (show v = _ from this); exact .str _
  | p i b c => obtain ⟨a, e, rfl, h2, h3⟩ := this; exact .tup h2 (.cons (.int _) (.cons (.tup h3 (.cons (.bl _) (.cons (.bl _) .nil))) .nil))
theorem NdL.th {κ : Nat} {H : Hp} {vs : List V} {ds : List ND} (h : NdL κ H vs ds) : ThL H vs (ds.map toD) := by
  induction h with
  | nil => exact .nil
  | cons q t ih => exact .cons q.th ih
theorem canLay_mem {ds : List PyData} (h : PyData.canLayAll0 ds = true) : ∀ d ∈ ds, d.canLay0 = true := by
  induction ds with
  | nil => intro d hd; exact nomatch hd
  | cons x r ih =>
    rw [PyData.canLayAll0, Bool.and_eq_true] at h
    intro d hd
    rcases List.mem_cons.mp hd with e | hd
    · subst e; exact h.1
    · exact ih h.2 d hd
theorem depth_mem {ds : List PyData} {n : Nat} (h : PyData.depthAll ds ≤ n) : ∀ d ∈ ds, d.depth ≤ n := by
  induction ds with
  | nil => intro d hd; exact nomatch hd
  | cons x r ih =>
    rw [PyData.depthAll] at h
    intro d hd
    rcases List.mem_cons.mp hd with e | hd
    · subst e; omega
    · exact ih (by omega) d hd
theorem sameAll_zip : ∀ {xs ys : List PyData}, xs.length = ys.length → sameAll xs ys = ((xs.zip ys).all fun p => sameD p.1 p.2)
  | [], [], _ => rfl
  | x :: xs, y :: ys, h => by
    rw [List.zip_cons_cons, List.all_cons, ← sameAll_zip (by simpa using h)]
    rfl
  | [], _ :: _, h => by simp at h
  | _ :: _, [], h => by simp at h
theorem sameAll_len : ∀ {xs ys : List PyData}, xs.length ≠ ys.length → sameAll xs ys = false
  | [], [], h => absurd rfl h
  | x :: xs, y :: ys, h => by
    unfold sameAll
    rw [sameAll_len (by simpa using h), Bool.and_false]
  | [], _ :: _, _ => by unfold sameAll; rfl
  | _ :: _, [], _ => by unfold sameAll; rfl
theorem map_bl (f : Nat → Bool) (n : Nat) : ((List.range n).map fun j => V.bl (f j)) = ((List.range n).map f).map V.bl := by rw [List.map_map]; rfl
theorem same_range {xs ys : List PyData} (h : xs.length = ys.length) : sameAll xs ys = ((List.range xs.length).map fun j => sameD (xs.getD j .none) (ys.getD j .none)).all id := by
  rw [sameAll_zip h, List.all_map]
  apply Bool.eq_iff_iff.mpr
  rw [List.all_eq_true, List.all_eq_true]
  constructor
  · intro q j hj
    have hj := List.mem_range.mp hj
    refine q (xs.getD j .none, ys.getD j .none) ?_
    rw [List.getD_eq_getElem?_getD, List.getD_eq_getElem?_getD, List.getElem?_eq_getElem hj, List.getElem?_eq_getElem (by omega : j < ys.length)]
    have : (xs.zip ys)[j]? = some (xs[j], ys[j]) := by rw [List.getElem?_zip_eq_some]; exact ⟨List.getElem?_eq_getElem hj, List.getElem?_eq_getElem (by omega)⟩
    exact List.mem_of_getElem? this
  · rintro q ⟨x, y⟩ hp
    obtain ⟨j, hj, e⟩ := List.getElem_of_mem hp
    rw [List.getElem_zip] at e
    have h1 : j < xs.length := by rw [List.length_zip] at hj; omega
    have := q j (List.mem_range.mpr h1)
    simp only [Function.comp, List.getD_eq_getElem?_getD, List.getElem?_eq_getElem h1, List.getElem?_eq_getElem (by omega : j < ys.length)] at this
    have e1 := (Prod.ext_iff.mp e).1
    have e2 := (Prod.ext_iff.mp e).2
    simp only at e1 e2
    rw [← e1, ← e2]; exact this
def isBd : PyData → Bool
  | .bool _ => true
  | _ => false
theorem ThH.tyB {K : PySem.W.Frag} {H : Hp} {v : V} {d : PyData} (h : ThH H v d) : ∃ ty, TyOf K H v ty ∧ PySem.W.kitOne K ty (.type "bool") = some (isBd d) := by
  cases h with
  | non => exact ⟨_, .non, rfl⟩
  | bl b => exact ⟨_, .bl b, rfl⟩
  | int i => exact ⟨_, .int i, rfl⟩
  | str x => exact ⟨_, .str x, rfl⟩
  | lst h t => exact ⟨_, .lst h, rfl⟩
  | tup h t => exact ⟨_, .tup h, rfl⟩
theorem sameD_flat {d t : PyData} (h : (∃ i, d = .int i) ∨ (∃ x, d = .str x) ∨ ∃ b, d = .bool b) : sameD d t = (decide (isBd t = isBd d) && PyData.eqv d t) := by
  rcases h with ⟨i, rfl⟩ | ⟨x, rfl⟩ | ⟨b, rfl⟩ <;> cases t <;> simp [sameD, isBd, PyData.eqv]
/-! ### nets and marks -/
structure NetOk (κ : Nat) (Pm : Params) (H : Hp) (a : Addr) (es : NE) (N : ND → List ND) (ns : List ND) : Prop where
  at_ : H a = some (DnO Pm a es)
  keys : ∀ e ∈ es, Nd κ H e.2.1 e.1
  val : ∀ d v, valN es d = some v → ∃ l vs, v = .ref l ∧ H l = some (.lst vs) ∧ NdL κ H vs (N d)
  has : ∀ d ∈ ns, ∃ v, valN es d = some v
  sub : ∀ d ∈ ns, ∀ x ∈ N d, x ∈ ns
  few : ∀ d, (N d).length ≤ 1000
  refs : ∀ e ∈ es, ∃ r, e.2.2 = .ref r
structure MarkOk (κ : Nat) (Pm : Params) (H : Hp) (a : Addr) (es : NE) (M : ND → List Bool) (n : Nat) (ns : List ND) : Prop where
  at_ : H a = some (DnO Pm a es)
  keys : ∀ e ∈ es, Nd κ H e.2.1 e.1
  val : ∀ d v, valN es d = some v → ∃ l, v = .ref l ∧ H l = some (.lst ((M d).map V.bl))
  has : ∀ d ∈ ns, ∃ v, valN es d = some v
  len : ∀ d ∈ ns, (M d).length = n
  few : n ≤ 1000
  refs : ∀ e ∈ es, ∃ r, e.2.2 = .ref r
theorem NetOk.mono {κ : Nat} {Pm : Params} {H H' : Hp} {a : Addr} {es : NE} {N : ND → List ND} {ns : List ND} (s : Same H H') (h : NetOk κ Pm H a es N ns) : NetOk κ Pm H' a es N ns :=
  ⟨s _ _ h.at_, fun e he => (h.keys e he).mono (Same.u s), fun d v e => let ⟨l, vs, h1, h2, h3⟩ := h.val d v e; ⟨l, vs, h1, s _ _ h2, h3.mono (Same.u s)⟩, h.has, h.sub, h.few, h.refs⟩
theorem MarkOk.mono {κ : Nat} {Pm : Params} {H H' : Hp} {a : Addr} {es : NE} {M : ND → List Bool} {n : Nat} {ns : List ND} (s : Same H H') (h : MarkOk κ Pm H a es M n ns) : MarkOk κ Pm H' a es M n ns :=
  ⟨s _ _ h.at_, fun e he => (h.keys e he).mono (Same.u s), fun d v e => let ⟨l, h1, h2⟩ := h.val d v e; ⟨l, h1, s _ _ h2⟩, h.has, h.len, h.few, h.refs⟩
end L3

set_option Elab.async false
set_option linter.all false
set_option maxRecDepth 100000
set_option maxHeartbeats 4000000
namespace L3
open PySem PySem.Spec PyProof.Rows L2
theorem cut_mid (xs : List V) (k : Nat) (h : k < xs.length) : cutV xs (some (k : Int)) (some (-1)) = (xs.drop k).take (xs.length - 1 - k) := by
  unfold cutV
  have e1 : HT.sIx xs.length 0 (some (k : Int)) = k := by rw [HT.sIx_nat]; omega
  have e2 : HT.sIx xs.length xs.length (some (-1)) = xs.length - 1 := by unfold HT.sIx; simp; omega
  rw [e1, e2]
theorem along_mem {N : ND → List ND} {ns : List ND} (hs : ∀ d ∈ ns, ∀ x ∈ N d, x ∈ ns) : ∀ (ts : List PyData) (ch : List ND), (∀ d ∈ ch, d ∈ ns) → ∀ d ∈ along N ch ts, d ∈ ns
  | [], ch, _, d, hd => by cases ch <;> simp [along] at hd
  | t :: r, ch, hc, d, hd => by
    rw [along_cons] at hd
    cases hf : ch.find? fun d => sameD (toD d) t with
    | none => rw [hf] at hd; exact nomatch hd
    | some e =>
      rw [hf] at hd
      have em : e ∈ ns := hc e (List.mem_of_find?_eq_some hf)
      rcases List.mem_cons.mp hd with q | q
      · rw [q]; exact em
      · exact along_mem hs r (N e) (hs e em) d q
/-- what a thing that may be a loop is worth -/
inductive LpT (K : PySem.W.Frag) (H : Hp) (N : ND → List ND) (M : ND → List Bool) (bs : List ND) : V → Bool → Prop
  | other {v : V} {ty : Value} : TyOf K H v ty → PySem.W.kitOne K ty (.type "tuple") = some false → LpT K H N M bs v false
  | long {t : Addr} {xs : List V} : SqT K H t xs → xs.length ≠ 2 → LpT K H N M bs (.ref t) false
  | noway {t : Addr} {x y : V} {ty : Value} : SqT K H t [x, y] → TyOf K H x ty → PySem.W.kitOne K ty (.type "list") = some false → LpT K H N M bs (.ref t) false
  | noring {t w : Addr} {y : V} {wv : List V} {ty : Value} : SqT K H t [.ref w, y] → H w = some (.lst wv) → TyOf K H y ty → PySem.W.kitOne K ty (.type "list") = some false → LpT K H N M bs (.ref t) false
  | empty {t w r : Addr} {wv : List V} : SqT K H t [.ref w, .ref r] → H w = some (.lst wv) → H r = some (.lst []) → LpT K H N M bs (.ref t) false
  | loop {t w r : Addr} {wv rv : List V} {wt rt : List PyData} : SqT K H t [.ref w, .ref r] → H w = some (.lst wv) → H r = some (.lst rv) → ThL H wv wt → ThL H rv rt → PyData.canLayAll0 wt = true → PyData.canLayAll0 rt = true → rt ≠ [] → wt.length ≤ 300 → rt.length ≤ 300 → LpT K H N M bs (.ref t) (progFull N M bs wt rt)
theorem canLay_app : ∀ {xs ys : List PyData}, PyData.canLayAll0 xs = true → PyData.canLayAll0 ys = true → PyData.canLayAll0 (xs ++ ys) = true
  | [], ys, _, h => h
  | x :: xs, ys, h, g => by
    rw [PyData.canLayAll0, Bool.and_eq_true] at h
    rw [List.cons_append, PyData.canLayAll0, h.1, canLay_app h.2 g]; rfl
theorem canLay_take : ∀ {xs : List PyData} (n : Nat), PyData.canLayAll0 xs = true → PyData.canLayAll0 (xs.take n) = true
  | [], n, _ => by simp [PyData.canLayAll0]
  | x :: xs, 0, _ => by simp [PyData.canLayAll0]
  | x :: xs, n + 1, h => by
    rw [PyData.canLayAll0, Bool.and_eq_true] at h
    rw [List.take_succ_cons, PyData.canLayAll0, h.1, canLay_take n h.2]; rfl
theorem str20_all : ((List.range 12).all fun i => decide ((Str.ofString "n").length + (Str.ofString (toString (20 - (0 + (i : Int))))).length ≤ 100) && PyData.strOk (Str.ofString "n" ++ Str.ofString (toString (20 - (0 + (i : Int)))))) = true := by decide +kernel
theorem str20 {i : Nat} (hi : i < 12) : (Str.ofString "n").length + (Str.ofString (toString (20 - (0 + (i : Int))))).length ≤ sizeLine ∧ PyData.strOk (Str.ofString "n" ++ Str.ofString (toString (20 - (0 + (i : Int))))) = true := by
  have h := List.all_eq_true.mp str20_all i (List.mem_range.mpr hi)
  rw [Bool.and_eq_true] at h
  have := of_decide_eq_true h.1
  exact ⟨by rw [sizeLine_eq]; omega, h.2⟩
end L3

set_option Elab.async false
set_option linter.all false
set_option maxRecDepth 100000
set_option maxHeartbeats 4000000
namespace L3
open PySem PySem.Spec PyProof.Rows L2
theorem valN_none {es : NE} {d : ND} : valN es d = none ↔ (es.any fun e => decide (e.1 = d)) = false := by
  unfold valN
  rw [Option.map_eq_none_iff, List.find?_eq_none, List.any_eq_false]
theorem valN_put {es : NE} {d e : ND} {y v : V} : valN (putN es d y v) e = if e = d then some v else valN es e := by
  unfold putN
  by_cases h : (es.any fun e => decide (e.1 = d)) = true
  · rw [if_pos h]
    by_cases c : e = d
    · subst c
      rw [if_pos rfl]
      clear y
      induction es with
      | nil => simp at h
      | cons x r ih =>
        unfold valN at ih ⊢
        rw [List.map_cons]
        by_cases q : x.1 = e
        · rw [if_pos q, List.find?_cons_of_pos (by simpa using q)]; rfl
        · rw [if_neg q, List.find?_cons_of_neg (by simpa using q)]
          exact ih (by simpa [q] using h)
    · rw [if_neg c]
      clear h
      induction es with
      | nil => rfl
      | cons x r ih =>
        unfold valN at ih ⊢
        rw [List.map_cons]
        by_cases q : x.1 = d
        · have q2 : ¬ x.1 = e := fun z => c (z.symm.trans q)
          rw [if_pos q, List.find?_cons_of_neg (by simpa using q2), List.find?_cons_of_neg (by simpa using q2)]; exact ih
        · rw [if_neg q]
          by_cases q2 : x.1 = e
          · rw [List.find?_cons_of_pos (by simpa using q2), List.find?_cons_of_pos (by simpa using q2)]
          · rw [List.find?_cons_of_neg (by simpa using q2), List.find?_cons_of_neg (by simpa using q2)]; exact ih
  · rw [if_neg h]
    have h' := valN_none.mpr (Bool.eq_false_iff.mpr h)
    unfold valN at h' ⊢
    rw [List.find?_append]
    by_cases c : e = d
    · subst c
      rw [if_pos rfl, Option.map_eq_none_iff.mp h']
      simp
    · rw [if_neg c]
      cases hf : es.find? fun x => decide (x.1 = e) with
      | some x => simp
      | none =>
        have : ¬ d = e := fun z => c z.symm
        simp [this]
theorem mem_putN {es : NE} {d : ND} {y v : V} {x : ND × V × V} (h : x ∈ putN es d y v) : x ∈ es ∨ x = (d, y, v) ∨ ∃ z ∈ es, z.1 = d ∧ x = (z.1, z.2.1, v) := by
  unfold putN at h
  split at h
  · obtain ⟨z, hz, e⟩ := List.mem_map.mp h
    by_cases c : z.1 = d
    · rw [if_pos c] at e; exact .inr (.inr ⟨z, hz, c, e.symm⟩)
    · rw [if_neg c] at e; subst e; exact .inl hz
  · rcases List.mem_append.mp h with h | h
    · exact .inl h
    · rw [List.mem_singleton] at h; exact .inr (.inl h)
theorem valN_mem {es : NE} {d : ND} {v : V} (h : valN es d = some v) : ∃ e ∈ es, e.1 = d ∧ e.2.2 = v := by
  unfold valN at h
  obtain ⟨e, h1, h2⟩ := Option.map_eq_some_iff.mp h
  exact ⟨e, List.mem_of_find?_eq_some h1, by simpa using List.find?_some h1, h2⟩
/-- all but some addresses stay -/
def Keep (S : List Addr) (H H' : Hp) : Prop := ∀ b o, b ∉ S → H b = some o → H' b = some o
theorem Keep.trans {S : List Addr} {H H1 H2 : Hp} (a : Keep S H H1) (b : Keep S H1 H2) : Keep S H H2 := fun c o n e => b c o n (a c o n e)
theorem Same.k {S : List Addr} {H H' : Hp} (h : Same H H') : Keep S H H' := fun b o _ e => h b o e
theorem SameX.k {S : List Addr} {p : Addr} {H H' : Hp} (h : SameX p H H') (hp : p ∈ S) : Keep S H H' := fun b o n e => h b o (fun z => n (z ▸ hp)) e
theorem Keep.updK {S : List Addr} {p : Addr} {H : Hp} {o : HO} (hp : p ∈ S) : Keep S H (upd H p o) := fun b u n e => by rw [L2.upd_ne (fun z : b = p => n (by rw [z]; exact hp))]; exact e
def NetB (κ : Nat) (S : List Addr) (H : Hp) (nd : List ND) (es : NE) : Prop := ∀ e ∈ es, Nd κ H e.2.1 e.1 ∧ ∃ l vs ds, e.2.2 = .ref l ∧ l ∉ S ∧ H l = some (.lst vs) ∧ NdL κ H vs ds ∧ (∀ d ∈ ds, d ∈ nd) ∧ ds.length ≤ 3
def MarkB (κ : Nat) (S : List Addr) (H : Hp) (n : Nat) (es : NE) : Prop := ∀ e ∈ es, Nd κ H e.2.1 e.1 ∧ ∃ (l : Addr) (bs : List Bool), e.2.2 = .ref l ∧ l ∉ S ∧ H l = some (.lst (bs.map V.bl)) ∧ bs.length = n
theorem NetB.mono {κ : Nat} {S : List Addr} {H H' : Hp} {nd : List ND} {es : NE} (k : Keep S H H') (u : SameU H H') (h : NetB κ S H nd es) : NetB κ S H' nd es := fun e he =>
  let ⟨a, l, vs, ds, b, c, d, f, g⟩ := h e he; ⟨a.mono u, l, vs, ds, b, c, k _ _ c d, f.mono u, g⟩
theorem MarkB.mono {κ : Nat} {S : List Addr} {H H' : Hp} {n : Nat} {es : NE} (k : Keep S H H') (u : SameU H H') (h : MarkB κ S H n es) : MarkB κ S H' n es := fun e he =>
  let ⟨a, l, bs, b, c, d, f⟩ := h e he; ⟨a.mono u, l, bs, b, c, k _ _ c d, f⟩
theorem NetB.put {κ : Nat} {S : List Addr} {H : Hp} {nd : List ND} {es : NE} (h : NetB κ S H nd es) {d : ND} {y : V} {l : Addr} {vs : List V} {ds : List ND} (hy : Nd κ H y d) (hl : l ∉ S) (e : H l = some (.lst vs)) (nv : NdL κ H vs ds) (hd : ∀ d ∈ ds, d ∈ nd) (h3 : ds.length ≤ 3) : NetB κ S H nd (putN es d y (.ref l)) := fun x hx => by
  rcases mem_putN hx with q | rfl | ⟨z, hz, e1, rfl⟩
  · exact h x q
  · exact ⟨hy, l, vs, ds, rfl, hl, e, nv, hd, h3⟩
  · exact ⟨(h z hz).1, l, vs, ds, rfl, hl, e, nv, hd, h3⟩
theorem MarkB.put {κ : Nat} {S : List Addr} {H : Hp} {n : Nat} {es : NE} (h : MarkB κ S H n es) {d : ND} {y : V} {l : Addr} {bs : List Bool} (hy : Nd κ H y d) (hl : l ∉ S) (e : H l = some (.lst (bs.map V.bl))) (hn : bs.length = n) : MarkB κ S H n (putN es d y (.ref l)) := fun x hx => by
  rcases mem_putN hx with q | rfl | ⟨z, hz, e1, rfl⟩
  · exact h x q
  · exact ⟨hy, l, bs, rfl, hl, e, hn⟩
  · exact ⟨(h z hz).1, l, bs, rfl, hl, e, hn⟩
open Classical in
theorem NetB.ok {κ : Nat} {Pm : Params} {S : List Addr} {H : Hp} {nd : List ND} {es : NE} {a : Addr} (h : NetB κ S H nd es) (ha : H a = some (DnO Pm a es)) (hs : ∀ d ∈ nd, (valN es d).isSome = true) : ∃ N, NetOk κ Pm H a es N nd := by
  have ex : ∀ d, ∃ ds : List ND, (∀ v, valN es d = some v → ∃ l vs, v = .ref l ∧ H l = some (.lst vs) ∧ NdL κ H vs ds) ∧ (∀ x ∈ ds, x ∈ nd) ∧ ds.length ≤ 1000 := fun d => by
    cases e : valN es d with
    | none => exact ⟨[], (fun v q => by cases q), (fun _ q => by cases q), by simp⟩
    | some v =>
      obtain ⟨x, hx, _, e2⟩ := valN_mem e
      obtain ⟨_, l, vs, ds, h1, _, h3, h4, h5, h6⟩ := h x hx
      exact ⟨ds, fun w q => by cases q; exact ⟨l, vs, e2.symm.trans h1, h3, h4⟩, h5, by omega⟩
  refine ⟨fun d => choose (ex d), ha, fun e he => (h e he).1, fun d v q => (choose_spec (ex d)).1 v q, fun d hd => ?_, fun d _ x hx => (choose_spec (ex d)).2.1 x hx, fun d => (choose_spec (ex d)).2.2, fun e he => ?_⟩
  · have := hs d hd
    cases e : valN es d with
    | none => rw [e] at this; cases this
    | some v => exact ⟨v, rfl⟩
  · obtain ⟨_, l, _, _, q, _⟩ := h e he; exact ⟨l, q⟩
open Classical in
theorem MarkB.ok {κ : Nat} {Pm : Params} {S : List Addr} {H : Hp} {n : Nat} {nd : List ND} {es : NE} {a : Addr} (h : MarkB κ S H n es) (ha : H a = some (DnO Pm a es)) (hn : n ≤ 1000) (hs : ∀ d ∈ nd, (valN es d).isSome = true) : ∃ M, MarkOk κ Pm H a es M n nd := by
  have ex : ∀ d, ∃ bs : List Bool, (∀ v, valN es d = some v → ∃ l, v = .ref l ∧ H l = some (.lst (bs.map V.bl))) ∧ bs.length = n := fun d => by
    cases e : valN es d with
    | none => exact ⟨List.replicate n false, (fun v q => by cases q), by simp⟩
    | some v =>
      obtain ⟨x, hx, _, e2⟩ := valN_mem e
      obtain ⟨_, l, bs, h1, _, h3, h4⟩ := h x hx
      exact ⟨bs, fun w q => by cases q; exact ⟨l, e2.symm.trans h1, h3⟩, h4⟩
  refine ⟨fun d => choose (ex d), ha, fun e he => (h e he).1, fun d v q => (choose_spec (ex d)).1 v q, fun d hd => ?_, fun d _ => (choose_spec (ex d)).2, hn, fun e he => ?_⟩
  · have := hs d hd
    cases e : valN es d with
    | none => rw [e] at this; cases this
    | some v => exact ⟨v, rfl⟩
  · obtain ⟨_, l, _, q, _⟩ := h e he; exact ⟨l, q⟩
end L3

set_option Elab.async false
set_option linter.all false
set_option maxRecDepth 100000
set_option maxHeartbeats 4000000
namespace L3
open PySem PySem.Spec PyProof.Rows L2
theorem is_one {prog : Program} {w : World} {κ : Nat} {s : Shared} {d e : ND} {u : Value} (hκ : κ < 4) (a : (vN prog w κ).is s.heap d u) (b : (vN prog w κ).is s.heap e u) : d = e := by
  have hk : κ = 0 ∨ κ = 1 ∨ κ = 2 ∨ κ = 3 := by omega
  rcases hk with rfl | rfl | rfl | rfl
  · obtain ⟨k, t, rfl, e1⟩ := isI a
    obtain ⟨k', t', rfl, e2⟩ := isI b
    rw [e1, Value.int.injEq] at e2
    have : k = k' := by omega
    rw [this]
  · obtain ⟨a1, k, t1, t2, rfl, e1, T⟩ := isT a
    obtain ⟨a2, k', t1', t2', rfl, e2, T'⟩ := isT b
    rw [e1, Value.ref.injEq] at e2
    subst e2
    have q := T.uniq T'
    simp only [List.cons.injEq, Value.int.injEq, Value.str.injEq] at q
    have : k = k' := by omega
    rw [this]
  · obtain ⟨k, t, rfl, e1⟩ := isS a
    obtain ⟨k', t', rfl, e2⟩ := isS b
    rw [e1, Value.str.injEq] at e2
    rw [e2.1]
  · obtain ⟨a1, i, x, y, t, e', rfl, e1, T1, T2⟩ := isP a
    obtain ⟨a2, i', x', y', t', e'', rfl, e2, T1', T2'⟩ := isP b
    rw [e1, Value.ref.injEq] at e2
    subst e2
    have q := T1.uniq T1'
    simp only [List.cons.injEq, Value.int.injEq, Value.ref.injEq] at q
    obtain ⟨⟨q1, _⟩, q2, _⟩ := q
    subst q2
    have r := T2.uniq T2'
    simp only [List.cons.injEq, Value.bool.injEq] at r
    have : i = i' := by omega
    rw [this, r.1, r.2.1]
/-- xs.index(y), of nodes -/
def rIndexN : V → List V → Hp → VK → Prop := fun x vs H Q => ∃ l xs y j κ ds d, x = .ref l ∧ vs = [y] ∧ H l = some (.lst xs) ∧ NdL κ H xs ds ∧ Nd κ H y d ∧ ds[j]? = some d ∧ (∀ m, m < j → ds[m]? ≠ some d) ∧ Q (.int (j : Nat)) H
open Classical in
theorem mt_indexN {X : Cx} (hu : X.A.units + 64 < cLine) : MtM X "list.index" rIndexN := by
  intro pins s σ H x vs v us Q I rx rv h
  obtain ⟨l, xs, y, j, κ, ds, d, rfl, rfl, hH, nx, ny, hj, hno, q⟩ := h
  cases rx
  obtain ⟨u, rfl, ru⟩ := rv.one
  obtain ⟨z, its, n, r, hl, e⟩ := I.lstM hH
  have hκ := ny.ok.lt
  have lx := nx.len
  have li := r.length
  have hjl : j < its.length := by have := (List.getElem?_eq_some_iff.mp hj).1; omega
  have at_ : ∀ m (hm : m < its.length), ∃ dm, ds[m]? = some dm ∧ (vN X.prog X.w κ).is s.heap dm its[m] ∧ ∃ vm, Nd κ H vm dm ∧ RelV vm its[m] := fun m hm => by
    have hmx : m < xs.length := by omega
    obtain ⟨dm, e1, e2⟩ := nx.get (List.getElem?_eq_getElem hmx)
    obtain ⟨um, hum, rum⟩ := r.get (List.getElem?_eq_getElem hmx)
    have em : its[m] = um := (List.getElem?_eq_some_iff.mp hum).2
    exact ⟨dm, e1, by rw [em]; exact e2.is I rum, xs[m], e2, by rw [em]; exact rum⟩
  refine call_meets PySem.F.slot_list_index ⟨_, e, rfl⟩ PySem.F.entry_list_index (PySem.F.args_list_index_2 _ _) (SeqAt.list_indexAt l its.toArray n none #[] u (fun w => decide ((vN X.prog X.w κ).is s.heap d w)) j (by simpa using hjl) (by rw [sizeLine_eq] at z; omega) ?_ ?_) ⟨e, ?_, ?_⟩
  · obtain ⟨dm, e1, e2, _⟩ := at_ j hjl
    rw [hj] at e1; cases e1
    exact decide_eq_true (by simpa using e2)
  · intro m hm hmj
    have hm' : m < its.length := by simpa using hm
    obtain ⟨dm, e1, e2, _⟩ := at_ m hm'
    refine decide_eq_false fun hc => hno m hmj ?_
    rw [e1, is_one hκ (show (vN X.prog X.w κ).is s.heap d its[m] from by simpa using hc) e2]
  · intro b hb
    have hb' : b ∈ its := by simpa using hb
    obtain ⟨m, hm, em⟩ := List.getElem_of_mem hb'
    obtain ⟨dm, e1, e2, vm, nm, rm⟩ := at_ m hm
    rw [em] at e2 rm
    obtain ⟨as, ra⟩ := (nm.dp (K := X.K)).reads I rm
    obtain ⟨bs, rb⟩ := (ny.dp (K := X.K)).reads I ru
    have f1 := toD_fine nm.ok
    have f2 := toD_fine ny.ok
    have := SeqAt.eqAt_reads _ _ X.A.in1 s b u as bs ra rb f1.1 f2.1 (by simp only [Around.in1_units]; have := f1.2; have := Nat.min_le_left (toD dm).depth (toD d).depth; omega)
    have ee : PyData.eqv (toD dm) (toD d) = decide ((vN X.prog X.w κ).is s.heap d b) := by
      rw [eqv_toD nm.ok ny.ok]
      by_cases c : dm = d
      · subst c; rw [decide_eq_true rfl, decide_eq_true e2]
      · rw [decide_eq_false c, decide_eq_false fun z => c (is_one hκ e2 z)]
    rw [← ee]
    exact this
  · exact ⟨.int (j : Nat), H, I.tok _, ⟨_, rfl⟩, q⟩
theorem nodup_few {ds nd : List ND} (h : ds.Nodup) (hs : ∀ d ∈ ds, d ∈ nd) : ds.length ≤ nd.length := by
  induction ds generalizing nd with
  | nil => simp
  | cons x r ih =>
    obtain ⟨h1, h2⟩ := List.nodup_cons.mp h
    have hx := hs x (by simp)
    have := ih (nd := nd.erase x) h2 fun y hy => (List.mem_erase_of_ne (fun e => h1 (by rw [← e]; exact hy))).mpr (hs y (List.mem_cons_of_mem _ hy))
    rw [List.length_erase_of_mem hx] at this
    have := List.length_pos_of_mem hx
    rw [List.length_cons]
    omega
theorem first_at {ds : List ND} {d : ND} (h : d ∈ ds) : ∃ j : Nat, ds[j]? = some d ∧ ∀ m : Nat, m < j → ds[m]? ≠ some d := by
  induction ds with
  | nil => cases h
  | cons x r ih =>
    by_cases e : x = d
    · subst e; exact ⟨0, rfl, fun m hm => absurd hm (Nat.not_lt_zero _)⟩
    · have hr : d ∈ r := by rcases List.mem_cons.mp h with q | q; exact absurd q.symm e; exact q
      obtain ⟨j, h1, h2⟩ := ih hr
      refine ⟨j + 1, by simpa using h1, fun m hm => ?_⟩
      cases m with
      | zero => simpa using e
      | succ m => simpa using h2 m (by omega)
end L3

set_option Elab.async false
set_option linter.all false
set_option maxRecDepth 100000
set_option maxHeartbeats 8000000
namespace KK
open PySem PySem.Spec L2 L3
def top (i : Nat) : Stmt := PySem.Challenge.pw_timecourt_k41_full_loops.main.body.getD i (.Pass ⟨0, 0, 0, 0⟩)
abbrev s_is_same : Stmt := top 1
abbrev s_is_full_loop : Stmt := top 2
abbrev s_nodes_along : Stmt := top 3
abbrev s_is_full : Stmt := top 4
abbrev s__law_cell_at : Stmt := top 6
abbrev s__law_draws : Stmt := top 7
abbrev s__law_taken : Stmt := top 8
abbrev s__law_nodes : Stmt := top 9
abbrev s__law_net : Stmt := top 10
abbrev s__law_walk : Stmt := top 11
abbrev s__law_is_full : Stmt := top 12
abbrev s__law_spoilt : Stmt := top 13
abbrev s__law_odd : Stmt := top 14
abbrev s__law_asked : Stmt := top 15
abbrev s_law : Stmt := top 16
theorem sc_is_same : FnScope ["node", "thing"] ["node", "thing"] (defScope s_is_same) := ⟨rfl, rfl, rfl, by decide +kernel, rfl, by decide +kernel, by decide +kernel⟩
theorem sc_is_full_loop : FnScope ["net", "marks", "begins", "thing", "way", "ring", "row", "nodes"] ["net", "marks", "begins", "thing"] (defScope s_is_full_loop) := ⟨rfl, rfl, rfl, by decide +kernel, rfl, by decide +kernel, by decide +kernel⟩
theorem sc_nodes_along : FnScope ["net", "begins", "row", "nodes", "choices", "thing", "same"] ["net", "begins", "row"] (defScope s_nodes_along) := ⟨rfl, rfl, rfl, by decide +kernel, rfl, by decide +kernel, by decide +kernel⟩
theorem sc_is_full : FnScope ["marks", "nodes", "number"] ["marks", "nodes"] (defScope s_is_full) := ⟨rfl, rfl, rfl, by decide +kernel, rfl, by decide +kernel, by decide +kernel⟩
theorem sc__law_cell_at : FnScope ["_law_script", "_law_k"] ["_law_script", "_law_k"] (defScope s__law_cell_at) := ⟨rfl, rfl, rfl, by decide +kernel, rfl, by decide +kernel, by decide +kernel⟩
theorem sc__law_draws : FnScope ["_law_cell", "_law_many", "_law_found", "_law_left", "_law_number"] ["_law_cell", "_law_many"] (defScope s__law_draws) := ⟨rfl, rfl, rfl, by decide +kernel, rfl, by decide +kernel, by decide +kernel⟩
theorem sc__law_taken : FnScope ["_law_xs", "_law_size"] ["_law_xs", "_law_size"] (defScope s__law_taken) := ⟨rfl, rfl, rfl, by decide +kernel, rfl, by decide +kernel, by decide +kernel⟩
theorem sc__law_nodes : FnScope ["_law_cell", "_law_many", "_law_found"] ["_law_cell"] (defScope s__law_nodes) := ⟨rfl, rfl, rfl, by decide +kernel, rfl, by decide +kernel, by decide +kernel⟩
theorem sc__law_net : FnScope ["_law_cell", "_law_xs", "_law_nodes_here", "_law_net_here", "_law_marks", "_law_length", "_law_node", "_law_there", "_law_begins"] ["_law_cell", "_law_xs"] (defScope s__law_net) := ⟨rfl, rfl, rfl, by decide +kernel, rfl, by decide +kernel, by decide +kernel⟩
theorem sc__law_walk : FnScope ["_law_net_here", "_law_xs", "_law_node", "_law_row", "_law_there", "_law_at"] ["_law_net_here", "_law_xs", "_law_node"] (defScope s__law_walk) := ⟨rfl, rfl, rfl, by decide +kernel, rfl, by decide +kernel, by decide +kernel⟩
theorem sc__law_is_full : FnScope ["_law_net_here", "_law_marks", "_law_begins", "_law_way", "_law_ring", "_law_row", "_law_one", "_law_other", "_law_k"] ["_law_net_here", "_law_marks", "_law_begins", "_law_way", "_law_ring"] (defScope s__law_is_full) := ⟨rfl, rfl, rfl, by decide +kernel, rfl, by decide +kernel, by decide +kernel⟩
theorem sc__law_spoilt : FnScope ["_law_xs", "_law_nodes_here", "_law_way", "_law_ring", "_law_kind"] ["_law_xs", "_law_nodes_here", "_law_way", "_law_ring"] (defScope s__law_spoilt) := ⟨rfl, rfl, rfl, by decide +kernel, rfl, by decide +kernel, by decide +kernel⟩
theorem sc__law_odd : FnScope ["_law_xs", "_law_way", "_law_ring", "_law_node", "_law_some"] ["_law_xs", "_law_way", "_law_ring"] (defScope s__law_odd) := ⟨rfl, rfl, rfl, by decide +kernel, rfl, by decide +kernel, by decide +kernel⟩
theorem sc__law_asked : FnScope ["_law_net_here", "_law_marks", "_law_begins", "_law_thing", "_law_due", "_law_kept", "_law_found"] ["_law_net_here", "_law_marks", "_law_begins", "_law_thing", "_law_due"] (defScope s__law_asked) := ⟨rfl, rfl, rfl, by decide +kernel, rfl, by decide +kernel, by decide +kernel⟩
theorem sc_law : FnScope ["_law_script", "_law_xs", "_law_nodes_here", "_law_net_here", "_law_marks", "_law_begins", "_law_cell", "_law_start", "_law_found", "_law_way", "_law_ring", "_law_due"] ["_law_script"] (defScope s_law) := ⟨rfl, rfl, rfl, by decide +kernel, rfl, by decide +kernel, by decide +kernel⟩
structure Adr where
  is_same : Addr
  is_same_fd : FuncData
  is_full_loop : Addr
  is_full_loop_fd : FuncData
  nodes_along : Addr
  nodes_along_fd : FuncData
  is_full : Addr
  is_full_fd : FuncData
  _law_cell_at : Addr
  _law_cell_at_fd : FuncData
  _law_draws : Addr
  _law_draws_fd : FuncData
  _law_taken : Addr
  _law_taken_fd : FuncData
  _law_nodes : Addr
  _law_nodes_fd : FuncData
  _law_net : Addr
  _law_net_fd : FuncData
  _law_walk : Addr
  _law_walk_fd : FuncData
  _law_is_full : Addr
  _law_is_full_fd : FuncData
  _law_spoilt : Addr
  _law_spoilt_fd : FuncData
  _law_odd : Addr
  _law_odd_fd : FuncData
  _law_asked : Addr
  _law_asked_fd : FuncData
  law : Addr
  law_fd : FuncData
  Pm : Params
structure Txt (K : PySem.W.Frag) (mg : Str → Option Value) (a : Adr) : Prop where
  f_is_same : Fun K "is_same" "is_same" s_is_same a.is_same a.is_same_fd
  n_is_same : Binds K a.is_same_fd ["node", "thing"] []
  g_is_same : mg "is_same" = some (.ref a.is_same)
  f_is_full_loop : Fun K "is_full_loop" "is_full_loop" s_is_full_loop a.is_full_loop a.is_full_loop_fd
  n_is_full_loop : Binds K a.is_full_loop_fd ["net", "marks", "begins", "thing"] []
  g_is_full_loop : mg "is_full_loop" = some (.ref a.is_full_loop)
  f_nodes_along : Fun K "nodes_along" "nodes_along" s_nodes_along a.nodes_along a.nodes_along_fd
  n_nodes_along : Binds K a.nodes_along_fd ["net", "begins", "row"] []
  g_nodes_along : mg "nodes_along" = some (.ref a.nodes_along)
  f_is_full : Fun K "is_full" "is_full" s_is_full a.is_full a.is_full_fd
  n_is_full : Binds K a.is_full_fd ["marks", "nodes"] []
  g_is_full : mg "is_full" = some (.ref a.is_full)
  f__law_cell_at : Fun K "_law_cell_at" "_law_cell_at" s__law_cell_at a._law_cell_at a._law_cell_at_fd
  n__law_cell_at : Binds K a._law_cell_at_fd ["_law_script", "_law_k"] []
  g__law_cell_at : mg "_law_cell_at" = some (.ref a._law_cell_at)
  f__law_draws : Fun K "_law_draws" "_law_draws" s__law_draws a._law_draws a._law_draws_fd
  n__law_draws : Binds K a._law_draws_fd ["_law_cell", "_law_many"] []
  g__law_draws : mg "_law_draws" = some (.ref a._law_draws)
  f__law_taken : Fun K "_law_taken" "_law_taken" s__law_taken a._law_taken a._law_taken_fd
  n__law_taken : Binds K a._law_taken_fd ["_law_xs", "_law_size"] []
  g__law_taken : mg "_law_taken" = some (.ref a._law_taken)
  f__law_nodes : Fun K "_law_nodes" "_law_nodes" s__law_nodes a._law_nodes a._law_nodes_fd
  n__law_nodes : Binds K a._law_nodes_fd ["_law_cell"] []
  g__law_nodes : mg "_law_nodes" = some (.ref a._law_nodes)
  f__law_net : Fun K "_law_net" "_law_net" s__law_net a._law_net a._law_net_fd
  n__law_net : Binds K a._law_net_fd ["_law_cell", "_law_xs"] []
  g__law_net : mg "_law_net" = some (.ref a._law_net)
  f__law_walk : Fun K "_law_walk" "_law_walk" s__law_walk a._law_walk a._law_walk_fd
  n__law_walk : Binds K a._law_walk_fd ["_law_net_here", "_law_xs", "_law_node"] []
  g__law_walk : mg "_law_walk" = some (.ref a._law_walk)
  f__law_is_full : Fun K "_law_is_full" "_law_is_full" s__law_is_full a._law_is_full a._law_is_full_fd
  n__law_is_full : Binds K a._law_is_full_fd ["_law_net_here", "_law_marks", "_law_begins", "_law_way", "_law_ring"] []
  g__law_is_full : mg "_law_is_full" = some (.ref a._law_is_full)
  f__law_spoilt : Fun K "_law_spoilt" "_law_spoilt" s__law_spoilt a._law_spoilt a._law_spoilt_fd
  n__law_spoilt : Binds K a._law_spoilt_fd ["_law_xs", "_law_nodes_here", "_law_way", "_law_ring"] []
  g__law_spoilt : mg "_law_spoilt" = some (.ref a._law_spoilt)
  f__law_odd : Fun K "_law_odd" "_law_odd" s__law_odd a._law_odd a._law_odd_fd
  n__law_odd : Binds K a._law_odd_fd ["_law_xs", "_law_way", "_law_ring"] []
  g__law_odd : mg "_law_odd" = some (.ref a._law_odd)
  f__law_asked : Fun K "_law_asked" "_law_asked" s__law_asked a._law_asked a._law_asked_fd
  n__law_asked : Binds K a._law_asked_fd ["_law_net_here", "_law_marks", "_law_begins", "_law_thing", "_law_due"] []
  g__law_asked : mg "_law_asked" = some (.ref a._law_asked)
  f_law : Fun K "law" "law" s_law a.law a.law_fd
  n_law : Binds K a.law_fd ["_law_script"] []
  g_law : mg "law" = some (.ref a.law)
  b_isinstance : mg "isinstance" = none
  b_tuple : mg "tuple" = none
  b_range : mg "range" = none
  b_sorted : mg "sorted" = none
  b_zip : mg "zip" = none
  b_list : mg "list" = none
  b_all : mg "all" = none
  b_len : mg "len" = none
  b_set : mg "set" = none
  b_dict : mg "dict" = none
  b_bool : mg "bool" = none
  b_any : mg "any" = none
  b_str : mg "str" = none
end KK

set_option Elab.async false
set_option linter.all false
set_option maxRecDepth 100000
set_option maxHeartbeats 8000000
namespace KK
open PySem PySem.Spec L2 L3
def sp__law_cell_at (K : PySem.W.Frag) (a : Adr) : Sp := fun vs H Q _ => ∃ (p : Addr) (ns : List Int) (j : Nat), vs = [.ref p, .int (j : Int)] ∧ SqL K H p (ns.map V.int) ∧ ∀ n : Int, Q (.int n) H
theorem ok__law_cell_at {P : Program} {w : World} {K : PySem.W.Frag} {mg : Str → Option Value} {base : Heap} {a : Adr} (T : Txt K mg a) (hw : w.params = a.Pm) : FnOk P w K mg base CX0 1 a._law_cell_at a._law_cell_at_fd ["_law_script", "_law_k"] (sp__law_cell_at K a) := by
  refine T.f__law_cell_at.ok sc__law_cell_at (fun vs H Q E h => ?_) (fun cdv A outer s H vs Q E hr h => ?_)
  · obtain ⟨p, ns, j, rfl, _⟩ := h
    rfl
  · obtain ⟨p, ns, j, rfl, hq, k⟩ := h
    refine ⟨_, (@pss_cons _ _ _ _ _ (@ps_if _ _ _ _ _ _ _ _ (@pt_cmpR _ _ _ _ _ _ _ _ op_lt
      (pv 1)
      (pe_callB (call_lenK (K := K) rfl) rfl T.b_len PyProof.Rows.Boot.«len» (@pa_cons _ _ _ _ _ (pv 0)
      pa_nil
      (by rfl)))
      (nomark _))
      (@pss_one _ _ _ (@ps_ret _ _ _ _ (@pe_ix _ _ _ _ _ _ _ (ix_listK (K := K) rfl)
      (pv 0)
      (pv 1)
      (fun _ _ => rfl))))
      pss_nil)
      (@pss_one _ _ _ (@ps_ret _ _ _ _ pe_int))), ?_⟩
    refine ⟨_, rfl, _, rfl, .inl ⟨p, _, rfl, .inl hq, _, _, rfl, rfl, _, rfl, ?_⟩⟩
    refine ite2 (fun c => ?_) (fun _ => k 0)
    have hj : j < ns.length := by have := of_decide_eq_true c; rw [List.length_map] at this; omega
    exact ⟨_, rfl, _, rfl, p, _, _, _, rfl, rfl, hq, atI_nat (j := j) (by rw [List.getElem?_map, List.getElem?_eq_getElem hj]; rfl), k _⟩
def sp__law_draws (K : PySem.W.Frag) (a : Adr) : Sp := fun vs H Q _ => ∃ (c : Int) (m : Nat), vs = [.int c, .int (m : Int)] ∧ m ≤ 1000 ∧ ∀ H' p (ns : List Int), Same H H' → H p = none → H' p = some (.lst (ns.map V.int)) → Q (.ref p) H'
theorem ok__law_draws {P : Program} {w : World} {K : PySem.W.Frag} {mg : Str → Option Value} {base : Heap} {a : Adr} (T : Txt K mg a) (hw : w.params = a.Pm) : FnOk P w K mg base CX0 1 a._law_draws a._law_draws_fd ["_law_cell", "_law_many"] (sp__law_draws K a) := by
  refine T.f__law_draws.ok sc__law_draws (fun vs H Q E h => ?_) (fun cdv A outer s H vs Q E hr h => ?_)
  · obtain ⟨c, m, rfl, _⟩ := h
    rfl
  · obtain ⟨c, m, rfl, hm, k⟩ := h
    refine ⟨_, (@pss_cons _ _ _ _ _ (@ps_set _ _ (2) _ _ _ _ sc__law_draws.nd
      rfl
      (by first | exact Or.inl rfl | exact Or.inr rfl)
      (@pe_lst _ _ _ _ pa_nil)
      (by rfl)
      (by first | exact .inl rfl | exact .inr rfl | assumption))
      (@pss_cons _ _ _ _ _ (@ps_set _ _ (3) _ _ _ _ sc__law_draws.nd
      rfl
      (by first | exact Or.inl rfl | exact Or.inr rfl)
      (@pe_op _ _ _ _ _ _ _ _ op_fdiv
      (pv 0)
      pe_int)
      (by rfl)
      (by first | exact .inl rfl | exact .inr rfl | assumption))
      (@pss_cons _ _ _ _ _ (@ps_if _ _ _ _ _ _ _ _ (@pt_cmpR _ _ _ _ _ _ _ _ op_eq
      (@pe_op _ _ _ _ _ _ _ _ op_mod
      (pv 0)
      pe_int)
      pe_int
      (nomark _))
      (@pss_one _ _ _ (ps_while PassesOwn.never (PW.pt (pw_and (@pt_cmpR _ _ _ _ _ _ _ _ op_gt
      (pv 3)
      pe_int
      (nomark _)) (pw_and1 (@pt_cmpR _ _ _ _ _ _ _ _ op_lt
      (pe_callB (call_lenK (K := K) rfl) rfl T.b_len PyProof.Rows.Boot.«len» (@pa_cons _ _ _ _ _ (pv 2)
      pa_nil
      (by rfl)))
      (pv 1)
      (nomark _))))) (@pss_cons _ _ _ _ _ (@ps_expr _ _ _ _ (pe_bm PySem.F.plainAttrs_list PySem.F.slot_list_append PySem.F.type_list_append mt_append (pv 2) (@pa_cons _ _ _ _ _ (@pe_op _ _ _ _ _ _ _ _ op_mod
      (pv 3)
      (@pe_op _ _ _ _ _ _ _ _ op_pow
      pe_int
      pe_int))
      pa_nil
      (by rfl)))
      (by rfl))
      (@pss_one _ _ _ (@ps_set _ _ (3) _ _ _ _ sc__law_draws.nd
      rfl
      (by first | exact Or.inl rfl | exact Or.inr rfl)
      (@pe_op _ _ _ _ _ _ _ _ op_fdiv
      (pv 3)
      (@pe_op _ _ _ _ _ _ _ _ op_pow
      pe_int
      pe_int))
      (by rfl)
      (by first | exact .inl rfl | exact .inr rfl | assumption))))))
      pss_nil)
      (@pss_cons _ _ _ _ _ (@ps_set _ _ (4) _ _ _ _ sc__law_draws.nd
      rfl
      (by first | exact Or.inl rfl | exact Or.inr rfl)
      (@pe_op _ _ _ _ _ _ _ _ op_mod
      (@pe_op _ _ _ _ _ _ _ _ op_add
      (pv 0)
      pe_int)
      pe_int)
      (by rfl)
      (by first | exact .inl rfl | exact .inr rfl | assumption))
      (@pss_cons _ _ _ _ _ (ps_while PassesOwn.never (@pt_cmpR _ _ _ _ _ _ _ _ op_lt
      (pe_callB (call_lenK (K := K) rfl) rfl T.b_len PyProof.Rows.Boot.«len» (@pa_cons _ _ _ _ _ (pv 2)
      pa_nil
      (by rfl)))
      (pv 1)
      (nomark _)) (@pss_cons _ _ _ _ _ (@ps_set _ _ (4) _ _ _ _ sc__law_draws.nd
      rfl
      (by first | exact Or.inl rfl | exact Or.inr rfl)
      (@pe_op _ _ _ _ _ _ _ _ op_mod
      (@pe_op _ _ _ _ _ _ _ _ op_mul
      (@pe_op _ _ _ _ _ _ _ _ op_add
      (pv 4)
      pe_int)
      pe_int)
      pe_int)
      (by rfl)
      (by first | exact .inl rfl | exact .inr rfl | assumption))
      (@pss_one _ _ _ (@ps_expr _ _ _ _ (pe_bm PySem.F.plainAttrs_list PySem.F.slot_list_append PySem.F.type_list_append mt_append (pv 2) (@pa_cons _ _ _ _ _ (@pe_op _ _ _ _ _ _ _ _ op_mod
      (@pe_op _ _ _ _ _ _ _ _ op_mul
      (pv 4)
      (@pe_op _ _ _ _ _ _ _ _ op_add
      (@pe_op _ _ _ _ _ _ _ _ op_fdiv
      (pv 4)
      pe_int)
      pe_int))
      pe_int)
      pa_nil
      (by rfl)))
      (by rfl)))))
      (@pss_one _ _ _ (@ps_ret _ _ _ _ (pv 2)))))))), ?_⟩
    refine ⟨by decide, fun D hD => ?_⟩
    refine ⟨_, rfl, _, _, rfl, rfl, ⟨by decide, by decide⟩, ?_⟩
    refine ⟨_, rfl, _, _, rfl, rfl, by simp, rfl, _, rfl, ite2 (fun c0 => ?lp) (fun c0 => ?odd)⟩
    case odd =>
      clear c0
      have h1 : (upd H D (.lst [])) D = some (.lst (([] : List Int).map V.int)) := upd_same
      have s1 : Same H (upd H D (.lst [])) := same_upd hD
      have hl : ([] : List Int).length ≤ m := Nat.zero_le _
      generalize upd H D (.lst []) = H1 at h1 s1 ⊢
      generalize ([] : List Int) = ns at h1 hl
      show tSeq _ _ _ [some (.int c), some (.int m), some (.ref D), some (.int (c / 2)), none] H1
      generalize c / 2 = left
      refine ⟨_, rfl, _, _, rfl, rfl, _, _, rfl, rfl, by simp, ?_⟩
      refine ⟨fun n σ H' => ∃ (ns : List Int) (num : Int), σ = [some (.int c), some (.int m), some (.ref D), some (.int left), some (.int num)] ∧ (0 ≤ num ∧ num < 2147483647) ∧ H' D = some (.lst (ns.map V.int)) ∧ Same H H' ∧ ns.length ≤ m ∧ n = m - ns.length, ⟨m - ns.length, ns, _, rfl, ⟨Int.emod_nonneg _ (by decide), Int.emod_lt_of_pos _ (by decide)⟩, h1, s1, hl, rfl⟩, ?_⟩
      clear h1 s1 hl H1
      rintro n σ H1 ⟨ns, num, rfl, ⟨hn0, hn1⟩, h1, s1, hl, rfl⟩
      refine ⟨_, rfl, .inl ⟨D, _, rfl, .inl (SqL.of h1), _, rfl, _, _, rfl, rfl, _, rfl, ite2 (fun c1 => ?_) (fun c1 => ?_)⟩⟩
      · have c3 : ns.length < m := by have := of_decide_eq_true c1; rw [List.length_map] at this; omega
        refine ⟨fun σ H' => ∃ (ns' : List Int) (num : Int), σ = [some (.int c), some (.int m), some (.ref D), some (.int left), some (.int num)] ∧ (0 ≤ num ∧ num < 2147483647) ∧ H' D = some (.lst (ns'.map V.int)) ∧ Same H H' ∧ ns'.length = ns.length + 1, ?_, ?_⟩
        · rintro σ' H' ⟨ns', num', rfl, a0, a1, a2, a3⟩
          exact ⟨m - ns'.length, by omega, ns', num', rfl, a0, a1, a2, by omega, rfl⟩
        · refine ⟨_, rfl, _, _, rfl, rfl, _, _, rfl, rfl, .inr ⟨by decide, by decide⟩, _, _, rfl, rfl, by simp, ?_⟩
          have num0 := Int.emod_nonneg ((num + 1) * 48271) (show (2147483647 : Int) ≠ 0 by decide)
          have num1 := Int.emod_lt_of_pos ((num + 1) * 48271) (show (0 : Int) < 2147483647 by decide)
          refine ⟨_, rfl, .inl ⟨rfl, _, SqL.of h1⟩, _, rfl, _, rfl, _, _, rfl, rfl, ⟨by decide, by decide⟩, _, _, rfl, rfl, _, _, rfl, rfl, .inl ⟨Int.lt_of_lt_of_le (by decide) num0, Int.lt_trans num1 (by decide)⟩, _, _, rfl, rfl, by simp, D, _, _, rfl, rfl, h1, by rw [List.length_map, sizeLine_eq]; omega, ?_⟩
          exact ⟨ns ++ [_], _, rfl, ⟨num0, num1⟩, by rw [upd_same, List.map_append]; rfl, (SameX.upd (Same.x s1)).same hD, by simp⟩
      · exact ⟨_, rfl, k _ D ns s1 hD h1⟩
    case lp =>
      clear c0
      refine ⟨fun n σ H' => ∃ (ns : List Int) (left : Int), σ = [some (.int c), some (.int m), some (.ref D), some (.int left), none] ∧ H' D = some (.lst (ns.map V.int)) ∧ Same H H' ∧ ns.length ≤ m ∧ n = m - ns.length, ⟨m, [], _, rfl, upd_same, same_upd hD, Nat.zero_le _, rfl⟩, ?_⟩
      rintro n σ H1 ⟨ns, left, rfl, h1, s1, hl, rfl⟩
      refine ⟨_, rfl, _, _, rfl, rfl, _, rfl, ite2 (fun c1 => ⟨_, rfl, .inl ⟨D, _, rfl, .inl (SqL.of h1), _, rfl, _, _, rfl, rfl, _, rfl, ite2 (fun c2 => ?body) (fun c2 => ?rest)⟩⟩) (fun c1 => iteF ?rest2)⟩
      case body =>
        have c3 : ns.length < m := by have := of_decide_eq_true c2; rw [List.length_map] at this; omega
        refine ⟨fun σ H' => ∃ (ns' : List Int) (left : Int), σ = [some (.int c), some (.int m), some (.ref D), some (.int left), none] ∧ H' D = some (.lst (ns'.map V.int)) ∧ Same H H' ∧ ns'.length = ns.length + 1, ?_, ?_⟩
        · rintro σ' H' ⟨ns', left', rfl, a1, a2, a3⟩
          exact ⟨m - ns'.length, by omega, ns', left', rfl, a1, a2, by omega, rfl⟩
        · refine ⟨_, rfl, .inl ⟨rfl, _, SqL.of h1⟩, _, rfl, _, _, rfl, rfl, ⟨by decide, by decide, by decide⟩, _, _, rfl, rfl, by simp, D, _, _, rfl, rfl, h1, by rw [List.length_map, sizeLine_eq]; omega, ?_⟩
          refine ⟨_, rfl, _, _, rfl, rfl, ⟨by decide, by decide, by decide⟩, _, _, rfl, rfl, ⟨by decide, by decide⟩, ?_⟩
          refine ⟨ns ++ [_], _, rfl, by rw [upd_same, List.map_append]; rfl, (SameX.upd (Same.x s1)).same hD, by simp⟩
      all_goals
        clear c1
        refine ⟨_, rfl, _, _, rfl, rfl, _, _, rfl, rfl, by simp, ?_⟩
        refine ⟨fun n σ H' => ∃ (ns : List Int) (num : Int), σ = [some (.int c), some (.int m), some (.ref D), some (.int left), some (.int num)] ∧ (0 ≤ num ∧ num < 2147483647) ∧ H' D = some (.lst (ns.map V.int)) ∧ Same H H' ∧ ns.length ≤ m ∧ n = m - ns.length, ⟨m - ns.length, ns, _, rfl, ⟨Int.emod_nonneg _ (by decide), Int.emod_lt_of_pos _ (by decide)⟩, h1, s1, hl, rfl⟩, ?_⟩
        clear h1 s1 hl H1
        rintro n σ H1 ⟨ns, num, rfl, ⟨hn0, hn1⟩, h1, s1, hl, rfl⟩
        refine ⟨_, rfl, .inl ⟨D, _, rfl, .inl (SqL.of h1), _, rfl, _, _, rfl, rfl, _, rfl, ite2 (fun c1 => ?_) (fun c1 => ?_)⟩⟩
        · have c3 : ns.length < m := by have := of_decide_eq_true c1; rw [List.length_map] at this; omega
          refine ⟨fun σ H' => ∃ (ns' : List Int) (num : Int), σ = [some (.int c), some (.int m), some (.ref D), some (.int left), some (.int num)] ∧ (0 ≤ num ∧ num < 2147483647) ∧ H' D = some (.lst (ns'.map V.int)) ∧ Same H H' ∧ ns'.length = ns.length + 1, ?_, ?_⟩
          · rintro σ' H' ⟨ns', num', rfl, a0, a1, a2, a3⟩
            exact ⟨m - ns'.length, by omega, ns', num', rfl, a0, a1, a2, by omega, rfl⟩
          · refine ⟨_, rfl, _, _, rfl, rfl, _, _, rfl, rfl, .inr ⟨by decide, by decide⟩, _, _, rfl, rfl, by simp, ?_⟩
            have num0 := Int.emod_nonneg ((num + 1) * 48271) (show (2147483647 : Int) ≠ 0 by decide)
            have num1 := Int.emod_lt_of_pos ((num + 1) * 48271) (show (0 : Int) < 2147483647 by decide)
            refine ⟨_, rfl, .inl ⟨rfl, _, SqL.of h1⟩, _, rfl, _, rfl, _, _, rfl, rfl, ⟨by decide, by decide⟩, _, _, rfl, rfl, _, _, rfl, rfl, .inl ⟨Int.lt_of_lt_of_le (by decide) num0, Int.lt_trans num1 (by decide)⟩, _, _, rfl, rfl, by simp, D, _, _, rfl, rfl, h1, by rw [List.length_map, sizeLine_eq]; omega, ?_⟩
            exact ⟨ns ++ [_], _, rfl, ⟨num0, num1⟩, by rw [upd_same, List.map_append]; rfl, (SameX.upd (Same.x s1)).same hD, by simp⟩
        · exact ⟨_, rfl, k _ D ns s1 hD h1⟩
def sp__law_taken (K : PySem.W.Frag) (a : Adr) : Sp := fun vs H Q _ => ∃ (p : Addr) (ns : List Int) (z : Int), vs = [.ref p, .int z] ∧ 0 < z ∧ H p = some (.lst (ns.map V.int)) ∧ ∀ H' (n : Int) (ns' : List Int), SameX p H H' → H' p = some (.lst (ns'.map V.int)) → 0 ≤ n → n < z → Q (.int n) H'
theorem ok__law_taken {P : Program} {w : World} {K : PySem.W.Frag} {mg : Str → Option Value} {base : Heap} {a : Adr} (T : Txt K mg a) (hw : w.params = a.Pm) : FnOk P w K mg base CX0 1 a._law_taken a._law_taken_fd ["_law_xs", "_law_size"] (sp__law_taken K a) := by
  refine T.f__law_taken.ok sc__law_taken (fun vs H Q E h => ?_) (fun cdv A outer s H vs Q E hr h => ?_)
  · obtain ⟨p, ns, z, rfl, _⟩ := h
    rfl
  · obtain ⟨p, ns, z, rfl, hz, hp, k⟩ := h
    refine ⟨_, (@pss_cons _ _ _ _ _ (@ps_if _ _ _ _ _ _ _ _ (@pt_cmpR _ _ _ _ _ _ _ _ (op_eqDK (K := K) rfl (Room.units hr))
      (pv 0)
      (@pe_lst _ _ _ _ pa_nil)
      (nomark _))
      (@pss_one _ _ _ (@ps_ret _ _ _ _ pe_int))
      pss_nil)
      (@pss_one _ _ _ (@ps_ret _ _ _ _ (@pe_op _ _ _ _ _ _ _ _ op_mod
      (pe_bm PySem.F.plainAttrs_list PySem.F.slot_list_pop PySem.F.type_list_pop mt_popAt (pv 0) (@pa_cons _ _ _ _ _ pe_int
      pa_nil
      (by rfl)))
      (pv 1))))), ?_⟩
    refine ⟨_, rfl, by decide, fun l hl => ?_⟩
    have s1 := same_upd (o := .lst []) hl
    refine eqD_nil (s1 _ _ hp) upd_same fun c hc => ⟨_, rfl, ?_⟩
    cases c with
    | true => exact iteT (k _ 0 ns (Same.x s1) (s1 _ _ hp) (by decide) hz)
    | false =>
      cases ns with
      | nil => have := hc.mpr rfl; cases this
      | cons n r =>
        refine iteF ⟨_, rfl, .inl ⟨rfl, _, SqL.of (s1 _ _ hp)⟩, p, _, 0, 0, .int n, rfl, rfl, s1 _ _ hp, by decide, by decide, ?_, rfl, _, rfl, _, _, rfl, rfl, hz, ?_⟩
        · simp [seqIndex?]
        · exact k _ _ r (Same.x s1).upd (by rw [upd_same]; rfl) (Int.emod_nonneg _ (by omega)) (Int.emod_lt_of_pos _ hz)
end KK

set_option Elab.async false
set_option linter.all false
set_option maxRecDepth 100000
set_option maxHeartbeats 8000000
namespace KK
open PySem PySem.Spec L2 L3
def sp_is_same (n : Nat) (K : PySem.W.Frag) (a : Adr) : Sp := fun vs H Q _ => ∃ x y d t, vs = [x, y] ∧ ThH H x d ∧ ThH H y t ∧ plD n d ∧ d.canLay0 = true ∧ t.canLay0 = true ∧ d.depth ≤ 60 ∧ ∀ H', Same H H' → Q (.bl (sameD d t)) H'
theorem zz_is_same {K : PySem.W.Frag} {a : Adr} {vs : List V} {H : Hp} {Q : VK} {E : XK} (h : sp_is_same 0 K a vs H Q E) : False := by
  obtain ⟨_, _, _, _, _, _, _, h, _⟩ := h
  exact h
theorem ok_is_same {P : Program} {w : World} {K : PySem.W.Frag} {mg : Str → Option Value} {base : Heap} {a : Adr} (T : Txt K mg a) (hw : w.params = a.Pm) : ∀ n : Nat, FnOk P w K mg base CX0 (1 + n) a.is_same a.is_same_fd ["node", "thing"] (sp_is_same n K a) := by
  intro n
  induction n with
  | zero => exact ⟨fun _ _ _ _ h => (zz_is_same h).elim, fun _ _ _ _ _ _ _ _ _ _ _ _ _ h => (zz_is_same h).elim⟩
  | succ n G_is_same =>
    refine T.f_is_same.ok sc_is_same (fun vs H Q E h => ?_) (fun cdv A outer s H vs Q E hr h => ?_)
    · obtain ⟨x, y, d, t, rfl, _⟩ := h
      rfl
    · obtain ⟨x, y, d, t, rfl, hx, hy, pl, c1, c2, dp, k⟩ := h
      refine ⟨_, (@pss_cons _ _ _ _ _ (@ps_if _ _ _ _ _ _ _ _ (pt_val (pe_callB (call_isT (K := K) rfl) rfl T.b_isinstance PyProof.Rows.Boot.«isinstance» (@pa_cons _ _ _ _ _ (pv 0)
      (@pa_cons _ _ _ _ _ (pe_bltn (v := .ty "tuple") rfl T.b_tuple PyProof.Rows.Boot.«tuple» rfl)
      pa_nil
      (by rfl))
      (by rfl))))
      (@pss_cons _ _ _ _ _ (@ps_if _ _ _ _ _ _ _ _ (PW.pt (pw_or (@pt_not _ _ _ _ (pt_val (pe_callB (call_isT (K := K) rfl) rfl T.b_isinstance PyProof.Rows.Boot.«isinstance» (@pa_cons _ _ _ _ _ (pv 1)
      (@pa_cons _ _ _ _ _ (pe_bltn (v := .ty "tuple") rfl T.b_tuple PyProof.Rows.Boot.«tuple» rfl)
      pa_nil
      (by rfl))
      (by rfl))))) (pw_or1 (@pt_cmpR _ _ _ _ _ _ _ _ op_ne
      (pe_callB (call_lenK (K := K) rfl) rfl T.b_len PyProof.Rows.Boot.«len» (@pa_cons _ _ _ _ _ (pv 1)
      pa_nil
      (by rfl)))
      (pe_callB (call_lenK (K := K) rfl) rfl T.b_len PyProof.Rows.Boot.«len» (@pa_cons _ _ _ _ _ (pv 0)
      pa_nil
      (by rfl)))
      (nomark _)))))
      (@pss_one _ _ _ (@ps_ret _ _ _ _ pe_bl))
      pss_nil)
      (@pss_one _ _ _ (@ps_ret _ _ _ _ (pe_callB (call_allK (K := K) rfl rfl) rfl T.b_all PyProof.Rows.Boot.«all» (@pa_cons _ _ _ _ _ (pe_comp (Nc := ["one", "other"]) (ix := [none, none]) (CompOk.of (by decide +kernel : compChk (defScope s_is_same) ["node", "thing"] ["one", "other"] [none, none] _ = true)) rfl (pi_zipT (K := K) rfl rfl T.b_zip (@pa_cons _ _ _ _ _ (pv 0)
      (@pa_cons _ _ _ _ _ (pv 1)
      pa_nil
      (by rfl))
      (by rfl))) (fun _ _ _ _ _ => (pg_tupK (K := K) (n := 2) rfl rfl (pgs_cons (pg_name (i := 0) (show List.Nodup (["one", "other"] : List Str) by decide +kernel) rfl (by first | exact Or.inl rfl | exact Or.inr rfl)) (pgs_cons (pg_name (i := 1) (show List.Nodup (["one", "other"] : List Str) by decide +kernel) rfl (by first | exact Or.inl rfl | exact Or.inr rfl)) pgs_nil)))) (fun _ _ _ _ _ => pts_nil) (fun _ _ _ _ _ => (pe_call G_is_same hr rfl T.g_is_same T.f_is_same.kp T.n_is_same .nil pass0 (@pa_cons _ _ _ _ _ (pv 0)
      (@pa_cons _ _ _ _ _ (pv 1)
      pa_nil
      (by rfl))
      (by rfl)))))
      pa_nil
      (by rfl))))))
      pss_nil)
      (@pss_one _ _ _ (@ps_ret _ _ _ _ (pe_and (@pe_cmpR _ _ _ _ _ _ _ _ op_eq
      (pe_callB (call_isiK (K := K) rfl "bool") rfl T.b_isinstance PyProof.Rows.Boot.«isinstance» (@pa_cons _ _ _ _ _ (pv 1)
      (@pa_cons _ _ _ _ _ (pe_bltn (v := .ty "bool") rfl T.b_bool PyProof.Rows.Boot.«bool» rfl)
      pa_nil
      (by rfl))
      (by rfl)))
      (pe_callB (call_isiK (K := K) rfl "bool") rfl T.b_isinstance PyProof.Rows.Boot.«isinstance» (@pa_cons _ _ _ _ _ (pv 0)
      (@pa_cons _ _ _ _ _ (pe_bltn (v := .ty "bool") rfl T.b_bool PyProof.Rows.Boot.«bool» rfl)
      pa_nil
      (by rfl))
      (by rfl)))
      (nomark _)) (pe_one (@pe_cmpR _ _ _ _ _ _ _ _ (op_eqDK (K := K) rfl (Room.units hr))
      (pv 0)
      (pv 1)
      (nomark _))))))), ?_⟩
      cases hx with
      | @tup aX xs ds hX tX =>
        refine ⟨_, rfl, _, rfl, .inl ⟨_, _, rfl, SqT.of hX, _, rfl, iteT ?_⟩⟩
        cases hy with
        | @tup aY ys ts hY tY =>
          refine ⟨_, rfl, _, rfl, .inl ⟨_, _, rfl, SqT.of hY, _, rfl, iteF ⟨_, rfl, .inl ⟨_, _, rfl, .inr (SqT.of hY), _, rfl, .inl ⟨_, _, rfl, .inr (SqT.of hX), rfl, _, rfl, ite2 (fun c => ?_) (fun c => ?_)⟩⟩⟩⟩⟩
          · have hne : ds.length ≠ ts.length := fun e => by
              rw [← tX.len, ← tY.len] at e
              rw [e] at c; simp at c
            have q := k H (Same.refl H)
            unfold sameD at q
            rw [sameAll_len hne] at q
            exact q
          · have hll : xs.length = ys.length := by
              have : ¬ ((ys.length : Int) ≠ xs.length) := fun z => c (by simpa using z)
              omega
            have lX := tX.len
            have lY := tY.len
            refine ⟨_, rfl, _, rfl, aX, aY, xs, ys, rfl, SqT.of hX, SqT.of hY, fun D hD => ?_⟩
            rw [PyData.canLay0] at c1 c2
            rw [PyData.depth] at dp
            refine comp_gen (J := ItzT K aX aY) (n := xs.length) (fun i σ H' => ∃ z1 z2 : Option V, σ = [z1, z2] ∧ Same H H' ∧ H' D = some (.lst ((List.range i).map fun j => V.bl (sameD (ds.getD j .none) (ts.getD j .none))))) ?_ ?_ ?_ ?_ ?_
            · exact ⟨_, _, rfl, same_upd hD, upd_same⟩
            · rintro i σ H' hi ⟨z1, z2, rfl, sm, hl⟩
              exact ⟨xs, ys, xs[i], ys[i], SqT.of (sm _ _ hX), SqT.of (sm _ _ hY), List.getElem?_eq_getElem hi, List.getElem?_eq_getElem (by omega)⟩
            · rintro σ H' ⟨z1, z2, rfl, sm, hl⟩
              exact ⟨xs, ys, SqT.of (sm _ _ hX), SqT.of (sm _ _ hY), hll, Nat.le_refl _⟩
            · rintro i x σ H' H2 hi ⟨z1, z2, rfl, sm, hl⟩ ⟨pr, v, u, rfl, hpr, rfl, hv, hu⟩ N N0 hN hN0
              have hv := hv _ (SqT.of (sm _ _ hX))
              have hu := hu _ (SqT.of (sm _ _ hY))
              obtain ⟨dv, ev, tv⟩ := tX.get hv
              obtain ⟨du, eu, tu⟩ := tY.get hu
              have s2 := same_upd (o := .tup [v, u]) hpr
              have s02 := sm.trans s2
              refine ⟨pr, [v, u], rfl, SqT.of upd_same, rfl, _, _, rfl, _, _, rfl, rfl, ?_⟩
              have mv := List.mem_of_getElem? ev
              have mu := List.mem_of_getElem? eu
              refine ⟨_, rfl, _, rfl, v, u, dv, du, rfl, tv.mono s02, tu.mono s02, pl.2 dv mv, canLay_mem c1 dv mv, canLay_mem c2 du mu, depth_mem (n := 60) (by omega) dv mv, fun H5 s5 => ?_⟩
              refine hN _ _ _ _ (s5 _ _ (s2 _ _ hl)) (by rw [List.length_map, List.length_range, sizeLine_eq]; have := pl.1; omega) ⟨_, _, rfl, ((Same.x (s02.trans s5)).upd).same hD, ?_⟩
              rw [upd_same, List.range_succ, List.map_append]
              simp [List.getD_eq_getElem?_getD, ev, eu]
            · rintro σ H2 ⟨z1, z2, rfl, sm, hl⟩
              have q := k _ sm
              unfold sameD at q
              rw [same_range (by omega), ← lX] at q
              rw [map_bl] at hl
              exact ⟨D, _, rfl, SqL.of hl, q⟩
        | non => exact ⟨_, rfl, _, rfl, .inr ⟨_, .non, rfl, _, rfl, iteT (iteT (by have q := k H (Same.refl H); unfold sameD at q; exact q))⟩⟩
        | bl b => exact ⟨_, rfl, _, rfl, .inr ⟨_, .bl b, rfl, _, rfl, iteT (iteT (by have q := k H (Same.refl H); unfold sameD at q; exact q))⟩⟩
        | int i => exact ⟨_, rfl, _, rfl, .inr ⟨_, .int i, rfl, _, rfl, iteT (iteT (by have q := k H (Same.refl H); unfold sameD at q; exact q))⟩⟩
        | str x => exact ⟨_, rfl, _, rfl, .inr ⟨_, .str x, rfl, _, rfl, iteT (iteT (by have q := k H (Same.refl H); unfold sameD at q; exact q))⟩⟩
        | lst hY tY => exact ⟨_, rfl, _, rfl, .inr ⟨_, .lst hY, rfl, _, rfl, iteT (iteT (by have q := k H (Same.refl H); unfold sameD at q; exact q))⟩⟩
      | lst hX tX => exact pl.elim
      | non => exact pl.elim
      | int i =>
        obtain ⟨ty, t1, t2⟩ := hy.tyB (K := K)
        have q := k H (Same.refl H)
        rw [sameD_flat (.inl ⟨i, rfl⟩)] at q
        refine ⟨_, rfl, _, rfl, .inr ⟨_, .int i, rfl, _, rfl, iteF ⟨_, rfl, _, ty, _, rfl, t1, t2, _, rfl, _, _, _, rfl, .int i, rfl, ?_⟩⟩⟩
        show rEq (V.bl (isBd t)) (V.bl false) H _
        cases hb : isBd t with
        | false =>
          rw [hb] at q
          exact ⟨rfl, _, rfl, iteT ⟨_, rfl, _, rfl, _, _, .int i, hy.dp, c1, c2, dp, q⟩⟩
        | true =>
          rw [hb] at q
          exact ⟨rfl, _, rfl, iteF q⟩
      | str x =>
        obtain ⟨ty, t1, t2⟩ := hy.tyB (K := K)
        have q := k H (Same.refl H)
        rw [sameD_flat (.inr (.inl ⟨x, rfl⟩))] at q
        refine ⟨_, rfl, _, rfl, .inr ⟨_, .str x, rfl, _, rfl, iteF ⟨_, rfl, _, ty, _, rfl, t1, t2, _, rfl, _, _, _, rfl, .str x, rfl, ?_⟩⟩⟩
        show rEq (V.bl (isBd t)) (V.bl false) H _
        cases hb : isBd t with
        | false =>
          rw [hb] at q
          exact ⟨rfl, _, rfl, iteT ⟨_, rfl, _, rfl, _, _, .str x, hy.dp, c1, c2, dp, q⟩⟩
        | true =>
          rw [hb] at q
          exact ⟨rfl, _, rfl, iteF q⟩
      | bl b =>
        obtain ⟨ty, t1, t2⟩ := hy.tyB (K := K)
        have q := k H (Same.refl H)
        rw [sameD_flat (.inr (.inr ⟨b, rfl⟩))] at q
        refine ⟨_, rfl, _, rfl, .inr ⟨_, .bl b, rfl, _, rfl, iteF ⟨_, rfl, _, ty, _, rfl, t1, t2, _, rfl, _, _, _, rfl, .bl b, rfl, ?_⟩⟩⟩
        show rEq (V.bl (isBd t)) (V.bl true) H _
        cases hb : isBd t with
        | true =>
          rw [hb] at q
          exact ⟨rfl, _, rfl, iteT ⟨_, rfl, _, rfl, _, _, .bl b, hy.dp, c1, c2, dp, q⟩⟩
        | false =>
          rw [hb] at q
          exact ⟨rfl, _, rfl, iteF q⟩
end KK

set_option Elab.async false
set_option linter.all false
set_option maxRecDepth 100000
set_option maxHeartbeats 8000000
namespace KK
open PySem PySem.Spec L2 L3
def sp_nodes_along (K : PySem.W.Frag) (a : Adr) : Sp := fun vs H Q _ => ∃ (κ : Nat) (net b r : Addr) (es : NE) (N : ND → List ND) (ns : List ND) (bv rv : List V) (bs : List ND) (ts : List PyData), vs = [.ref net, .ref b, .ref r] ∧ NetOk κ a.Pm H net es N ns ∧ H b = some (.lst bv) ∧ NdL κ H bv bs ∧ bs.length ≤ 1000 ∧ (∀ d ∈ bs, d ∈ ns) ∧ H r = some (.lst rv) ∧ ThL H rv ts ∧ PyData.canLayAll0 ts = true ∧ ts.length ≤ 1000 ∧ ∀ H' L us, Same H H' → H L = none → H' L = some (.lst us) → NdL κ H' us (along N bs ts) → Q (.ref L) H'
theorem ok_nodes_along {P : Program} {w : World} {K : PySem.W.Frag} {mg : Str → Option Value} {base : Heap} {a : Adr} (T : Txt K mg a) (hw : w.params = a.Pm) : FnOk P w K mg base CX0 6 a.nodes_along a.nodes_along_fd ["net", "begins", "row"] (sp_nodes_along K a) := by
  have G_is_same := ok_is_same (P := P) (w := w) (base := base) T hw 4
  refine T.f_nodes_along.ok sc_nodes_along (fun vs H Q E h => ?_) (fun cdv A outer s H vs Q E hr h => ?_)
  · obtain ⟨κ, net, b, r, es, N, ns, bv, rv, bs, ts, rfl, _⟩ := h
    rfl
  · obtain ⟨κ, net, b, r, es, N, ns, bv, rv, bs, ts, rfl, hN, hb, nb, lb, bn, hr', tr, cl, lt, k⟩ := h
    refine ⟨_, (@pss_cons _ _ _ _ _ (@ps_set _ _ (3) _ _ _ _ sc_nodes_along.nd
      rfl
      (by first | exact Or.inl rfl | exact Or.inr rfl)
      (@pe_lst _ _ _ _ pa_nil)
      (by rfl)
      (by first | exact .inl rfl | exact .inr rfl | assumption))
      (@pss_cons _ _ _ _ _ (@ps_set _ _ (4) _ _ _ _ sc_nodes_along.nd
      rfl
      (by first | exact Or.inl rfl | exact Or.inr rfl)
      (pv 1)
      (by rfl)
      (by first | exact .inl rfl | exact .inr rfl | assumption))
      (@pss_cons _ _ _ _ _ (ps_for PassesOwn.never rfl (pi_listK (K := K) rfl (pv 2)) (pg_name (i := 5) sc_nodes_along.nd rfl (by first | exact Or.inl rfl | exact Or.inr rfl)) (@pss_cons _ _ _ _ _ (ps_setComp (i := 6) sc_nodes_along.nd rfl rfl (Nc := ["node", "thing"]) (ix := [none, some 5]) (CompOk.of (by decide +kernel : compChk (defScope s_nodes_along) ["net", "begins", "row", "nodes", "choices", "thing", "same"] ["node", "thing"] [none, some 5] _ = true)) rfl (pi_listK (K := K) rfl (pv 4)) (fun _ _ _ _ _ => (pg_name (i := 0) (show List.Nodup (["node", "thing"] : List Str) by decide +kernel) rfl (by first | exact Or.inl rfl | exact Or.inr rfl))) (fun _ _ _ _ _ => (pts_one (pt_val (pe_call G_is_same (hr.mono (by decide)) rfl T.g_is_same T.f_is_same.kp T.n_is_same .nil pass0 (@pa_cons _ _ _ _ _ (pv 0)
      (@pa_cons _ _ _ _ _ (pv 1)
      pa_nil
      (by rfl))
      (by rfl)))))) (fun _ _ _ _ _ => (pv 0)))
      (@pss_cons _ _ _ _ _ (@ps_if _ _ _ _ _ _ _ _ (@pt_not _ _ _ _ (pt_truthK (K := K) rfl (pv 6) (fun _ => rfl)))
      (@pss_one _ _ _ (@ps_ret _ _ _ _ (pv 3)))
      pss_nil)
      (@pss_cons _ _ _ _ _ (@ps_expr _ _ _ _ (pe_bm PySem.F.plainAttrs_list PySem.F.slot_list_append PySem.F.type_list_append mt_append (pv 3) (@pa_cons _ _ _ _ _ (@pe_ix _ _ _ _ _ _ _ (ix_listK (K := K) rfl)
      (pv 6)
      pe_int
      (fun _ _ => rfl))
      pa_nil
      (by rfl)))
      (by rfl))
      (@pss_one _ _ _ (@ps_set _ _ (4) _ _ _ _ sc_nodes_along.nd
      rfl
      (by first | exact Or.inl rfl | exact Or.inr rfl)
      (pe_nget hw (Room.units3 hr) (pv 0) (@pe_ix _ _ _ _ _ _ _ (ix_listK (K := K) rfl)
      (pv 6)
      pe_int
      (fun _ _ => rfl)) (fun _ _ => rfl))
      (by rfl)
      (by first | exact .inl rfl | exact .inr rfl | assumption)))))))
      (@pss_one _ _ _ (@ps_ret _ _ _ _ (pv 3)))))), ?_⟩
    refine ⟨by decide, fun D hD => ?_⟩
    have s1 := same_upd (o := .lst []) hD
    have e1 : (upd H D (.lst [])) D = some (.lst []) := upd_same
    generalize upd H D (.lst []) = H1 at s1 e1 ⊢
    refine ⟨_, rfl, _, rfl, r, rfl, ⟨_, SqL.of (s1 _ _ hr')⟩, ?_⟩
    have nbD : b ≠ D := fun e => by rw [e, hD] at hb; cases hb
    have lr := tr.len
    refine for_list (K := K) (xs := rv) (fun i σ H' => ∃ (c : Addr) (z1 z2 : Option V) (cv us : List V) (ch pre : List ND), σ = [some (.ref net), some (.ref b), some (.ref r), some (.ref D), some (.ref c), z1, z2] ∧ Same H H' ∧ H' D = some (.lst us) ∧ NdL κ H' us pre ∧ H' c = some (.lst cv) ∧ NdL κ H' cv ch ∧ ch.length ≤ 1000 ∧ (∀ d ∈ ch, d ∈ ns) ∧ c ≠ D ∧ along N bs ts = pre ++ along N ch (ts.drop i) ∧ pre.length = i) ?_ ?_ ?_ ?_
    · exact ⟨b, _, _, bv, [], bs, [], rfl, s1, e1, .nil, s1 _ _ hb, nb.mono (Same.u s1), lb, bn, nbD, rfl, rfl⟩
    · rintro i σ H' hi ⟨c, z1, z2, cv, us, ch, pre, rfl, sm, _⟩
      exact SqL.of (sm _ _ hr')
    · rintro i x σ H2 hx ⟨c, z1, z2, cv, us, ch, pre, rfl, sm, hD2, nu, hc, nc, lc, cn, ncD, ea, lp⟩
      have hi : i < rv.length := (List.getElem?_eq_some_iff.mp hx).1
      obtain ⟨t, et, tt⟩ := tr.get hx
      have ct := canLay_mem cl t (List.mem_of_getElem? et)
      refine ⟨_, rfl, c, rfl, ⟨_, SqL.of hc⟩, fun F hF => ?_⟩
      have lcv := nc.len
      refine comp_gen (J := Itl K c) (n := cv.length) (fun j σ H' => ∃ (z : Option V) (ys : List V), σ = [z, some x] ∧ Same H2 H' ∧ H' F = some (.lst ys) ∧ NdL κ H' ys ((ch.take j).filter fun d => sameD (toD d) t)) ?_ ?_ ?_ ?_ ?_
      · exact ⟨_, [], rfl, same_upd hF, upd_same, .nil⟩
      · rintro j σ H' hj ⟨z, ys, rfl, s3, _⟩
        exact ⟨cv, cv[j], SqL.of (s3 _ _ hc), List.getElem?_eq_getElem hj⟩
      · rintro σ H' ⟨z, ys, rfl, s3, _⟩
        exact ⟨cv, SqL.of (s3 _ _ hc), Nat.le_refl _⟩
      · rintro j v σ H' H3 hj ⟨z, ys, rfl, s3, hF3, ny⟩ ⟨rfl, hv⟩ M N0 hM hN0
        have hv := hv _ (SqL.of (s3 _ _ hc))
        obtain ⟨d, ed, nd⟩ := nc.get hv
        have etk : (ch.take (j + 1)).filter (fun d => sameD (toD d) t) = (ch.take j).filter (fun d => sameD (toD d) t) ++ (if sameD (toD d) t = true then [d] else []) := by
          rw [List.take_add_one, ed, List.filter_append]
          show _ ++ List.filter _ [d] = _
          rw [List.filter_cons]
          rfl
        have lys : ys.length ≤ 1000 := by
          have := ny.len
          have h1 : ((ch.take j).filter fun d => sameD (toD d) t).length ≤ (ch.take j).length := List.length_filter_le _ _
          rw [List.length_take] at h1
          omega
        refine ⟨_, rfl, _, rfl, v, x, toD d, t, rfl, (nd.mono (Same.u s3)).th, tt.mono (sm.trans s3), plD_toD d, (toD_fine nd.ok).1, ct, Nat.le_trans (toD_fine nd.ok).2 (by decide), fun H4 s4 => ⟨_, rfl, ?_⟩⟩
        cases hq : sameD (toD d) t with
        | true =>
          rw [hq] at etk
          refine iteT ⟨_, rfl, hM _ _ _ ys (s4 _ _ hF3) (by rw [sizeLine_eq]; omega) ⟨_, ys ++ [v], rfl, ((Same.x (s3.trans s4)).upd).same hF, upd_same, ?_⟩⟩
          rw [etk]
          have u5 : SameU H4 (upd H4 F (.lst (ys ++ [v]))) := SameX.u ((SameX.refl H4).upd) (s4 _ _ hF3) (fun _ z => by cases z)
          exact ((ny.mono (Same.u s4)).mono u5).app (.cons (((nd.mono (Same.u s3)).mono (Same.u s4)).mono u5) .nil)
        | false =>
          rw [hq] at etk
          refine iteF (hN0 _ _ ⟨_, ys, rfl, s3.trans s4, s4 _ _ hF3, ?_⟩)
          rw [etk]
          simpa using ny.mono (Same.u s4)
      · rintro σ H3 ⟨z, ys, rfl, s3, hF3, ny⟩
        have s03 := sm.trans s3
        rw [lcv, List.take_length] at ny
        have hF0 : H F = none := by
          cases e : H F with
          | none => rfl
          | some o => rw [sm _ _ e] at hF; cases hF
        have hd : ts.drop i = t :: ts.drop (i + 1) := by
          have h2 := (List.getElem?_eq_some_iff.mp et).2
          rw [← h2, List.drop_eq_getElem_cons (List.getElem?_eq_some_iff.mp et).1]
        rw [hd, along_cons] at ea
        have hfd : ch.find? (fun d => sameD (toD d) t) = (ch.filter fun d => sameD (toD d) t)[0]? := by rw [← List.head?_eq_getElem?, List.head?_filter]
        have hD3 := s3 _ _ hD2
        have lu := nu.len
        have mem0 : ∀ e ∈ ch.filter (fun d => sameD (toD d) t), e ∈ ns := fun e he => cn e (List.mem_filter.mp he).1
        have lf : (ch.filter fun d => sameD (toD d) t).length ≤ 1000 := Nat.le_trans (List.length_filter_le _ _) lc
        generalize (ch.filter fun d => sameD (toD d) t) = fl at ny hfd mem0 lf
        have nDF : D ≠ F := fun e => by rw [← e, hD2] at hF; cases hF
        cases ny with
        | nil =>
          rw [hfd] at ea
          have ea' : along N bs ts = pre := by rw [ea]; simp
          exact ⟨_, rfl, _, .inl ⟨_, SqL.of hF3, rfl⟩, iteT ⟨_, rfl, k _ D us s03 hD hD3 (by rw [ea']; exact nu.mono (Same.u s3))⟩⟩
        | @cons v d vr dr nv nr =>
          rw [hfd] at ea
          have hN3 := hN.mono s03
          have dn := mem0 d List.mem_cons_self
          obtain ⟨lv, elv⟩ := hN3.has d dn
          obtain ⟨l, ws, rfl, hl, nw⟩ := hN3.val d lv elv
          have nlD : l ≠ D := fun e => by
            obtain ⟨l', ws', e', hl', _⟩ := hN.val d _ elv
            cases e'
            rw [e, hD] at hl'; cases hl'
          refine ⟨_, rfl, _, .inl ⟨_, SqL.of hF3, rfl⟩, iteF ⟨_, rfl, .inl ⟨rfl, _, SqL.of hD3⟩, _, rfl, F, _, _, _, rfl, rfl, SqL.of hF3, atI_nat (j := 0) rfl, D, _, _, rfl, rfl, hD3, by rw [sizeLine_eq]; omega, ?_⟩⟩
          have x4 : SameX D H3 (upd H3 D (.lst (us ++ [v]))) := (SameX.refl H3).upd
          have u4 : SameU H3 (upd H3 D (.lst (us ++ [v]))) := SameX.u x4 hD3 (fun _ z => by cases z)
          have s04 : Same H (upd H3 D (.lst (us ++ [v]))) := ((Same.x s03).upd).same hD
          have hF4 := updK (o' := .lst (us ++ [v])) hF3 nDF.symm
          have hN4 := hN.mono s04
          refine ⟨_, rfl, _, rfl, F, _, _, _, rfl, rfl, SqL.of hF4, atI_nat (j := 0) rfl, net, es, κ, d, .ref l, rfl, hN4.at_, hN4.keys, nv.mono u4, elv, ?_⟩
          exact ⟨l, _, _, ws, us ++ [v], N d, pre ++ [d], rfl, s04, upd_same, ((nu.mono (Same.u s3)).mono u4).app (.cons (nv.mono u4) .nil), updK hl nlD, nw.mono u4, hN.few d, hN.sub d dn, nlD, by rw [ea]; simp, by simp [lp]⟩
    · rintro σ H2 ⟨c, z1, z2, cv, us, ch, pre, rfl, sm, hD2, nu, hc, nc, lc, cn, ncD, ea, lp⟩
      rw [lr, List.drop_length] at ea
      have ea' : along N bs ts = pre := by rw [ea]; cases ch <;> simp [along]
      refine ⟨_, rfl, k _ D us sm hD hD2 (by rw [ea']; exact nu)⟩
end KK

set_option Elab.async false
set_option linter.all false
set_option maxRecDepth 100000
set_option maxHeartbeats 8000000
namespace KK
open PySem PySem.Spec L2 L3
theorem all_bl {ys : List V} {ds : List ND} {f : ND → Bool} (hl : ys.length = ds.length) (h : ∀ (i : Nat) v d, ys[i]? = some v → ds[i]? = some d → v = .bl (f d)) : ys = (ds.map f).map V.bl := by
  apply List.ext_getElem?
  intro i
  rw [List.getElem?_map, List.getElem?_map]
  rcases Nat.lt_or_ge i ys.length with hi | hi
  · have hd : i < ds.length := by omega
    rw [List.getElem?_eq_getElem hi, List.getElem?_eq_getElem hd]
    exact congrArg some (h i _ _ (List.getElem?_eq_getElem hi) (List.getElem?_eq_getElem hd))
  · rw [List.getElem?_eq_none hi, List.getElem?_eq_none (by omega)]; rfl
theorem any_map_id {ds : List ND} {f : ND → Bool} : (ds.map f).any id = ds.any f := by rw [List.any_map]; rfl
theorem markAll_false {M : ND → List Bool} {n k : Nat} {ds : List ND} (hk : k < n) (h : (ds.any fun d => (M d).getD k false) = false) : markAll M n ds = false := by
  unfold markAll
  rw [List.all_eq_false]
  exact ⟨k, List.mem_range.mpr hk, by rw [h]; simp⟩
def sp_is_full (K : PySem.W.Frag) (a : Adr) : Sp := fun vs H Q _ => ∃ (κ : Nat) (mk l : Addr) (es : NE) (M : ND → List Bool) (n : Nat) (ns : List ND) (lv : List V) (ds : List ND), vs = [.ref mk, .ref l] ∧ MarkOk κ a.Pm H mk es M n ns ∧ H l = some (.lst lv) ∧ NdL κ H lv ds ∧ ds.length ≤ 3000 ∧ ds ≠ [] ∧ (∀ d ∈ ds, d ∈ ns) ∧ ∀ H', Same H H' → Q (.bl (markAll M n ds)) H'
theorem ok_is_full {P : Program} {w : World} {K : PySem.W.Frag} {mg : Str → Option Value} {base : Heap} {a : Adr} (T : Txt K mg a) (hw : w.params = a.Pm) : FnOk P w K mg base CX0 1 a.is_full a.is_full_fd ["marks", "nodes"] (sp_is_full K a) := by
  refine T.f_is_full.ok sc_is_full (fun vs H Q E h => ?_) (fun cdv A outer s H vs Q E hr h => ?_)
  · obtain ⟨κ, mk, l, es, M, n, ns, lv, ds, rfl, _⟩ := h
    rfl
  · obtain ⟨κ, mk, l, es, M, n, ns, lv, ds, rfl, hM, hl, nl, ll, hne, dn, k⟩ := h
    refine ⟨_, (@pss_cons _ _ _ _ _ (ps_for PassesOwn.never rfl (pi_range1 rfl T.b_range (@pa_cons _ _ _ _ _ (pe_callB (call_lenK (K := K) rfl) rfl T.b_len PyProof.Rows.Boot.«len» (@pa_cons _ _ _ _ _ (pe_nget hw (Room.units3 hr) (pv 0) (@pe_ix _ _ _ _ _ _ _ (ix_listK (K := K) rfl)
      (pv 1)
      pe_int
      (fun _ _ => rfl)) (fun _ _ => rfl))
      pa_nil
      (by rfl)))
      pa_nil
      (by rfl))) (pg_name (i := 2) sc_is_full.nd rfl (by first | exact Or.inl rfl | exact Or.inr rfl)) (@pss_one _ _ _ (@ps_if _ _ _ _ _ _ _ _ (@pt_not _ _ _ _ (pt_val (pe_callB (call_anyK (K := K) rfl rfl) rfl T.b_any PyProof.Rows.Boot.«any» (@pa_cons _ _ _ _ _ (pe_comp (Nc := ["node", "number", "marks"]) (ix := [none, some 2, some 0]) (CompOk.of (by decide +kernel : compChk (defScope s_is_full) ["marks", "nodes", "number"] ["node", "number", "marks"] [none, some 2, some 0] _ = true)) rfl (pi_listK (K := K) rfl (pv 1)) (fun _ _ _ _ _ => (pg_name (i := 0) (show List.Nodup (["node", "number", "marks"] : List Str) by decide +kernel) rfl (by first | exact Or.inl rfl | exact Or.inr rfl))) (fun _ _ _ _ _ => pts_nil) (fun _ _ _ _ _ => (@pe_ix _ _ _ _ _ _ _ (ix_listK (K := K) rfl)
      (pe_nget hw (Room.units3 hr) (pv 2) (pv 0) (fun _ _ => rfl))
      (pv 1)
      (fun _ _ => rfl))))
      pa_nil
      (by rfl)))))
      (@pss_one _ _ _ (@ps_ret _ _ _ _ pe_bl))
      pss_nil)))
      (@pss_one _ _ _ (@ps_ret _ _ _ _ pe_bl))), ?_⟩
    have lvl := nl.len
    obtain ⟨d, ed⟩ : ∃ d, ds[0]? = some d := by
      cases ds with
      | nil => exact absurd rfl hne
      | cons d r => exact ⟨d, rfl⟩
    obtain ⟨v, ev, nv⟩ := nl.get' ed
    have dm := dn d (List.mem_of_getElem? ed)
    obtain ⟨mv, emv⟩ := hM.has d dm
    obtain ⟨ml, rfl, hml⟩ := hM.val d mv emv
    have lm := hM.len d dm
    have fw := hM.few
    refine ⟨_, rfl, _, rfl, l, _, _, _, rfl, rfl, SqL.of hl, atI_nat (j := 0) ev, mk, es, κ, d, _, rfl, hM.at_, hM.keys, nv, emv, .inl ⟨ml, _, rfl, .inl (SqL.of hml), ?_⟩⟩
    refine ⟨_, rfl, by rw [List.length_map]; omega, by rw [List.length_map]; omega, ?_⟩
    rw [List.length_map, lm]
    refine for_range (n := n) (fun i σ H' => ∃ z : Option V, σ = [some (.ref mk), some (.ref l), z] ∧ Same H H' ∧ markAll M i ds = true) ?_ ?_ ?_
    · exact ⟨_, rfl, .refl _, rfl⟩
    · rintro i σ H2 hi ⟨z, rfl, sm, ha⟩
      have hM2 := hM.mono sm
      have nl2 := nl.mono (Same.u sm)
      refine ⟨_, rfl, l, rfl, ⟨_, SqL.of (sm _ _ hl)⟩, fun D hD => ?_⟩
      refine comp_map (K := K) hD (SqL.of (sm _ _ hl)) (by rw [sizeLine_eq]; omega) (fun j v _ => ∀ e, ds[j]? = some e → v = .bl ((M e).getD i false)) (fun _ _ _ _ _ q => q) ?_ ?_
      · intro j x H3 Nx hx s3 hNx
        obtain ⟨e, ee, ne⟩ := nl2.get hx
        have hM3 := hM2.mono s3
        have em := dn e (List.mem_of_getElem? ee)
        obtain ⟨xv, exv⟩ := hM3.has e em
        obtain ⟨xl, rfl, hxl⟩ := hM3.val e xv exv
        have lx := hM3.len e em
        refine ⟨_, rfl, _, rfl, mk, es, κ, e, _, rfl, hM3.at_, hM3.keys, ne.mono (Same.u s3), exv, _, rfl, xl, _, _, .bl ((M e).getD i false), rfl, rfl, SqL.of hxl, ?_, ?_⟩
        · rw [Int.zero_add]
          refine atI_nat (j := i) ?_
          rw [List.getElem?_map, List.getD_eq_getElem?_getD, List.getElem?_eq_getElem (by omega)]; rfl
        · refine hNx _ _ (.refl _) fun e' h' => ?_
          rw [ee] at h'; cases h'; rfl
      · intro H3 ys hD3 s3 yl hr3
        have ey := all_bl (f := fun e => (M e).getD i false) (by omega) fun j v e h1 h2 => hr3 j v h1 e h2
        refine ⟨D, _, rfl, SqL.of (by rw [hD3, ey]), _, rfl, ?_⟩
        rw [any_map_id]
        cases c : ds.any (fun e => (M e).getD i false) with
        | false =>
          have q := k _ (sm.trans s3)
          rw [markAll_false hi c] at q
          exact iteT q
        | true =>
          refine iteF ⟨_, rfl, sm.trans s3, ?_⟩
          unfold markAll at ha ⊢
          rw [List.range_succ, List.all_append, ha]
          simp only [List.all_cons, List.all_nil, c]
          rfl
    · rintro σ H2 ⟨z, rfl, sm, ha⟩
      have q := k _ sm
      rw [ha] at q
      exact q
end KK

set_option Elab.async false
set_option linter.all false
set_option maxRecDepth 100000
set_option maxHeartbeats 8000000
namespace KK
open PySem PySem.Spec L2 L3
def sp_is_full_loop (K : PySem.W.Frag) (a : Adr) : Sp := fun vs H Q _ => ∃ (κ : Nat) (net mk b : Addr) (es es2 : NE) (N : ND → List ND) (M : ND → List Bool) (n : Nat) (ns : List ND) (bv : List V) (bs : List ND) (th : V) (r : Bool), vs = [.ref net, .ref mk, .ref b, th] ∧ NetOk κ a.Pm H net es N ns ∧ MarkOk κ a.Pm H mk es2 M n ns ∧ H b = some (.lst bv) ∧ NdL κ H bv bs ∧ bs.length ≤ 1000 ∧ (∀ d ∈ bs, d ∈ ns) ∧ LpT K H N M bs th r ∧ ∀ H', Same H H' → Q (.bl r) H'
theorem ok_is_full_loop {P : Program} {w : World} {K : PySem.W.Frag} {mg : Str → Option Value} {base : Heap} {a : Adr} (T : Txt K mg a) (hw : w.params = a.Pm) : FnOk P w K mg base CX0 7 a.is_full_loop a.is_full_loop_fd ["net", "marks", "begins", "thing"] (sp_is_full_loop K a) := by
  have G_nodes_along := ok_nodes_along (P := P) (w := w) (base := base) T hw
  have G_is_full := ok_is_full (P := P) (w := w) (base := base) T hw
  refine T.f_is_full_loop.ok sc_is_full_loop (fun vs H Q E h => ?_) (fun cdv A outer s H vs Q E hr h => ?_)
  · obtain ⟨κ, net, mk, b, es, es2, N, M, n, ns, bv, bs, th, r, rfl, _⟩ := h
    rfl
  · obtain ⟨κ, net, mk, b, es, es2, N, M, n, ns, bv, bs, th, r, rfl, hN, hM, hb, nb, lb, bn, hth, k⟩ := h
    refine ⟨_, (@pss_cons _ _ _ _ _ (@ps_if _ _ _ _ _ _ _ _ (PW.pt (pw_or (@pt_not _ _ _ _ (pt_val (pe_callB (call_isT (K := K) rfl) rfl T.b_isinstance PyProof.Rows.Boot.«isinstance» (@pa_cons _ _ _ _ _ (pv 3)
      (@pa_cons _ _ _ _ _ (pe_bltn (v := .ty "tuple") rfl T.b_tuple PyProof.Rows.Boot.«tuple» rfl)
      pa_nil
      (by rfl))
      (by rfl))))) (pw_or1 (@pt_cmpR _ _ _ _ _ _ _ _ op_ne
      (pe_callB (call_lenK (K := K) rfl) rfl T.b_len PyProof.Rows.Boot.«len» (@pa_cons _ _ _ _ _ (pv 3)
      pa_nil
      (by rfl)))
      pe_int
      (nomark _)))))
      (@pss_one _ _ _ (@ps_ret _ _ _ _ pe_bl))
      pss_nil)
      (@pss_cons _ _ _ _ _ (ps_asg (pv 3) (pg_tupK (K := K) (n := 2) rfl rfl (pgs_cons (pg_name (i := 4) sc_is_full_loop.nd rfl (by first | exact Or.inl rfl | exact Or.inr rfl)) (pgs_cons (pg_name (i := 5) sc_is_full_loop.nd rfl (by first | exact Or.inl rfl | exact Or.inr rfl)) pgs_nil))))
      (@pss_cons _ _ _ _ _ (@ps_if _ _ _ _ _ _ _ _ (PW.pt (pw_or (@pt_not _ _ _ _ (pt_val (pe_callB (call_isiK (K := K) rfl "list") rfl T.b_isinstance PyProof.Rows.Boot.«isinstance» (@pa_cons _ _ _ _ _ (pv 4)
      (@pa_cons _ _ _ _ _ (pe_bltn (v := .ty "list") rfl T.b_list PyProof.Rows.Boot.«list» rfl)
      pa_nil
      (by rfl))
      (by rfl))))) (pw_or (@pt_not _ _ _ _ (pt_val (pe_callB (call_isiK (K := K) rfl "list") rfl T.b_isinstance PyProof.Rows.Boot.«isinstance» (@pa_cons _ _ _ _ _ (pv 5)
      (@pa_cons _ _ _ _ _ (pe_bltn (v := .ty "list") rfl T.b_list PyProof.Rows.Boot.«list» rfl)
      pa_nil
      (by rfl))
      (by rfl))))) (pw_or1 (@pt_cmpR _ _ _ _ _ _ _ _ op_eq
      (pe_callB (call_lenK (K := K) rfl) rfl T.b_len PyProof.Rows.Boot.«len» (@pa_cons _ _ _ _ _ (pv 5)
      pa_nil
      (by rfl)))
      pe_int
      (nomark _))))))
      (@pss_one _ _ _ (@ps_ret _ _ _ _ pe_bl))
      pss_nil)
      (@pss_cons _ _ _ _ _ (@ps_set _ _ (6) _ _ _ _ sc_is_full_loop.nd
      rfl
      (by first | exact Or.inl rfl | exact Or.inr rfl)
      (@pe_op _ _ _ _ _ _ _ _ op_cat
      (@pe_op _ _ _ _ _ _ _ _ op_cat
      (pv 4)
      (pv 5))
      (pe_slice (sl_listK (K := K) rfl) (pv 5) po_none (po_some pe_int)))
      (by rfl)
      (by first | exact .inl rfl | exact .inr rfl | assumption))
      (@pss_cons _ _ _ _ _ (@ps_set _ _ (7) _ _ _ _ sc_is_full_loop.nd
      rfl
      (by first | exact Or.inl rfl | exact Or.inr rfl)
      (pe_call G_nodes_along (hr.mono (by decide)) rfl T.g_nodes_along T.f_nodes_along.kp T.n_nodes_along .nil pass0 (@pa_c _ _ _ _ _ (pv 0)
      (@pa_c _ _ _ _ _ (pv 2)
      (@pa_c _ _ _ _ _ (pv 6)
      pa_nil
      (by rfl))
      (by rfl))
      (by rfl)))
      (by rfl)
      (by first | exact .inl rfl | exact .inr rfl | assumption))
      (@pss_one _ _ _ (@ps_ret _ _ _ _ (pe_and (@pe_cmpR _ _ _ _ _ _ _ _ op_eq
      (pe_callB (call_lenK (K := K) rfl) rfl T.b_len PyProof.Rows.Boot.«len» (@pa_cons _ _ _ _ _ (pv 7)
      pa_nil
      (by rfl)))
      (pe_callB (call_lenK (K := K) rfl) rfl T.b_len PyProof.Rows.Boot.«len» (@pa_cons _ _ _ _ _ (pv 6)
      pa_nil
      (by rfl)))
      (nomark _)) (pe_one (pe_call G_is_full (hr.mono (by decide)) rfl T.g_is_full T.f_is_full.kp T.n_is_full .nil pass0 (@pa_cons _ _ _ _ _ (pv 1)
      (@pa_cons _ _ _ _ _ (pe_slice (sl_listK (K := K) rfl) (pv 7) (po_some (pe_callB (call_lenK (K := K) rfl) rfl T.b_len PyProof.Rows.Boot.«len» (@pa_cons _ _ _ _ _ (pv 4)
      pa_nil
      (by rfl)))) po_none)
      pa_nil
      (by rfl))
      (by rfl)))))))))))), ?_⟩
    have k0 := k H (Same.refl H)
    cases hth with
    | other t1 t2 => exact ⟨_, rfl, _, rfl, .inr ⟨_, t1, t2, _, rfl, iteT (iteT k0)⟩⟩
    | @long t xs ht hl =>
      refine ⟨_, rfl, _, rfl, .inl ⟨_, _, rfl, ht, _, rfl, iteF ⟨_, rfl, .inl ⟨_, _, rfl, .inr ht, rfl, _, rfl, ite2 (fun c => ?_) (fun c => ?_)⟩⟩⟩⟩
      · exact k0
      · exact absurd (by simpa using c : (xs.length : Int) = 2) (by omega)
    | @noway t x y ty ht t1 t2 =>
      refine ⟨_, rfl, _, rfl, .inl ⟨_, _, rfl, ht, _, rfl, iteF ⟨_, rfl, .inl ⟨_, _, rfl, .inr ht, rfl, _, rfl, iteF ?_⟩⟩⟩⟩
      refine ⟨_, rfl, t, _, rfl, ht, rfl, _, _, rfl, _, _, rfl, rfl, ?_⟩
      exact ⟨_, rfl, _, _, _, rfl, t1, t2, _, rfl, iteT (iteT k0)⟩
    | @noring t w y wv ty ht hw t1 t2 =>
      refine ⟨_, rfl, _, rfl, .inl ⟨_, _, rfl, ht, _, rfl, iteF ⟨_, rfl, .inl ⟨_, _, rfl, .inr ht, rfl, _, rfl, iteF ?_⟩⟩⟩⟩
      refine ⟨_, rfl, t, _, rfl, ht, rfl, _, _, rfl, _, _, rfl, rfl, ?_⟩
      exact ⟨_, rfl, _, _, _, rfl, .lst hw, rfl, _, rfl, iteF ⟨_, rfl, _, _, _, rfl, t1, t2, _, rfl, iteT (iteT k0)⟩⟩
    | @empty t w r wv ht hw hr2 =>
      refine ⟨_, rfl, _, rfl, .inl ⟨_, _, rfl, ht, _, rfl, iteF ⟨_, rfl, .inl ⟨_, _, rfl, .inr ht, rfl, _, rfl, iteF ?_⟩⟩⟩⟩
      refine ⟨_, rfl, t, _, rfl, ht, rfl, _, _, rfl, _, _, rfl, rfl, ?_⟩
      exact ⟨_, rfl, _, _, _, rfl, .lst hw, rfl, _, rfl, iteF ⟨_, rfl, _, _, _, rfl, .lst hr2, rfl, _, rfl, iteF ⟨_, rfl, .inl ⟨_, _, rfl, .inl (SqL.of hr2), rfl, _, rfl, iteT k0⟩⟩⟩⟩
    | @loop t w r wv rv wt rt ht hw hr2 tw tr c1 c2 hne l1 l2 =>
      have lw := tw.len
      have lr := tr.len
      refine ⟨_, rfl, _, rfl, .inl ⟨_, _, rfl, ht, _, rfl, iteF ⟨_, rfl, .inl ⟨_, _, rfl, .inr ht, rfl, _, rfl, iteF ?_⟩⟩⟩⟩
      refine ⟨_, rfl, t, _, rfl, ht, rfl, _, _, rfl, _, _, rfl, rfl, ?_⟩
      refine ⟨_, rfl, _, _, _, rfl, .lst hw, rfl, _, rfl, iteF ⟨_, rfl, _, _, _, rfl, .lst hr2, rfl, _, rfl, iteF ⟨_, rfl, .inl ⟨_, _, rfl, .inl (SqL.of hr2), rfl, _, rfl, ite2 (fun c => ?_) (fun c => ?_)⟩⟩⟩⟩
      · exfalso
        have : (rv.length : Int) = 0 := by simpa using c
        exact hne (List.length_eq_zero_iff.mp (by omega))
      · clear c
        refine ⟨_, rfl, _, rfl, w, r, wv, rv, rfl, rfl, hw, hr2, by rw [sizeLine_eq]; omega, fun p1 hp1 => ?_⟩
        have s1 := same_upd (o := .lst (wv ++ rv)) hp1
        have e1 : (upd H p1 (.lst (wv ++ rv))) p1 = some (.lst (wv ++ rv)) := upd_same
        generalize upd H p1 (.lst (wv ++ rv)) = H1 at s1 e1 ⊢
        refine ⟨_, rfl, 1, rfl, r, rv, rfl, SqL.of (s1 _ _ hr2), fun p2 hp2 => ?_⟩
        rw [cut_head]
        have s2 := s1.trans (same_upd (o := .lst (rv.take 1)) hp2)
        have e2 : (upd H1 p2 (.lst (rv.take 1))) p2 = some (.lst (rv.take 1)) := upd_same
        have e1' := same_upd (o := .lst (rv.take 1)) hp2 _ _ e1
        generalize upd H1 p2 (.lst (rv.take 1)) = H2 at s2 e2 e1' ⊢
        refine ⟨p1, p2, _, _, rfl, rfl, e1', e2, by rw [sizeLine_eq, List.length_append, List.length_take]; omega, fun p3 hp3 => ?_⟩
        have s3 := s2.trans (same_upd (o := .lst (wv ++ rv ++ rv.take 1)) hp3)
        have e3 : (upd H2 p3 (.lst (wv ++ rv ++ rv.take 1))) p3 = some (.lst (wv ++ rv ++ rv.take 1)) := upd_same
        generalize upd H2 p3 (.lst (wv ++ rv ++ rv.take 1)) = H3 at s3 e3 ⊢
        have tt := ((tw.app tr).app (tr.take 1)).mono s3
        refine ⟨_, rfl, _, rfl, _, rfl, κ, net, b, p3, es, N, ns, bv, _, bs, wt ++ rt ++ rt.take 1, rfl, hN.mono s3, s3 _ _ hb, nb.mono (Same.u s3), lb, bn, e3, tt, canLay_app (canLay_app c1 c2) (canLay_take 1 c2), by rw [List.length_append, List.length_append, List.length_take]; omega, fun H4 L us s4 hL0 hL nu => ?_⟩
        have s04 := s3.trans s4
        have lu := nu.len
        refine ⟨_, rfl, .inl ⟨L, _, rfl, .inl (SqL.of hL), _, rfl, .inl ⟨p3, _, rfl, .inl (SqL.of (s4 _ _ e3)), rfl, _, rfl, ite2 (fun c => ?_) (fun c => ?_)⟩⟩⟩
        · have hlen : (along N bs (wt ++ rt ++ rt.take 1)).length = (wt ++ rt ++ rt.take 1).length := by
            have c' : (V.int us.length) = V.int (wv ++ rv ++ rv.take 1).length := of_decide_eq_true c
            injection c' with c'
            have : (wt ++ rt ++ rt.take 1).length = (wv ++ rv ++ rv.take 1).length := by simp only [List.length_append, List.length_take]; omega
            omega
          have q := fun H' s => k H' s
          have ht1 : 1 ≤ (rt.take 1).length := by
            rw [List.length_take]
            have := List.length_pos_iff.mpr hne
            omega
          have hp : progFull N M bs wt rt = markAll M n ((along N bs (wt ++ rt ++ rt.take 1)).drop wt.length) := by
            unfold progFull
            dsimp only
            rw [decide_eq_true hlen, Bool.true_and]
            have hm := along_mem hN.sub (wt ++ rt ++ rt.take 1) bs bn
            have hd : (along N bs (wt ++ rt ++ rt.take 1)).drop wt.length ≠ [] := fun e => by
              have := congrArg List.length e
              rw [List.length_drop, hlen] at this
              simp only [List.length_append, List.length_nil] at this
              omega
            cases e : (along N bs (wt ++ rt ++ rt.take 1)).drop wt.length with
            | nil => exact absurd e hd
            | cons x s =>
              dsimp only
              rw [hM.len x (hm x (List.mem_of_mem_drop (by rw [e]; exact List.mem_cons_self)))]
          rw [hp] at q
          have hm := along_mem hN.sub (wt ++ rt ++ rt.take 1) bs bn
          refine ⟨_, rfl, _, rfl, _, rfl, .inl ⟨w, _, rfl, .inl (SqL.of (s04 _ _ hw)), _, rfl, L, us, rfl, SqL.of hL, fun p5 hp5 => ?_⟩⟩
          rw [cutV_from us wv.length (by rw [lu, hlen]; simp only [List.length_append]; omega)]
          have s5 := same_upd (o := .lst (us.drop wv.length)) hp5
          refine ⟨κ, mk, p5, es2, M, n, ns, _, _, rfl, hM.mono (s04.trans s5), upd_same, (nu.mono (Same.u s5)).drop wv.length, ?_, ?_, fun d hd => hm d (List.mem_of_mem_drop hd), fun H6 s6 => ?_⟩
          · rw [List.length_drop, hlen]; simp only [List.length_append, List.length_take]; omega
          · intro e
            have := congrArg List.length e
            rw [List.length_drop, hlen] at this
            simp only [List.length_append, List.length_nil] at this
            omega
          · have := q H6 ((s04.trans s5).trans s6)
            rw [← lw] at this
            exact this
        · have hlen : ¬ (along N bs (wt ++ rt ++ rt.take 1)).length = (wt ++ rt ++ rt.take 1).length := fun e => by
            refine c (decide_eq_true ?_)
            have : (wt ++ rt ++ rt.take 1).length = (wv ++ rv ++ rv.take 1).length := by simp only [List.length_append, List.length_take]; omega
            rw [lu, e, this]
          have q := k H4 s04
          unfold progFull at q
          dsimp only at q
          rw [decide_eq_false hlen, Bool.false_and] at q
          exact q
end KK

set_option Elab.async false
set_option linter.all false
set_option maxRecDepth 100000
set_option maxHeartbeats 8000000
namespace KK
open PySem PySem.Spec L2 L3
def sp__law_nodes (K : PySem.W.Frag) (a : Adr) : Sp := fun vs H Q _ => ∃ (c : Int), vs = [.int c] ∧ ∀ H' L us κ, Same H H' → H L = none → H' L = some (.lst us) → AllN κ H' us → κ < 4 → us ≠ [] → us.length ≤ 12 → Q (.ref L) H'
theorem ok__law_nodes {P : Program} {w : World} {K : PySem.W.Frag} {mg : Str → Option Value} {base : Heap} {a : Adr} (T : Txt K mg a) (hw : w.params = a.Pm) : FnOk P w K mg base CX0 1 a._law_nodes a._law_nodes_fd ["_law_cell"] (sp__law_nodes K a) := by
  refine T.f__law_nodes.ok sc__law_nodes (fun vs H Q E h => ?_) (fun cdv A outer s H vs Q E hr h => ?_)
  · obtain ⟨c, rfl, _⟩ := h
    rfl
  · obtain ⟨c, rfl, k⟩ := h
    refine ⟨_, (@pss_cons _ _ _ _ _ (@ps_set _ _ (1) _ _ _ _ sc__law_nodes.nd
      rfl
      (by first | exact Or.inl rfl | exact Or.inr rfl)
      (@pe_op _ _ _ _ _ _ _ _ op_add
      pe_int
      (@pe_op _ _ _ _ _ _ _ _ op_mod
      (@pe_op _ _ _ _ _ _ _ _ op_fdiv
      (pv 0)
      pe_int)
      pe_int))
      (by rfl)
      (by first | exact .inl rfl | exact .inr rfl | assumption))
      (@pss_cons _ _ _ _ _ (@ps_if _ _ _ _ _ _ _ _ (@pt_cmpR _ _ _ _ _ _ _ _ op_eq
      (@pe_op _ _ _ _ _ _ _ _ op_mod
      (@pe_op _ _ _ _ _ _ _ _ op_fdiv
      (pv 0)
      pe_int)
      pe_int)
      pe_int
      (nomark _))
      (@pss_one _ _ _ (@ps_set _ _ (1) _ _ _ _ sc__law_nodes.nd
      rfl
      (by first | exact Or.inl rfl | exact Or.inr rfl)
      pe_int
      (by rfl)
      (by first | exact .inl rfl | exact .inr rfl | assumption)))
      pss_nil)
      (@pss_cons _ _ _ _ _ (ps_setComp (i := 2) sc__law_nodes.nd rfl rfl (Nc := ["_law_k", "_law_cell"]) (ix := [none, some 0]) (CompOk.of (by decide +kernel : compChk (defScope s__law_nodes) ["_law_cell", "_law_many", "_law_found"] ["_law_k", "_law_cell"] [none, some 0] _ = true)) rfl (pi_range1 rfl T.b_range (@pa_cons _ _ _ _ _ (pv 1)
      pa_nil
      (by rfl))) (fun _ _ _ _ _ => (pg_name (i := 0) (show List.Nodup (["_law_k", "_law_cell"] : List Str) by decide +kernel) rfl (by first | exact Or.inl rfl | exact Or.inr rfl))) (fun _ _ _ _ _ => pts_nil) (fun _ _ _ _ _ => (@pe_ix _ _ _ _ _ _ _ (ix_listK (K := K) rfl)
      (@pe_lst _ _ _ _ (@pa_c _ _ _ _ _ (pv 0)
      (@pa_c _ _ _ _ _ (@pe_tup _ _ _ _ _ (@pa_cons _ _ _ _ _ pe_str
      (@pa_cons _ _ _ _ _ (pv 0)
      pa_nil
      (by rfl))
      (by rfl)))
      (@pa_c _ _ _ _ _ (@pe_op _ _ _ _ _ _ _ _ op_add_str
      pe_str
      (pe_callTy (call_str_any) rfl T.b_str PyProof.Rows.Boot.«str» (@pa_cons _ _ _ _ _ (@pe_op _ _ _ _ _ _ _ _ op_sub
      pe_int
      (pv 0))
      pa_nil
      (by rfl))))
      (@pa_c _ _ _ _ _ (@pe_tup _ _ _ _ _ (@pa_cons _ _ _ _ _ (@pe_op _ _ _ _ _ _ _ _ op_mod
      (pv 0)
      pe_int)
      (@pa_cons _ _ _ _ _ (@pe_tup _ _ _ _ _ (@pa_cons _ _ _ _ _ (@pe_cmpR _ _ _ _ _ _ _ _ op_eq
      (@pe_op _ _ _ _ _ _ _ _ op_mod
      (@pe_op _ _ _ _ _ _ _ _ op_fdiv
      (pv 0)
      pe_int)
      pe_int)
      pe_int
      (nomark _))
      (@pa_cons _ _ _ _ _ (@pe_cmpR _ _ _ _ _ _ _ _ op_gt
      (pv 0)
      pe_int
      (nomark _))
      pa_nil
      (by rfl))
      (by rfl)))
      pa_nil
      (by rfl))
      (by rfl)))
      pa_nil
      (by rfl))
      (by rfl))
      (by rfl))
      (by rfl)))
      (@pe_op _ _ _ _ _ _ _ _ op_mod
      (pv 1)
      pe_int)
      (fun _ _ => rfl))))
      (@pss_one _ _ _ (@ps_ret _ _ _ _ (pe_callB (call_sortN hw rfl (Room.units12 hr)) rfl T.b_sorted PyProof.Rows.Boot.«sorted» (@pa_cons _ _ _ _ _ (pe_callTy (call_setN (K := K) rfl hw rfl (Room.units12 hr)) rfl T.b_set PyProof.Rows.Boot.«set» (@pa_cons _ _ _ _ _ (pv 2)
      pa_nil
      (by rfl)))
      pa_nil
      (by rfl)))))))), ?_⟩
    refine ⟨_, rfl, _, _, rfl, rfl, ⟨by decide, by decide⟩, _, _, rfl, rfl, by simp, _, _, rfl, rfl, ?_⟩
    have m0 := Int.emod_nonneg (c / 4) (show (7 : Int) ≠ 0 by decide)
    have m1 := Int.emod_lt_of_pos (c / 4) (show (0 : Int) < 7 by decide)
    generalize c / 4 % 7 = m at m0 m1
    refine ⟨_, rfl, _, _, rfl, rfl, ⟨by decide, by decide⟩, _, _, rfl, rfl, by simp, rfl, _, rfl, ite2 (fun c1 => ?_) (fun c1 => ?_)⟩
    case' refine_1 =>
      show tSeq _ _ _ [some (.int c), some (.int 12), none] H
      have q0 : (1 : Int) ≤ 12 ∧ (12 : Int) < 13 := by decide
      generalize (12 : Int) = q at q0
    case' refine_2 =>
      show tSeq _ _ _ [some (.int c), some (.int (1 + m)), none] H
      have q0 : (1 : Int) ≤ 1 + m ∧ 1 + m < 13 := by omega
      generalize 1 + m = q at q0
    all_goals
      clear c1 m0 m1
      have k0 := Int.emod_nonneg c (show (4 : Int) ≠ 0 by decide)
      have k1 := Int.emod_lt_of_pos c (show (0 : Int) < 4 by decide)
      refine ⟨_, rfl, _, rfl, by omega, by omega, fun D hD => ?_⟩
      refine comp_gen (J := Itr 0 q.toNat) (n := q.toNat) (fun i σ H' => ∃ (z : Option V) (ys : List V), σ = [z, some (.int c)] ∧ Same H H' ∧ H' D = some (.lst ys) ∧ AllN (c % 4).toNat H' ys ∧ ys.length = i) ?_ ?_ ?_ ?_ ?_
      · exact ⟨_, [], rfl, same_upd hD, upd_same, (fun v hv => by cases hv), rfl⟩
      · rintro i σ H' hi _
        exact hi
      · rintro σ H' _
        exact Nat.le_refl _
      · rintro i x σ H2 H3 hi ⟨z, ys, rfl, sm, hl, ay, ly⟩ ⟨rfl, rfl⟩ Nn N0 hN hN0
        have i12 : i < 12 := by omega
        obtain ⟨b1, b2⟩ := str20 i12
        refine ⟨_, rfl, _, rfl, by show 2 ≤ sizeLine; rw [sizeLine_eq]; decide, fun t1 h1 => ?_⟩
        have s1 := sm.trans (same_upd (o := .tup [.str strN, .int (0 + (i : Int))]) h1)
        have g1 : (upd H3 t1 (.tup [.str strN, .int (0 + (i : Int))])) t1 = some (.tup [.str strN, .int (0 + (i : Int))]) := upd_same
        have l1 := same_upd (o := .tup [.str strN, .int (0 + (i : Int))]) h1 _ _ hl
        have a1 : AllN (c % 4).toNat (upd H3 t1 (.tup [.str strN, .int (0 + (i : Int))])) ys := fun v hv => let ⟨d, q⟩ := ay v hv; ⟨d, q.mono (Same.u (same_upd h1))⟩
        have e1 : upd H3 t1 (.tup [.str (Str.ofString "n"), .int (0 + (i : Int))]) = upd H3 t1 (.tup [.str strN, .int (0 + (i : Int))]) := rfl
        rw [e1]
        generalize upd H3 t1 (.tup [.str strN, .int (0 + (i : Int))]) = H4 at s1 g1 l1 a1 ⊢
        refine ⟨_, rfl, _, _, rfl, rfl, .inl ⟨_, rfl, ?_, _, _, rfl, rfl, b1, ?_⟩⟩
        · have : (20 - (0 + (i : Int))).natAbs < 2 ^ 1920 := Nat.lt_trans (show (20 - (0 + (i : Int))).natAbs < 100 by omega) (by decide +kernel)
          exact (Nat.log2_lt (by omega)).mpr this
        refine ⟨_, rfl, _, _, rfl, rfl, by simp, _, rfl, _, _, rfl, rfl, ⟨by decide, by decide⟩, _, _, rfl, rfl, by simp, rfl, _, rfl, _, _, rfl, rfl, by show 2 ≤ sizeLine; rw [sizeLine_eq]; decide, fun t2 h2 => ?_⟩
        generalize hH5 : upd H4 t2 _ = H5
        have s45 : Same H4 H5 := by rw [← hH5]; exact same_upd h2
        obtain ⟨B1, B2, g2⟩ : ∃ B1 B2, H5 t2 = some (.tup [.bl B1, .bl B2]) := ⟨_, _, by rw [← hH5]; exact upd_same⟩
        clear hH5
        refine ⟨by show 2 ≤ sizeLine; rw [sizeLine_eq]; decide, fun t3 h3 => ?_⟩
        generalize hH6 : upd H5 t3 _ = H6
        have s56 : Same H5 H6 := by rw [← hH6]; exact same_upd h3
        have g3 : H6 t3 = some (.tup [.int ((0 + (i : Int)) % 2), .ref t2]) := by rw [← hH6]; exact upd_same
        clear hH6
        refine ⟨by show 4 ≤ sizeLine; rw [sizeLine_eq]; decide, fun l hl0 => ?_⟩
        generalize hH7 : upd H6 l _ = H7
        have s67 : Same H6 H7 := by rw [← hH7]; exact same_upd hl0
        obtain ⟨xs, g4, x0, x1, x2, x3⟩ : ∃ xs, H7 l = some (.lst xs) ∧ xs[0]? = some (.int (0 + (i : Int))) ∧ xs[1]? = some (.ref t1) ∧ xs[2]? = some (.str (Str.ofString "n" ++ Str.ofString (toString (20 - (0 + (i : Int)))))) ∧ xs[3]? = some (.ref t3) := ⟨_, by rw [← hH7]; exact upd_same, rfl, rfl, rfl, rfl⟩
        clear hH7
        have s47 := (s45.trans s56).trans s67
        have s07 := s1.trans s47
        have a7 : AllN (c % 4).toNat H7 ys := fun v hv => let ⟨d, q⟩ := a1 v hv; ⟨d, q.mono (Same.u s47)⟩
        have ni : (0 + (i : Int)) = i := by omega
        rw [ni] at x0 x2 b2 g3
        rw [ni] at g1
        have fin : ∀ v d, Nd (c % 4).toNat H7 v d → Nn v [some (.int (0 + (i : Int))), some (.int c)] H7 := fun v d hd => by
          refine hN v _ H7 ys (s47 _ _ l1) (by rw [sizeLine_eq]; omega) ⟨_, ys ++ [v], rfl, ((Same.x s07).upd).same hD, upd_same, fun u hu => ?_, by simp [ly]⟩
          have u8 : SameU H7 (upd H7 D (.lst (ys ++ [v]))) := SameX.u ((SameX.refl H7).upd) (s47 _ _ l1) (fun _ z => by cases z)
          rcases List.mem_append.mp hu with h | h
          · obtain ⟨d', q⟩ := a7 u h; exact ⟨d', q.mono u8⟩
          · rw [List.mem_singleton] at h; subst h; exact ⟨d, hd.mono u8⟩
        have cs : c % 4 = 0 ∨ c % 4 = 1 ∨ c % 4 = 2 ∨ c % 4 = 3 := by omega
        rcases cs with e | e | e | e
        · rw [e] at fin
          exact ⟨_, rfl, _, _, rfl, rfl, by simp, l, _, _, _, rfl, rfl, SqL.of g4, by rw [e]; exact atI_nat (j := 0) x0, fin _ (.i i) ⟨i12, rfl⟩⟩
        · rw [e] at fin
          exact ⟨_, rfl, _, _, rfl, rfl, by simp, l, _, _, _, rfl, rfl, SqL.of g4, by rw [e]; exact atI_nat (j := 1) x1, fin _ (.t i) ⟨i12, t1, rfl, s47 _ _ g1⟩⟩
        · rw [e] at fin
          exact ⟨_, rfl, _, _, rfl, rfl, by simp, l, _, _, _, rfl, rfl, SqL.of g4, by rw [e]; exact atI_nat (j := 2) x2, fin _ (.s _) ⟨b2, rfl⟩⟩
        · rw [e] at fin
          have hp : ((i : Int) % 2) = ((i % 2 : Nat) : Int) := by omega
          rw [hp] at g3
          exact ⟨_, rfl, _, _, rfl, rfl, by simp, l, _, _, _, rfl, rfl, SqL.of g4, by rw [e]; exact atI_nat (j := 3) x3, fin _ (.p (i % 2) B1 B2) ⟨by show i % 2 < 2; omega, t3, t2, rfl, s67 _ _ g3, (s56.trans s67) _ _ g2⟩⟩
      · rintro σ H2 ⟨z, ys, rfl, sm, hl, ay, ly⟩
        refine ⟨_, rfl, D, ys, (c % 4).toNat, rfl, SqL.of hl, ay, by omega, by omega, fun S hS => ?_⟩
        have s2 := same_upd (o := SnO a.Pm S ys) hS
        refine ⟨S, ys, (c % 4).toNat, rfl, upd_same, fun v hv => let ⟨d, q⟩ := ay v hv; ⟨d, q.mono (Same.u s2)⟩, by omega, by omega, fun L out hL mo lo ho => ?_⟩
        have s3 := same_upd (o := .lst out) hL
        have s03 := (sm.trans s2).trans s3
        refine k _ L out _ s03 (Same.free (sm.trans s2) hL) upd_same (fun v hv => let ⟨d, q⟩ := ay v (mo v hv); ⟨d, (q.mono (Same.u s2)).mono (Same.u s3)⟩) (by omega) (ho (fun e => by rw [e] at ly; simp at ly; omega)) (by omega)
end KK

set_option Elab.async false
set_option linter.all false
set_option maxRecDepth 100000
set_option maxHeartbeats 8000000
namespace KK
open PySem PySem.Spec L2 L3
theorem in_list {κ : Nat} {H : Hp} {nd : List ND} : ∀ {out : List V}, (∀ v ∈ out, ∃ d, Nd κ H v d ∧ d ∈ nd) → ∃ ds, NdL κ H out ds ∧ (∀ d ∈ ds, d ∈ nd)
  | [], _ => ⟨[], .nil, fun d hd => by cases hd⟩
  | v :: r, h => by
    obtain ⟨d, q, m⟩ := h v List.mem_cons_self
    obtain ⟨ds, a, b⟩ := in_list (out := r) fun x hx => h x (List.mem_cons_of_mem _ hx)
    refine ⟨d :: ds, .cons q a, fun e he => ?_⟩
    rcases List.mem_cons.mp he with rfl | he
    · exact m
    · exact b e he
theorem in_of {κ : Nat} {H : Hp} {nd ds : List ND} {us : List V} (nu : NdL κ H us ds) (dn : ∀ d ∈ ds, d ∈ nd) : ∀ v ∈ us, ∃ d, Nd κ H v d ∧ d ∈ nd := fun v hv => by
  obtain ⟨i, hi, e⟩ := List.getElem_of_mem hv
  obtain ⟨d, ed, q⟩ := nu.get (i := i) (v := v) (by rw [List.getElem?_eq_getElem hi, e])
  exact ⟨d, q, dn d (List.mem_of_getElem? ed)⟩
theorem pick_comp {K : PySem.W.Frag} {a : Adr} {κ : Nat} {L p D : Addr} {nv : List V} {nd : List ND} {ns : List Int} {q : Nat} {H0 : Hp} {Q : VK} (hD : H0 D = none) (hL : H0 L = some (.lst nv)) (nLp : L ≠ p) (hp : H0 p = some (.lst (ns.map V.int))) (nn : NdL κ H0 nv nd) (hne : nd ≠ []) (hq : q ≤ 3)
    (fin : ∀ H' us ds (ns' : List Int), SameX p H0 H' → H' p = some (.lst (ns'.map V.int)) → H' D = some (.lst us) → NdL κ H' us ds → (∀ d ∈ ds, d ∈ nd) → ds.length ≤ 3 → Q (.ref D) H') :
    CompW (Itr 0 q) D (gName 0) tTrue (tOp (rIxL K) (tVar 1) (tCall (sp__law_taken K a) [] E0 (tCons (tVar 2) (tCons (tCB (rLen K) (tCons (tVar 1) tNil)) tNil)))) [none, some (.ref L), some (.ref p)] H0 Q := by
  have nDp : D ≠ p := fun e => by rw [e, hp] at hD; cases hD
  have ln := nn.len
  have l0 := List.length_pos_iff.mpr hne
  refine comp_gen (J := Itr 0 q) (n := q) (fun i σ H' => ∃ (z : Option V) (us : List V) (ds : List ND) (ns' : List Int), σ = [z, some (.ref L), some (.ref p)] ∧ SameX p H0 H' ∧ H' p = some (.lst (ns'.map V.int)) ∧ H' D = some (.lst us) ∧ NdL κ H' us ds ∧ (∀ d ∈ ds, d ∈ nd) ∧ ds.length = i) ?_ ?_ ?_ ?_ ?_
  · exact ⟨_, [], [], ns, rfl, (Same.x (same_upd hD)), updK hp nDp.symm, upd_same, .nil, (fun d hd => by cases hd), rfl⟩
  · rintro i σ H' hi _; exact hi
  · rintro σ H' _; exact Nat.le_refl _
  · rintro i x σ H2 H3 hi ⟨z, us, ds, ns', rfl, x2, p2, d2, nu, dn, ld⟩ ⟨rfl, rfl⟩ N N0 hN hN0
    have hL3 := x2 _ _ nLp hL
    have lu := nu.len
    have up : SameU H0 H3 := SameX.u x2 hp (fun _ z => by cases z)
    refine ⟨_, rfl, _, rfl, _, rfl, .inl ⟨L, _, rfl, .inl (SqL.of hL3), p, ns', _, rfl, by omega, p2, fun H4 n4 ns4 x4 p4 n0 n1 => ?_⟩⟩
    have u4 : SameU H3 H4 := SameX.u x4 p2 (fun _ z => by cases z)
    obtain ⟨j, rfl⟩ : ∃ j : Nat, n4 = j := ⟨n4.toNat, by omega⟩
    have hj : j < nv.length := by omega
    obtain ⟨d, ed, hd⟩ := nn.get (List.getElem?_eq_getElem hj)
    have d4 := x4 _ _ nDp d2
    refine ⟨L, _, _, nv[j], rfl, rfl, SqL.of (x4 _ _ nLp hL3), atI_nat (List.getElem?_eq_getElem hj), hN _ _ H4 us d4 (by rw [sizeLine_eq]; omega) ⟨_, us ++ [nv[j]], ds ++ [d], ns4, rfl, ?_, updK p4 nDp.symm, upd_same, ?_, ?_, by simp [ld]⟩⟩
    · exact ((x2.trans x4)).updN hD
    · have u5 : SameU H4 (upd H4 D (.lst (us ++ [nv[j]]))) := SameX.u ((SameX.refl H4).upd) d4 (fun _ z => by cases z)
      exact ((nu.mono u4).mono u5).app (.cons (((hd.mono up).mono u4).mono u5) .nil)
    · intro e he
      rcases List.mem_append.mp he with h | h
      · exact dn e h
      · rw [List.mem_singleton] at h; subst h; exact List.mem_of_getElem? ed
  · rintro σ H2 ⟨z, us, ds, ns', rfl, x2, p2, d2, nu, dn, ld⟩
    exact fin H2 us ds ns' x2 p2 d2 nu dn (by omega)
theorem mark_comp {K : PySem.W.Frag} {a : Adr} {p D : Addr} {ns : List Int} {q : Nat} {H0 : Hp} {Q : VK} (hD : H0 D = none) (hp : H0 p = some (.lst (ns.map V.int))) (hq : q ≤ 6)
    (fin : ∀ H' (bs : List Bool) (ns' : List Int), SameX p H0 H' → H' p = some (.lst (ns'.map V.int)) → H' D = some (.lst (bs.map V.bl)) → bs.length = q → Q (.ref D) H') :
    CompW (Itr 0 q) D (gName 0) tTrue (tOp rEq (tCall (sp__law_taken K a) [] E0 (tCons (tVar 1) (tCons (tC (V.int 3)) tNil))) (tC (V.int 1))) [none, some (.ref p)] H0 Q := by
  have nDp : D ≠ p := fun e => by rw [e, hp] at hD; cases hD
  refine comp_gen (J := Itr 0 q) (n := q) (fun i σ H' => ∃ (z : Option V) (bs : List Bool) (ns' : List Int), σ = [z, some (.ref p)] ∧ SameX p H0 H' ∧ H' p = some (.lst (ns'.map V.int)) ∧ H' D = some (.lst (bs.map V.bl)) ∧ bs.length = i) ?_ ?_ ?_ ?_ ?_
  · exact ⟨_, [], ns, rfl, (Same.x (same_upd hD)), updK hp nDp.symm, upd_same, rfl⟩
  · rintro i σ H' hi _; exact hi
  · rintro σ H' _; exact Nat.le_refl _
  · rintro i x σ H2 H3 hi ⟨z, bs, ns', rfl, x2, p2, d2, ld⟩ ⟨rfl, rfl⟩ N N0 hN hN0
    refine ⟨_, rfl, p, ns', 3, rfl, by decide, p2, fun H4 n4 ns4 x4 p4 n0 n1 => ⟨rfl, ?_⟩⟩
    have d4 := x4 _ _ nDp d2
    refine hN _ _ H4 _ d4 (by rw [List.length_map, sizeLine_eq]; omega) ⟨_, bs ++ [_], ns4, rfl, (x2.trans x4).updN hD, updK p4 nDp.symm, by rw [upd_same, List.map_append]; rfl, by simp [ld]⟩
  · rintro σ H2 ⟨z, bs, ns', rfl, x2, p2, d2, ld⟩
    exact fin H2 bs ns' x2 p2 d2 ld
def sp__law_net (K : PySem.W.Frag) (a : Adr) : Sp := fun vs H Q _ => ∃ (c : Int) (p : Addr) (ns : List Int), vs = [.int c, .ref p] ∧ H p = some (.lst (ns.map V.int)) ∧ ∀ H' t L net mk b κ nv nd es es2 N M n bv bs, SameX p H H' → H' t = some (.tup [.ref L, .ref net, .ref mk, .ref b]) → H' L = some (.lst nv) → NdL κ H' nv nd → nd ≠ [] → nd.length ≤ 12 → NetOk κ a.Pm H' net es N nd → MarkOk κ a.Pm H' mk es2 M n nd → H' b = some (.lst bv) → NdL κ H' bv bs → bs.length ≤ 3 → (∀ d ∈ bs, d ∈ nd) → κ < 4 → Q (.ref t) H'
theorem ok__law_net {P : Program} {w : World} {K : PySem.W.Frag} {mg : Str → Option Value} {base : Heap} {a : Adr} (T : Txt K mg a) (hw : w.params = a.Pm) : FnOk P w K mg base CX0 2 a._law_net a._law_net_fd ["_law_cell", "_law_xs"] (sp__law_net K a) := by
  have G__law_taken := ok__law_taken (P := P) (w := w) (base := base) T hw
  have G__law_nodes := ok__law_nodes (P := P) (w := w) (base := base) T hw
  refine T.f__law_net.ok sc__law_net (fun vs H Q E h => ?_) (fun cdv A outer s H vs Q E hr h => ?_)
  · obtain ⟨c, p, ns, rfl, _⟩ := h
    rfl
  · obtain ⟨c, p, ns, rfl, hp, k⟩ := h
    refine ⟨_, (@pss_cons _ _ _ _ _ (@ps_set _ _ (2) _ _ _ _ sc__law_net.nd
      rfl
      (by first | exact Or.inl rfl | exact Or.inr rfl)
      (pe_call G__law_nodes (hr.mono (by decide)) rfl T.g__law_nodes T.f__law_nodes.kp T.n__law_nodes .nil pass0 (@pa_cons _ _ _ _ _ (pv 0)
      pa_nil
      (by rfl)))
      (by rfl)
      (by first | exact .inl rfl | exact .inr rfl | assumption))
      (@pss_cons _ _ _ _ _ (@ps_set _ _ (3) _ _ _ _ sc__law_net.nd
      rfl
      (by first | exact Or.inl rfl | exact Or.inr rfl)
      (pe_nnew hw)
      (by rfl)
      (by first | exact .inl rfl | exact .inr rfl | assumption))
      (@pss_cons _ _ _ _ _ (@ps_set _ _ (4) _ _ _ _ sc__law_net.nd
      rfl
      (by first | exact Or.inl rfl | exact Or.inr rfl)
      (pe_nnew hw)
      (by rfl)
      (by first | exact .inl rfl | exact .inr rfl | assumption))
      (@pss_cons _ _ _ _ _ (@ps_set _ _ (5) _ _ _ _ sc__law_net.nd
      rfl
      (by first | exact Or.inl rfl | exact Or.inr rfl)
      (@pe_ix _ _ _ _ _ _ _ (ix_listK (K := K) rfl)
      (@pe_lst _ _ _ _ (@pa_cons _ _ _ _ _ (pe_call G__law_taken (hr.mono (by decide)) rfl T.g__law_taken T.f__law_taken.kp T.n__law_taken .nil pass0 (@pa_cons _ _ _ _ _ (pv 1)
      (@pa_cons _ _ _ _ _ pe_int
      pa_nil
      (by rfl))
      (by rfl)))
      (@pa_cons _ _ _ _ _ pe_int
      pa_nil
      (by rfl))
      (by rfl)))
      (@pe_op _ _ _ _ _ _ _ _ op_fdiv
      (pe_call G__law_taken (hr.mono (by decide)) rfl T.g__law_taken T.f__law_taken.kp T.n__law_taken .nil pass0 (@pa_cons _ _ _ _ _ (pv 1)
      (@pa_cons _ _ _ _ _ pe_int
      pa_nil
      (by rfl))
      (by rfl)))
      pe_int)
      (fun _ _ => rfl))
      (by rfl)
      (by first | exact .inl rfl | exact .inr rfl | assumption))
      (@pss_cons _ _ _ _ _ (ps_for PassesOwn.never rfl (pi_listK (K := K) rfl (pv 2)) (pg_name (i := 6) sc__law_net.nd rfl (by first | exact Or.inl rfl | exact Or.inr rfl)) (@pss_cons _ _ _ _ _ (ps_setComp (i := 7) sc__law_net.nd rfl rfl (Nc := ["_law_k", "_law_nodes_here", "_law_xs"]) (ix := [none, some 2, some 1]) (CompOk.of (by decide +kernel : compChk (defScope s__law_net) ["_law_cell", "_law_xs", "_law_nodes_here", "_law_net_here", "_law_marks", "_law_length", "_law_node", "_law_there", "_law_begins"] ["_law_k", "_law_nodes_here", "_law_xs"] [none, some 2, some 1] _ = true)) rfl (pi_range1 rfl T.b_range (@pa_cons _ _ _ _ _ (@pe_ix _ _ _ _ _ _ _ (ix_listK (K := K) rfl)
      (@pe_lst _ _ _ _ (@pa_c _ _ _ _ _ pe_int
      (@pa_c _ _ _ _ _ pe_int
      (@pa_c _ _ _ _ _ pe_int
      (@pa_c _ _ _ _ _ pe_int
      (@pa_c _ _ _ _ _ pe_int
      pa_nil
      (by rfl))
      (by rfl))
      (by rfl))
      (by rfl))
      (by rfl)))
      (pe_call G__law_taken (hr.mono (by decide)) rfl T.g__law_taken T.f__law_taken.kp T.n__law_taken .nil pass0 (@pa_cons _ _ _ _ _ (pv 1)
      (@pa_cons _ _ _ _ _ pe_int
      pa_nil
      (by rfl))
      (by rfl)))
      (fun _ _ => rfl))
      pa_nil
      (by rfl))) (fun _ _ _ _ _ => (pg_name (i := 0) (show List.Nodup (["_law_k", "_law_nodes_here", "_law_xs"] : List Str) by decide +kernel) rfl (by first | exact Or.inl rfl | exact Or.inr rfl))) (fun _ _ _ _ _ => pts_nil) (fun _ _ _ _ _ => (@pe_ix _ _ _ _ _ _ _ (ix_listK (K := K) rfl)
      (pv 1)
      (pe_call G__law_taken (hr.mono (by decide)) rfl T.g__law_taken T.f__law_taken.kp T.n__law_taken .nil pass0 (@pa_cons _ _ _ _ _ (pv 2)
      (@pa_cons _ _ _ _ _ (pe_callB (call_lenK (K := K) rfl) rfl T.b_len PyProof.Rows.Boot.«len» (@pa_cons _ _ _ _ _ (pv 1)
      pa_nil
      (by rfl)))
      pa_nil
      (by rfl))
      (by rfl)))
      (fun _ _ => rfl))))
      (@pss_cons _ _ _ _ _ (ps_nput hw (Room.units3 hr) (pv 3) (pv 6) (pe_callB (call_sortN hw rfl (Room.units12 hr)) rfl T.b_sorted PyProof.Rows.Boot.«sorted» (@pa_cons _ _ _ _ _ (pe_callTy (call_setN (K := K) rfl hw rfl (Room.units12 hr)) rfl T.b_set PyProof.Rows.Boot.«set» (@pa_cons _ _ _ _ _ (pv 7)
      pa_nil
      (by rfl)))
      pa_nil
      (by rfl))) rfl)
      (@pss_one _ _ _ (ps_nput hw (Room.units3 hr) (pv 4) (pv 6) (pe_comp (Nc := ["_law_k", "_law_xs"]) (ix := [none, some 1]) (CompOk.of (by decide +kernel : compChk (defScope s__law_net) ["_law_cell", "_law_xs", "_law_nodes_here", "_law_net_here", "_law_marks", "_law_length", "_law_node", "_law_there", "_law_begins"] ["_law_k", "_law_xs"] [none, some 1] _ = true)) rfl (pi_range1 rfl T.b_range (@pa_cons _ _ _ _ _ (pv 5)
      pa_nil
      (by rfl))) (fun _ _ _ _ _ => (pg_name (i := 0) (show List.Nodup (["_law_k", "_law_xs"] : List Str) by decide +kernel) rfl (by first | exact Or.inl rfl | exact Or.inr rfl))) (fun _ _ _ _ _ => pts_nil) (fun _ _ _ _ _ => (@pe_cmpR _ _ _ _ _ _ _ _ op_eq
      (pe_call G__law_taken (hr.mono (by decide)) rfl T.g__law_taken T.f__law_taken.kp T.n__law_taken .nil pass0 (@pa_cons _ _ _ _ _ (pv 1)
      (@pa_cons _ _ _ _ _ pe_int
      pa_nil
      (by rfl))
      (by rfl)))
      pe_int
      (nomark _)))) rfl)))))
      (@pss_cons _ _ _ _ _ (ps_setComp (i := 8) sc__law_net.nd rfl rfl (Nc := ["_law_k", "_law_nodes_here", "_law_xs"]) (ix := [none, some 2, some 1]) (CompOk.of (by decide +kernel : compChk (defScope s__law_net) ["_law_cell", "_law_xs", "_law_nodes_here", "_law_net_here", "_law_marks", "_law_length", "_law_node", "_law_there", "_law_begins"] ["_law_k", "_law_nodes_here", "_law_xs"] [none, some 2, some 1] _ = true)) rfl (pi_range1 rfl T.b_range (@pa_cons _ _ _ _ _ (pe_call G__law_taken (hr.mono (by decide)) rfl T.g__law_taken T.f__law_taken.kp T.n__law_taken .nil pass0 (@pa_cons _ _ _ _ _ (pv 1)
      (@pa_cons _ _ _ _ _ pe_int
      pa_nil
      (by rfl))
      (by rfl)))
      pa_nil
      (by rfl))) (fun _ _ _ _ _ => (pg_name (i := 0) (show List.Nodup (["_law_k", "_law_nodes_here", "_law_xs"] : List Str) by decide +kernel) rfl (by first | exact Or.inl rfl | exact Or.inr rfl))) (fun _ _ _ _ _ => pts_nil) (fun _ _ _ _ _ => (@pe_ix _ _ _ _ _ _ _ (ix_listK (K := K) rfl)
      (pv 1)
      (pe_call G__law_taken (hr.mono (by decide)) rfl T.g__law_taken T.f__law_taken.kp T.n__law_taken .nil pass0 (@pa_cons _ _ _ _ _ (pv 2)
      (@pa_cons _ _ _ _ _ (pe_callB (call_lenK (K := K) rfl) rfl T.b_len PyProof.Rows.Boot.«len» (@pa_cons _ _ _ _ _ (pv 1)
      pa_nil
      (by rfl)))
      pa_nil
      (by rfl))
      (by rfl)))
      (fun _ _ => rfl))))
      (@pss_one _ _ _ (@ps_ret _ _ _ _ (@pe_tup _ _ _ _ _ (@pa_c _ _ _ _ _ (pv 2)
      (@pa_c _ _ _ _ _ (pv 3)
      (@pa_c _ _ _ _ _ (pv 4)
      (@pa_c _ _ _ _ _ (pv 8)
      pa_nil
      (by rfl))
      (by rfl))
      (by rfl))
      (by rfl))))))))))), ?_⟩
    refine ⟨_, rfl, c, rfl, fun H1 L nv κ s1 L0 hL an hκ ne l12 => ?_⟩
    obtain ⟨nd, nn⟩ := an.list
    have nl := nn.len
    have hp1 := s1 _ _ hp
    have nLp : L ≠ p := fun e => by rw [e, hp] at L0; cases L0
    intro na hna
    have s12 := same_upd (o := DnO a.Pm na []) hna
    have g2 : (upd H1 na (DnO a.Pm na [])) na = some (DnO a.Pm na []) := upd_same
    generalize upd H1 na (DnO a.Pm na []) = H2 at s12 g2 ⊢
    intro ma hma
    have s23 := same_upd (o := DnO a.Pm ma []) hma
    have g3 : (upd H2 ma (DnO a.Pm ma [])) ma = some (DnO a.Pm ma []) := upd_same
    have g3n := s23 _ _ g2
    generalize upd H2 ma (DnO a.Pm ma []) = H3 at s23 g3 g3n ⊢
    have s13 := s12.trans s23
    have nap : na ≠ p := fun e => by rw [e, hp1] at hna; cases hna
    have map_ : ma ≠ p := fun e => by rw [e, s12 _ _ hp1] at hma; cases hma
    have nma : na ≠ ma := fun e => by rw [← e, g2] at hma; cases hma
    have nLn : L ≠ na := fun e => by rw [e, hna] at hL; cases hL
    have nLm : L ≠ ma := fun e => by rw [e] at hL; rw [s12 _ _ hL] at hma; cases hma
    have hp3 := s13 _ _ hp1
    have hL3 := s13 _ _ hL
    refine ⟨_, rfl, p, ns, 4, rfl, by decide, hp3, fun H4 n4 ns4 x4 hp4 n40 n41 => ?_⟩
    refine ⟨by show 2 ≤ sizeLine; rw [sizeLine_eq]; decide, fun l hl => ?_⟩
    generalize hH5 : upd H4 l _ = H5
    have s45 : Same H4 H5 := by rw [← hH5]; exact same_upd hl
    have g5 : H5 l = some (.lst [.int n4, .int 6]) := by rw [← hH5]; exact upd_same
    clear hH5
    refine ⟨_, rfl, p, ns4, 9, rfl, by decide, s45 _ _ hp4, fun H6 n6 ns6 x6 hp6 n60 n61 => ?_⟩
    have nlp : l ≠ p := fun e => by rw [e, hp4] at hl; cases hl
    obtain ⟨m, m6, hat⟩ : ∃ m : Nat, m ≤ 6 ∧ atI [V.int n4, .int 6] (n6 / 8) = some (.int (m : Int)) := by
      have : n6 / 8 = 0 ∨ n6 / 8 = 1 := by omega
      rcases this with e | e
      · refine ⟨n4.toNat, by omega, ?_⟩
        rw [e, Int.toNat_of_nonneg n40]
        exact atI_nat (j := 0) rfl
      · rw [e]; exact ⟨6, by omega, atI_nat (j := 1) rfl⟩
    refine ⟨_, _, rfl, rfl, ⟨by decide, by decide⟩, l, _, _, _, rfl, rfl, SqL.of (x6 _ _ nlp g5), hat, ?_⟩
    have x36 : SameX p H3 H6 := x4.trans ((Same.x s45).trans x6)
    have hL6 := x36 _ _ nLp hL3
    have gn6 := x36 _ _ nap g3n
    have gm6 := x36 _ _ map_ g3
    have nn6 : NdL κ H6 nv nd := (nn.mono (Same.u s13)).mono (SameX.u x36 hp3 (fun _ z => by cases z))
    have x16 : SameX p H1 H6 := (Same.x s13).trans x36
    refine ⟨_, rfl, L, rfl, ⟨_, SqL.of hL6⟩, ?_⟩
    have SL : L ∉ [p, na, ma] := by simp [nLp, nLn, nLm]
    refine for_list (K := K) (xs := nv) (fun i σ H' => ∃ (z6 z7 z8 : Option V) (es es2 : NE) (ns' : List Int), σ = [some (.int c), some (.ref p), some (.ref L), some (.ref na), some (.ref ma), some (.int (m : Int)), z6, z7, z8] ∧ Keep [p, na, ma] H6 H' ∧ SameU H6 H' ∧ H' p = some (.lst (ns'.map V.int)) ∧ H' na = some (DnO a.Pm na es) ∧ H' ma = some (DnO a.Pm ma es2) ∧ NetB κ [p, na, ma] H' nd es ∧ MarkB κ [p, na, ma] H' m es2 ∧ es.length ≤ i ∧ es2.length ≤ i ∧ (∀ j, j < i → ∀ d, nd[j]? = some d → (valN es d).isSome = true ∧ (valN es2 d).isSome = true)) ?_ ?_ ?_ ?_
    · exact ⟨_, _, _, [], [], ns6, rfl, fun _ _ _ e => e, fun _ _ e => e, hp6, gn6, gm6, (fun e he => by cases he), (fun e he => by cases he), Nat.le_refl _, Nat.le_refl _, fun j hj => absurd hj (Nat.not_lt_zero _)⟩
    · rintro i σ H' hi ⟨z6, z7, z8, es, es2, ns', rfl, kp, _⟩
      exact SqL.of (kp _ _ SL hL6)
    · rintro i x σ H7 hx ⟨z6, z7, z8, es, es2, ns', rfl, kp, up, p7, n7, m7, nb, mb, le1, le2, hv⟩
      have hi : i < nv.length := (List.getElem?_eq_some_iff.mp hx).1
      have L7 := kp _ _ SL hL6
      have nn7 := nn6.mono up
      obtain ⟨d, ed, hd⟩ := nn7.get hx
      refine ⟨by show 5 ≤ sizeLine; rw [sizeLine_eq]; decide, fun l5 hl5 => ?_⟩
      generalize hH8 : upd H7 l5 _ = H8
      have s78 : Same H7 H8 := by rw [← hH8]; exact same_upd hl5
      have g8 : H8 l5 = some (.lst [.int 1, .int 2, .int 1, .int 3, .int 0]) := by rw [← hH8]; exact upd_same
      clear hH8
      refine ⟨_, rfl, p, ns', 5, rfl, by decide, s78 _ _ p7, fun H9 n9 ns9 x9 p9 n90 n91 => ?_⟩
      have nl5 : l5 ≠ p := fun e => by rw [e, p7] at hl5; cases hl5
      obtain ⟨q, q3, hat⟩ : ∃ q : Nat, q ≤ 3 ∧ atI [V.int 1, .int 2, .int 1, .int 3, .int 0] n9 = some (.int (q : Int)) := by
        have : n9 = 0 ∨ n9 = 1 ∨ n9 = 2 ∨ n9 = 3 ∨ n9 = 4 := by omega
        rcases this with e | e | e | e | e <;> rw [e]
        · exact ⟨1, by omega, atI_nat (j := 0) rfl⟩
        · exact ⟨2, by omega, atI_nat (j := 1) rfl⟩
        · exact ⟨1, by omega, atI_nat (j := 2) rfl⟩
        · exact ⟨3, by omega, atI_nat (j := 3) rfl⟩
        · exact ⟨0, by omega, atI_nat (j := 4) rfl⟩
      have x79 : SameX p H7 H9 := (Same.x s78).trans x9
      have u79 : SameU H7 H9 := SameX.u x79 p7 (fun _ z => by cases z)
      refine ⟨l5, _, _, _, rfl, rfl, SqL.of (x9 _ _ nl5 g8), hat, _, rfl, by omega, by omega, fun D hD => ?_⟩
      show CompW (Itr 0 q) D _ _ _ [none, some (.ref L), some (.ref p)] H9 _
      refine pick_comp hD (x79 _ _ nLp L7) nLp p9 (nn7.mono u79) (fun e => by rw [e] at nl; exact ne (List.length_eq_zero_iff.mp nl)) q3 fun H10 us ds ns10 x10 p10 d10 nu dn l3 => ?_
      have x710 : SameX p H7 H10 := x79.trans x10
      have u710 : SameU H7 H10 := SameX.u x710 p7 (fun _ z => by cases z)
      have lu := nu.len
      have n10 := x710 _ _ nap n7
      have m10 := x710 _ _ map_ m7
      have dS : D ∉ [p, na, ma] := by
        have a1 : D ≠ p := fun e => by rw [e, p9] at hD; cases hD
        have a2 : D ≠ na := fun e => by rw [e, x79 _ _ nap n7] at hD; cases hD
        have a3 : D ≠ ma := fun e => by rw [e, x79 _ _ map_ m7] at hD; cases hD
        simp [a1, a2, a3]
      refine ⟨_, rfl, D, us, κ, rfl, SqL.of d10, nu.all, hκ, by omega, fun S hS => ?_⟩
      have s11 := same_upd (o := SnO a.Pm S us) hS
      have g11 : (upd H10 S (SnO a.Pm S us)) S = some (SnO a.Pm S us) := upd_same
      generalize upd H10 S (SnO a.Pm S us) = H11 at s11 g11 ⊢
      refine ⟨S, us, κ, rfl, g11, (nu.mono (Same.u s11)).all, hκ, by omega, fun L2 out hL2 mo lo ho => ?_⟩
      have s12' := same_upd (o := .lst out) hL2
      have g12 : (upd H11 L2 (.lst out)) L2 = some (.lst out) := upd_same
      generalize upd H11 L2 (.lst out) = H12 at s12' g12 ⊢
      have s1012 := s11.trans s12'
      have u712 : SameU H7 H12 := fun b xs e => s1012 _ _ (u710 b xs e)
      have k712 : Keep [p, na, ma] H7 H12 := (SameX.k x710 (by simp)).trans (Same.k s1012)
      obtain ⟨od, no, odn⟩ := in_list (κ := κ) (H := H12) (nd := nd) (out := out) fun v hv' => in_of (nu.mono (Same.u s1012)) dn v (mo v hv')
      have l2S : L2 ∉ [p, na, ma] := by
        have a1 : L2 ≠ p := fun e => by rw [e, s11 _ _ p10] at hL2; cases hL2
        have a2 : L2 ≠ na := fun e => by rw [e, s11 _ _ n10] at hL2; cases hL2
        have a3 : L2 ≠ ma := fun e => by rw [e, s11 _ _ m10] at hL2; cases hL2
        simp [a1, a2, a3]
      have nb12 := nb.mono k712 u712
      have mb12 := mb.mono k712 u712
      have hd12 := hd.mono u712
      refine ⟨_, rfl, _, rfl, na, es, κ, d, rfl, s1012 _ _ n10, fun e he => (nb12 e he).1, hd12, by rw [sizeLine_eq]; omega, ?_⟩
      have k13 : Keep [p, na, ma] H12 (upd H12 na (DnO a.Pm na (putN es d x (.ref L2)))) := Keep.updK (by simp)
      have u13 : SameU H12 (upd H12 na (DnO a.Pm na (putN es d x (.ref L2)))) := SameX.u ((SameX.refl H12).upd) (s1012 _ _ n10) (fun _ z => by cases z)
      have g13 : (upd H12 na (DnO a.Pm na (putN es d x (.ref L2)))) na = some (DnO a.Pm na (putN es d x (.ref L2))) := upd_same
      have p13 := updK (o' := DnO a.Pm na (putN es d x (.ref L2))) (s1012 _ _ p10) nap.symm
      have m13 := updK (o' := DnO a.Pm na (putN es d x (.ref L2))) (s1012 _ _ m10) nma.symm
      have ll := no.len
      have nb13 := (nb12.put hd12 l2S g12 no odn (by omega)).mono k13 u13
      have mb13 := mb12.mono k13 u13
      have hd13 := hd12.mono u13
      have le13 := putN_len es d x (.ref L2)
      generalize upd H12 na (DnO a.Pm na (putN es d x (.ref L2))) = H13 at k13 u13 g13 p13 m13 nb13 mb13 hd13 ⊢
      refine ⟨_, rfl, _, rfl, by omega, by omega, fun D2 hD2 => ?_⟩
      show CompW (Itr 0 m) D2 _ _ _ [none, some (.ref p)] H13 _
      refine mark_comp hD2 p13 m6 fun H14 bs ns14 x14 p14 d14 lbs => ?_
      have u14 : SameU H13 H14 := SameX.u x14 p13 (fun _ z => by cases z)
      have k14 : Keep [p, na, ma] H13 H14 := SameX.k x14 (by simp)
      have n14 := x14 _ _ nap g13
      have m14 := x14 _ _ map_ m13
      have d2S : D2 ∉ [p, na, ma] := by
        have a1 : D2 ≠ p := fun e => by rw [e, p13] at hD2; cases hD2
        have a2 : D2 ≠ na := fun e => by rw [e, g13] at hD2; cases hD2
        have a3 : D2 ≠ ma := fun e => by rw [e, m13] at hD2; cases hD2
        simp [a1, a2, a3]
      have mb14 := mb13.mono k14 u14
      have hd14 := hd13.mono u14
      refine ⟨_, rfl, _, rfl, ma, es2, κ, d, rfl, m14, fun e he => (mb14 e he).1, hd14, by rw [sizeLine_eq]; omega, ?_⟩
      have k15 : Keep [p, na, ma] H14 (upd H14 ma (DnO a.Pm ma (putN es2 d x (.ref D2)))) := Keep.updK (by simp)
      have u15 : SameU H14 (upd H14 ma (DnO a.Pm ma (putN es2 d x (.ref D2)))) := SameX.u ((SameX.refl H14).upd) m14 (fun _ z => by cases z)
      have le15 := putN_len es2 d x (.ref D2)
      refine ⟨_, _, _, putN es d x (.ref L2), putN es2 d x (.ref D2), ns14, rfl, (((kp.trans k712).trans k13).trans k14).trans k15, fun b xs e => u15 b xs (u14 b xs (u13 b xs (u712 b xs (up b xs e)))), updK p14 map_.symm, updK n14 nma, upd_same, (nb13.mono k14 u14).mono k15 u15, (mb14.put hd14 d2S d14 lbs).mono k15 u15, by omega, by omega, fun j hj e ee => ?_⟩
      rw [valN_put, valN_put]
      by_cases c1 : e = d
      · rw [if_pos c1, if_pos c1]; exact ⟨rfl, rfl⟩
      · rw [if_neg c1, if_neg c1]
        refine hv j ?_ e ee
        rcases Nat.lt_or_ge j i with h | h
        · exact h
        · have : j = i := by omega
          subst this
          rw [ed] at ee
          exact absurd (Option.some.inj ee).symm c1
    · rintro σ H7 ⟨z6, z7, z8, es, es2, ns', rfl, kp, up, p7, n7, m7, nb, mb, le1, le2, hv⟩
      have L7 := kp _ _ SL hL6
      have nn7 := nn6.mono up
      refine ⟨_, rfl, p, ns', 4, rfl, by decide, p7, fun H9 n9 ns9 x9 p9 n90 n91 => ?_⟩
      have u79 : SameU H7 H9 := SameX.u x9 p7 (fun _ z => by cases z)
      obtain ⟨q, rfl⟩ : ∃ q : Nat, n9 = q := ⟨n9.toNat, by omega⟩
      refine ⟨_, rfl, by omega, by omega, fun D hD => ?_⟩
      show CompW (Itr 0 q) D _ _ _ [none, some (.ref L), some (.ref p)] H9 _
      refine pick_comp hD (x9 _ _ nLp L7) nLp p9 (nn7.mono u79) (fun e => by rw [e] at nl; exact ne (List.length_eq_zero_iff.mp nl)) (by omega) fun H10 us ds ns10 x10 p10 d10 nu dn l3 => ?_
      have x710 : SameX p H7 H10 := x9.trans x10
      have u710 : SameU H7 H10 := SameX.u x710 p7 (fun _ z => by cases z)
      refine ⟨_, rfl, _, rfl, _, rfl, _, rfl, by show 4 ≤ sizeLine; rw [sizeLine_eq]; decide, fun t ht => ?_⟩
      generalize hH11 : upd H10 t _ = H11
      have s11 : Same H10 H11 := by rw [← hH11]; exact same_upd ht
      have g11 : H11 t = some (.tup [.ref L, .ref na, .ref ma, .ref D]) := by rw [← hH11]; exact upd_same
      clear hH11
      have k711 : Keep [p, na, ma] H7 H11 := (SameX.k x710 (by simp)).trans (Same.k s11)
      have u711 : SameU H7 H11 := fun b xs e => s11 _ _ (u710 b xs e)
      have all : ∀ d ∈ nd, (valN es d).isSome = true ∧ (valN es2 d).isSome = true := fun d hd => by
        obtain ⟨j, hj, e⟩ := List.getElem_of_mem hd
        exact hv j (by omega) d (by rw [List.getElem?_eq_getElem hj, e])
      obtain ⟨N, hN⟩ := (nb.mono k711 u711).ok (Pm := a.Pm) (s11 _ _ (x710 _ _ nap n7)) fun d hd => (all d hd).1
      obtain ⟨M, hM⟩ := (mb.mono k711 u711).ok (Pm := a.Pm) (s11 _ _ (x710 _ _ map_ m7)) (by omega) fun d hd => (all d hd).2
      refine k H11 t L na ma D κ nv nd es es2 N M m us ds ?_ g11 (k711 _ _ SL L7) (nn7.mono u711) (fun e => by rw [e] at nl; exact ne (List.length_eq_zero_iff.mp nl)) (by omega) hN hM (s11 _ _ d10) (nu.mono (Same.u s11)) l3 dn hκ
      intro b o hb e
      have e6 := x16 b o hb (s1 b o e)
      have nb2 : b ∉ [p, na, ma] := by
        have a2 : b ≠ na := fun z => by rw [z] at e; rw [s1 _ _ e] at hna; cases hna
        have a3 : b ≠ ma := fun z => by rw [z] at e; rw [s12 _ _ (s1 _ _ e)] at hma; cases hma
        simp [hb, a2, a3]
      exact k711 b o nb2 (kp b o nb2 e6)
end KK

set_option Elab.async false
set_option linter.all false
set_option maxRecDepth 100000
set_option maxHeartbeats 8000000
namespace KK
open PySem PySem.Spec L2 L3
theorem ndl_last {κ : Nat} {H : Hp} : ∀ {vs : List V} {ds : List ND}, NdL κ H vs ds → ds ≠ [] → ∃ vi v di d, vs = vi ++ [v] ∧ ds = di ++ [d] ∧ NdL κ H vi di ∧ Nd κ H v d
  | _, _, .nil, h => absurd rfl h
  | _, _, .cons q .nil, _ => ⟨[], _, [], _, rfl, rfl, .nil, q⟩
  | _, _, .cons q (.cons q2 t), _ => by
    obtain ⟨vi, v, di, d, e1, e2, a, b⟩ := ndl_last (.cons q2 t) (by simp)
    exact ⟨_ :: vi, v, _ :: di, d, by rw [e1]; rfl, by rw [e2]; rfl, .cons q a, b⟩
theorem nIn {K : PySem.W.Frag} {κ : Nat} {H : Hp} {S : Addr} {ri : List V} {di : List ND} {v : V} {e : ND} {Q : VK} (hS : H S = some (.lst ri)) (nr : NdL κ H ri di) (hv : Nd κ H v e) (q1 : e ∈ di → Q (.bl false) H) (q2 : e ∉ di → Q (.bl true) H) : rInB K true v (.ref S) H Q := by
  refine ⟨di.map toD, toD e, .lst (SqL.of hS) nr.dp, hv.dp, (fineNs nr.ok).1, (toD_fine hv.ok).1, Nat.le_trans (toD_fine hv.ok).2 (by decide), ?_⟩
  rw [if_pos rfl, any_toD nr.ok hv.ok]
  by_cases h : e ∈ di
  · have : (di.any fun x => decide (x = e)) = true := List.any_eq_true.mpr ⟨e, h, by simp⟩
    rw [this]; exact q1 h
  · have : (di.any fun x => decide (x = e)) = false := by
      rw [List.any_eq_false]; intro x hx hc; exact h (by rw [← of_decide_eq_true hc]; exact hx)
    rw [this]; exact q2 h
theorem neNil {K : PySem.W.Frag} {κ : Nat} {H : Hp} {l b : Addr} {vs : List V} {ds : List ND} {Q : VK} (hl : H l = some (.lst vs)) (nl : NdL κ H vs ds) (hb : H b = some (.lst [])) (q1 : ds = [] → Q (.bl false) H) (q2 : ds ≠ [] → Q (.bl true) H) : rEqD K true (.ref l) (.ref b) H Q := by
  have f := fineNs nl.ok
  refine ⟨.list (ds.map toD), .list [], .lst (SqL.of hl) nl.dp, .lst (SqL.of hb) .nil, by rw [PyData.canLay0]; exact f.1, by simp [PyData.canLay0, PyData.canLayAll0], by rw [PyData.depth]; omega, ?_⟩
  cases ds with
  | nil => simpa [PyData.eqv, PyData.eqvAll] using q1 rfl
  | cons x r => simpa [PyData.eqv, PyData.eqvAll] using q2 (by simp)
def sp__law_walk (K : PySem.W.Frag) (a : Adr) : Sp := fun vs H Q _ => ∃ (κ : Nat) (net p : Addr) (ns : List Int) (es : NE) (N : ND → List ND) (nd : List ND) (x : V) (d : ND), vs = [.ref net, .ref p, x] ∧ H p = some (.lst (ns.map V.int)) ∧ NetOk κ a.Pm (hide p H) net es N nd ∧ nd.length ≤ 12 ∧ Nd κ H x d ∧ d ∈ nd ∧ (∀ H' (ns' : List Int), SameX p H H' → H' p = some (.lst (ns'.map V.int)) → Q .non H') ∧ ∀ H' t w r wv rv wd rd (ns' : List Int), SameX p H H' → H' p = some (.lst (ns'.map V.int)) → H' t = some (.tup [.ref w, .ref r]) → H' w = some (.lst wv) → H' r = some (.lst rv) → NdL κ H' wv wd → NdL κ H' rv rd → (∀ d ∈ wd, d ∈ nd) → (∀ d ∈ rd, d ∈ nd) → rd ≠ [] → wd.length ≤ 13 → rd.length ≤ 13 → w ≠ p → r ≠ p → Q (.ref t) H'
theorem hide_x {p : Addr} {H H' : Hp} (x : SameX p H H') : Same (hide p H) (hide p H') := fun b o e => by
  obtain ⟨n, e⟩ := hide_some e
  exact hide_mk n (x b o n e)
theorem ok__law_walk {P : Program} {w : World} {K : PySem.W.Frag} {mg : Str → Option Value} {base : Heap} {a : Adr} (T : Txt K mg a) (hw : w.params = a.Pm) : FnOk P w K mg base CX0 2 a._law_walk a._law_walk_fd ["_law_net_here", "_law_xs", "_law_node"] (sp__law_walk K a) := by
  have G__law_taken := ok__law_taken (P := P) (w := w) (base := base) T hw
  refine T.f__law_walk.ok sc__law_walk (fun vs H Q E h => ?_) (fun cdv A outer s H vs Q E hr h => ?_)
  · obtain ⟨κ, net, p, ns, es, N, nd, x, d, rfl, _⟩ := h
    rfl
  · obtain ⟨κ, net, p, ns, es, N, nd, x, d, rfl, hp, hN, l12, hx, dn, k1, k2⟩ := h
    refine ⟨_, (@pss_cons _ _ _ _ _ (@ps_set _ _ (3) _ _ _ _ sc__law_walk.nd
      rfl
      (by first | exact Or.inl rfl | exact Or.inr rfl)
      (@pe_lst _ _ _ _ (@pa_cons _ _ _ _ _ (pv 2)
      pa_nil
      (by rfl)))
      (by rfl)
      (by first | exact .inl rfl | exact .inr rfl | assumption))
      (@pss_cons _ _ _ _ _ (ps_while PassesOwn.never (PW.pt (pw_and (@pt_cmpR _ _ _ _ _ _ _ _ (op_notInB (K := K) rfl (Room.units2 hr))
      (@pe_ix _ _ _ _ _ _ _ (ix_listK (K := K) rfl)
      (pv 3)
      (pe_un un_neg pe_int)
      (fun _ _ => rfl))
      (pe_slice (sl_listK (K := K) rfl) (pv 3) po_none (po_some (pe_un un_neg pe_int)))
      (by with_unfolding_all rfl)) (pw_and1 (@pt_cmpR _ _ _ _ _ _ _ _ (op_neDK (K := K) rfl (Room.units hr))
      (pe_nget hw (Room.units3 hr) (pv 0) (@pe_ix _ _ _ _ _ _ _ (ix_listK (K := K) rfl)
      (pv 3)
      (pe_un un_neg pe_int)
      (fun _ _ => rfl)) (fun _ _ => rfl))
      (@pe_lst _ _ _ _ pa_nil)
      (nomark _))))) (@pss_cons _ _ _ _ _ (@ps_set _ _ (4) _ _ _ _ sc__law_walk.nd
      rfl
      (by first | exact Or.inl rfl | exact Or.inr rfl)
      (pe_nget hw (Room.units3 hr) (pv 0) (@pe_ix _ _ _ _ _ _ _ (ix_listK (K := K) rfl)
      (pv 3)
      (pe_un un_neg pe_int)
      (fun _ _ => rfl)) (fun _ _ => rfl))
      (by rfl)
      (by first | exact .inl rfl | exact .inr rfl | assumption))
      (@pss_one _ _ _ (@ps_expr _ _ _ _ (pe_bm PySem.F.plainAttrs_list PySem.F.slot_list_append PySem.F.type_list_append mt_append (pv 3) (@pa_cons _ _ _ _ _ (@pe_ix _ _ _ _ _ _ _ (ix_listK (K := K) rfl)
      (pv 4)
      (pe_call G__law_taken (hr.mono (by decide)) rfl T.g__law_taken T.f__law_taken.kp T.n__law_taken .nil pass0 (@pa_cons _ _ _ _ _ (pv 1)
      (@pa_cons _ _ _ _ _ (pe_callB (call_lenK (K := K) rfl) rfl T.b_len PyProof.Rows.Boot.«len» (@pa_cons _ _ _ _ _ (pv 4)
      pa_nil
      (by rfl)))
      pa_nil
      (by rfl))
      (by rfl)))
      (fun _ _ => rfl))
      pa_nil
      (by rfl)))
      (by rfl)))))
      (@pss_cons _ _ _ _ _ (@ps_if _ _ _ _ _ _ _ _ (@pt_cmpR _ _ _ _ _ _ _ _ (op_notInB (K := K) rfl (Room.units2 hr))
      (@pe_ix _ _ _ _ _ _ _ (ix_listK (K := K) rfl)
      (pv 3)
      (pe_un un_neg pe_int)
      (fun _ _ => rfl))
      (pe_slice (sl_listK (K := K) rfl) (pv 3) po_none (po_some (pe_un un_neg pe_int)))
      (by with_unfolding_all rfl))
      (@pss_one _ _ _ (@ps_ret _ _ _ _ pe_non))
      pss_nil)
      (@pss_cons _ _ _ _ _ (@ps_set _ _ (5) _ _ _ _ sc__law_walk.nd
      rfl
      (by first | exact Or.inl rfl | exact Or.inr rfl)
      (pe_bm PySem.F.plainAttrs_list PySem.F.slot_list_index PySem.F.type_list_index (mt_indexN (Room.units hr)) (pv 3) (@pa_cons _ _ _ _ _ (@pe_ix _ _ _ _ _ _ _ (ix_listK (K := K) rfl)
      (pv 3)
      (pe_un un_neg pe_int)
      (fun _ _ => rfl))
      pa_nil
      (by rfl)))
      (by rfl)
      (by first | exact .inl rfl | exact .inr rfl | assumption))
      (@pss_one _ _ _ (@ps_ret _ _ _ _ (@pe_tup _ _ _ _ _ (@pa_cons _ _ _ _ _ (pe_slice (sl_listK (K := K) rfl) (pv 3) po_none (po_some (pv 5)))
      (@pa_cons _ _ _ _ _ (pe_slice (sl_listK (K := K) rfl) (pv 3) (po_some (pv 5)) (po_some (pe_un un_neg pe_int)))
      pa_nil
      (by rfl))
      (by rfl))))))))), ?_⟩
    refine ⟨_, rfl, by show 1 ≤ sizeLine; rw [sizeLine_eq]; decide, fun R hR => ?_⟩
    have nRp : R ≠ p := fun e => by rw [e, hp] at hR; cases hR
    have s1 := same_upd (o := .lst [x]) hR
    have e1 : (upd H R (.lst [x])) R = some (.lst [x]) := upd_same
    generalize upd H R (.lst [x]) = H1 at s1 e1 ⊢
    refine ⟨fun n σ H' => ∃ (z4 z5 : Option V) (rv : List V) (ds : List ND) (ns' : List Int), σ = [some (.ref net), some (.ref p), some x, some (.ref R), z4, z5] ∧ SameX p H H' ∧ H' p = some (.lst (ns'.map V.int)) ∧ H' R = some (.lst rv) ∧ NdL κ H' rv ds ∧ (∀ d ∈ ds, d ∈ nd) ∧ ds ≠ [] ∧ ds.dropLast.Nodup ∧ n = 14 - ds.length, ⟨_, _, _, [x], [d], ns, rfl, Same.x s1, s1 _ _ hp, e1, .cons (hx.mono (Same.u s1)) .nil, (fun e he => by rw [List.mem_singleton] at he; subst he; exact dn), by simp, by simp, rfl⟩, ?_⟩
    clear e1 s1 H1
    rintro n σ H1 ⟨z4, z5, rv, ds, ns1, rfl, x1, p1, r1, nr, dsn, dne, dnd, rfl⟩
    obtain ⟨ri, v, di, e, rfl, rfl, nri, hv⟩ := ndl_last nr dne
    rw [List.dropLast_concat] at dnd
    have en : e ∈ nd := dsn e (by simp)
    have din : ∀ d ∈ di, d ∈ nd := fun d hd => dsn d (by simp [hd])
    have ldi := nodup_few dnd din
    have lri := nri.len
    have atl := L2.atI_last ri v
    refine ⟨_, rfl, _, rfl, R, _, _, v, rfl, rfl, SqL.of r1, atl, _, rfl, _, rfl, _, rfl, R, _, rfl, SqL.of r1, fun S hS => ?_⟩
    have cut : cutV (ri ++ [v]) none (some (-1)) = ri := by rw [cut_init _ (by simp)]; simp
    rw [cut]
    have nSR : R ≠ S := fun q => by rw [q, hS] at r1; cases r1
    have s2 := same_upd (o := .lst ri) hS
    have g2 : (upd H1 S (.lst ri)) S = some (.lst ri) := upd_same
    generalize upd H1 S (.lst ri) = H2 at s2 g2 ⊢
    have x2 : SameX p H H2 := x1.trans (Same.x s2)
    have p2 := s2 _ _ p1
    have r2 := s2 _ _ r1
    have nri2 := nri.mono (Same.u s2)
    have hv2 := hv.mono (Same.u s2)
    refine nIn g2 nri2 hv2 (fun hin => ⟨_, rfl, iteF (iteF ?_)⟩) (fun hout => ⟨_, rfl, iteT ?_⟩)
    · obtain ⟨j, j1, j2⟩ := first_at hin
      have hj : j < di.length := (List.getElem?_eq_some_iff.mp j1).1
      refine ⟨_, rfl, _, rfl, R, _, _, v, rfl, rfl, SqL.of r2, atl, _, rfl, _, rfl, _, rfl, R, _, rfl, SqL.of r2, fun S2 hS2 => ?_⟩
      rw [cut]
      have s3 := same_upd (o := .lst ri) hS2
      have g3 : (upd H2 S2 (.lst ri)) S2 = some (.lst ri) := upd_same
      generalize upd H2 S2 (.lst ri) = H3 at s3 g3 ⊢
      have nri3 := nri2.mono (Same.u s3)
      have hv3 := hv2.mono (Same.u s3)
      have r3 := s3 _ _ r2
      refine nIn g3 nri3 hv3 (fun _ => ⟨_, rfl, iteF ?_⟩) (fun hout => absurd hin hout)
      refine ⟨_, rfl, .inl ⟨rfl, _, SqL.of r3⟩, _, rfl, _, rfl, R, _, _, v, rfl, rfl, SqL.of r3, atl, R, _, v, j, κ, di ++ [e], e, rfl, rfl, r3, nri3.app (.cons hv3 .nil), hv3, by rw [List.getElem?_append_left hj]; exact j1, fun m hm => by rw [List.getElem?_append_left (by omega)]; exact j2 m hm, ?_⟩
      refine ⟨_, rfl, _, rfl, _, rfl, R, _, rfl, SqL.of r3, fun W hW => ?_⟩
      rw [cutV_to _ j (by rw [List.length_append]; omega)]
      have s4 := same_upd (o := .lst ((ri ++ [v]).take j)) hW
      have g4 : (upd H3 W (.lst ((ri ++ [v]).take j))) W = some (.lst ((ri ++ [v]).take j)) := upd_same
      generalize upd H3 W (.lst ((ri ++ [v]).take j)) = H4 at s4 g4 ⊢
      refine ⟨_, rfl, _, rfl, _, rfl, _, rfl, _, rfl, R, _, rfl, SqL.of (s4 _ _ r3), fun Z hZ => ?_⟩
      rw [cut_mid _ j (by rw [List.length_append]; omega)]
      have ez : ((ri ++ [v]).drop j).take ((ri ++ [v]).length - 1 - j) = ri.drop j := by
        rw [List.drop_append_of_le_length (by omega), List.length_append, List.length_singleton, List.take_append_of_le_length (by rw [List.length_drop]; omega), List.take_of_length_le (by rw [List.length_drop]; omega)]
      have ew : (ri ++ [v]).take j = ri.take j := by rw [List.take_append_of_le_length (by omega)]
      rw [ez]
      rw [ew] at g4
      have s5 := same_upd (o := .lst (ri.drop j)) hZ
      have g5 : (upd H4 Z (.lst (ri.drop j))) Z = some (.lst (ri.drop j)) := upd_same
      generalize upd H4 Z (.lst (ri.drop j)) = H5 at s5 g5 ⊢
      refine ⟨by show 2 ≤ sizeLine; rw [sizeLine_eq]; decide, fun t ht => ?_⟩
      have s6 := same_upd (o := .tup [.ref W, .ref Z]) ht
      have s26 := ((s3.trans s4).trans s5).trans s6
      have nri6 := nri2.mono (Same.u s26)
      refine k2 _ t W Z (ri.take j) (ri.drop j) (di.take j) (di.drop j) ns1 (x2.trans (Same.x s26)) (s26 _ _ p2) upd_same ((s5.trans s6) _ _ g4) (s6 _ _ g5) (nri6.take j) (nri6.drop j) (fun d hd => din d (List.mem_of_mem_take hd)) (fun d hd => din d (List.mem_of_mem_drop hd)) ?_ (by rw [List.length_take]; omega) (by rw [List.length_drop]; omega) ?_ ?_
      · intro q
        have := congrArg List.length q
        rw [List.length_drop] at this
        simp at this
        omega
      · intro q; rw [q, s3 _ _ p2] at hW; cases hW
      · intro q; rw [q, s4 _ _ (s3 _ _ p2)] at hZ; cases hZ
    · have hN2h := hN.mono (hide_x x2)
      have hN2 := hN2h.mono hide_sub
      obtain ⟨lv, elv⟩ := hN2.has e en
      obtain ⟨l, ws, rfl, hlh, nw⟩ := hN2h.val e lv elv
      obtain ⟨nlp, hl⟩ := hide_some hlh
      have nw2 := nw.mono (Same.u hide_sub)
      refine ⟨_, rfl, _, rfl, _, rfl, R, _, _, v, rfl, rfl, SqL.of r2, atl, net, es, κ, e, _, rfl, hN2.at_, hN2.keys, hv2, elv, by decide, fun B hB => ?_⟩
      have s3 := same_upd (o := .lst []) hB
      have g3 : (upd H2 B (.lst [])) B = some (.lst []) := upd_same
      generalize upd H2 B (.lst []) = H3 at s3 g3 ⊢
      have x3 : SameX p H H3 := x2.trans (Same.x s3)
      have p3 := s3 _ _ p2
      have r3 := s3 _ _ r2
      have nri3 := nri2.mono (Same.u s3)
      have hv3 := hv2.mono (Same.u s3)
      have nw3 := nw2.mono (Same.u s3)
      refine neNil (s3 _ _ hl) nw3 g3 (fun _ => ⟨_, rfl, iteF ?_⟩) (fun hne => ⟨_, rfl, iteT ?_⟩)
      · refine ⟨_, rfl, _, rfl, R, _, _, v, rfl, rfl, SqL.of r3, atl, _, rfl, _, rfl, _, rfl, R, _, rfl, SqL.of r3, fun S2 hS2 => ?_⟩
        rw [cut]
        have s4 := same_upd (o := .lst ri) hS2
        have g4 : (upd H3 S2 (.lst ri)) S2 = some (.lst ri) := upd_same
        generalize upd H3 S2 (.lst ri) = H4 at s4 g4 ⊢
        exact nIn g4 (nri3.mono (Same.u s4)) (hv3.mono (Same.u s4)) (fun hin => absurd hin hout) (fun _ => ⟨_, rfl, iteT (k1 _ ns1 (x3.trans (Same.x s4)) (s4 _ _ p3))⟩)
      · have nd2 : (di ++ [e]).Nodup := by
          rw [List.nodup_append]
          exact ⟨dnd, by simp, fun a ha b hb q => by rw [List.mem_singleton] at hb; subst hb; subst q; exact hout ha⟩
        have l12' := nodup_few nd2 (fun d hd => dsn d hd)
        refine ⟨fun σ H' => ∃ (z4 z5 : Option V) (rv : List V) (ds : List ND) (ns' : List Int), σ = [some (.ref net), some (.ref p), some x, some (.ref R), z4, z5] ∧ SameX p H H' ∧ H' p = some (.lst (ns'.map V.int)) ∧ H' R = some (.lst rv) ∧ NdL κ H' rv ds ∧ (∀ d ∈ ds, d ∈ nd) ∧ ds ≠ [] ∧ ds.dropLast.Nodup ∧ ds.length = (di ++ [e]).length + 1, ?_, ?_⟩
        · rintro σ' H' ⟨z4', z5', rv', ds', ns', rfl, a1, a2, a3, a4, a5, a6, a7, a8⟩
          exact ⟨14 - ds'.length, by omega, z4', z5', rv', ds', ns', rfl, a1, a2, a3, a4, a5, a6, a7, rfl⟩
        · have hN3h := hN.mono (hide_x x3)
          have hN3 := hN3h.mono hide_sub
          have lws := nw3.len
          have lw0 := List.length_pos_iff.mpr hne
          refine ⟨_, rfl, _, rfl, _, rfl, R, _, _, v, rfl, rfl, SqL.of r3, atl, net, es, κ, e, .ref l, rfl, hN3.at_, hN3.keys, hv3, elv, ?_⟩
          refine ⟨_, rfl, .inl ⟨rfl, _, SqL.of r3⟩, _, rfl, _, rfl, _, rfl, .inl ⟨l, _, rfl, .inl (SqL.of (s3 _ _ hl)), p, ns1, _, rfl, by omega, p3, fun H4 n4 ns4 x4 p4 n0 n1 => ?_⟩⟩
          have u4 : SameU H3 H4 := SameX.u x4 p3 (fun _ z => by cases z)
          obtain ⟨q, rfl⟩ : ∃ q : Nat, n4 = q := ⟨n4.toNat, by omega⟩
          have hq : q < ws.length := by omega
          obtain ⟨f, ef, hf⟩ := nw3.get (List.getElem?_eq_getElem hq)
          have r4 := x4 _ _ nRp r3
          refine ⟨l, _, _, ws[q], rfl, rfl, SqL.of (x4 _ _ nlp (s3 _ _ hl)), atI_nat (List.getElem?_eq_getElem hq), R, _, _, rfl, rfl, r4, by rw [sizeLine_eq, List.length_append, List.length_singleton]; simp only [List.length_append, List.length_singleton] at l12'; omega, ?_⟩
          have u5 : SameU H4 (upd H4 R (.lst ((ri ++ [v]) ++ [ws[q]]))) := SameX.u ((SameX.refl H4).upd) r4 (fun _ z => by cases z)
          refine ⟨_, _, (ri ++ [v]) ++ [ws[q]], (di ++ [e]) ++ [f], ns4, rfl, (x3.trans x4).updN hR, updK p4 nRp.symm, upd_same, ?_, ?_, by simp, by rw [List.dropLast_concat]; exact nd2, by simp⟩
          · exact (((nri3.app (.cons hv3 .nil)).mono u4).mono u5).app (.cons ((hf.mono u4).mono u5) .nil)
          · intro d hd
            rcases List.mem_append.mp hd with h | h
            · exact dsn d h
            · rw [List.mem_singleton] at h; subst h; exact hN.sub e en d (List.mem_of_getElem? ef)
end KK

set_option Elab.async false
set_option linter.all false
set_option maxRecDepth 100000
set_option maxHeartbeats 8000000
namespace KK
open PySem PySem.Spec L2 L3
def sp__law_is_full (K : PySem.W.Frag) (a : Adr) : Sp := fun vs H Q _ => ∃ (κ : Nat) (net mk b w r : Addr) (es es2 : NE) (N : ND → List ND) (M : ND → List Bool) (n : Nat) (ns : List ND) (bv wv rv : List V) (bs wd rd : List ND), vs = [.ref net, .ref mk, .ref b, .ref w, .ref r] ∧ NetOk κ a.Pm H net es N ns ∧ MarkOk κ a.Pm H mk es2 M n ns ∧ H b = some (.lst bv) ∧ NdL κ H bv bs ∧ H w = some (.lst wv) ∧ NdL κ H wv wd ∧ H r = some (.lst rv) ∧ NdL κ H rv rd ∧ rd ≠ [] ∧ (∀ d ∈ wd, d ∈ ns) ∧ (∀ d ∈ rd, d ∈ ns) ∧ wd.length ≤ 300 ∧ rd.length ≤ 300 ∧ ∀ H', Same H H' → Q (.bl (lawFull N M n bs wd rd)) H'
theorem chain_split {N : ND → List ND} : ∀ {row : List ND} {i : Nat}, (∀ j, j < i → ∀ x y, row[j]? = some x → row[j + 1]? = some y → y ∈ N x) → row.length ≤ i + 1 → chain N row = true
  | [], _, _, _ => rfl
  | [_], _, _, _ => rfl
  | x :: y :: r, i, h, hl => by
    unfold chain
    have h0 := h 0 (by simp at hl; omega) x y rfl rfl
    rw [decide_eq_true h0, Bool.true_and]
    refine chain_split (i := i - 1) (fun j hj u v e1 e2 => h (j + 1) (by omega) u v (by simpa using e1) (by simpa using e2)) (by simp at hl ⊢; omega)
theorem chain_no {N : ND → List ND} : ∀ {row : List ND} {j : Nat} {x y : ND}, row[j]? = some x → row[j + 1]? = some y → y ∉ N x → chain N row = false
  | [], j, x, y, e, _, _ => by simp at e
  | [_], j, x, y, _, e, _ => by simp at e
  | u :: v :: r, 0, x, y, e1, e2, h => by
    simp at e1 e2; subst e1; subst e2
    unfold chain
    rw [decide_eq_false h, Bool.false_and]
  | u :: v :: r, j + 1, x, y, e1, e2, h => by
    unfold chain
    rw [chain_no (row := v :: r) (j := j) (by simpa using e1) (by simpa using e2) h, Bool.and_false]
theorem ok__law_is_full {P : Program} {w : World} {K : PySem.W.Frag} {mg : Str → Option Value} {base : Heap} {a : Adr} (T : Txt K mg a) (hw : w.params = a.Pm) : FnOk P w K mg base CX0 1 a._law_is_full a._law_is_full_fd ["_law_net_here", "_law_marks", "_law_begins", "_law_way", "_law_ring"] (sp__law_is_full K a) := by
  refine T.f__law_is_full.ok sc__law_is_full (fun vs H Q E h => ?_) (fun cdv A outer s H vs Q E hr h => ?_)
  · obtain ⟨κ, net, mk, b, w, r, es, es2, N, M, n, ns, bv, wv, rv, bs, wd, rd, rfl, _⟩ := h
    rfl
  · obtain ⟨κ, net, mk, b, w, r, es, es2, N, M, n, ns, bv, wv, rv, bs, wd, rd, rfl, hN, hM, hb, nb, hWw, nw, hr2, nr, hne, wn, rn, l1, l2, k⟩ := h
    refine ⟨_, (@pss_cons _ _ _ _ _ (@ps_set _ _ (5) _ _ _ _ sc__law_is_full.nd
      rfl
      (by first | exact Or.inl rfl | exact Or.inr rfl)
      (@pe_op _ _ _ _ _ _ _ _ op_cat
      (@pe_op _ _ _ _ _ _ _ _ op_cat
      (pv 3)
      (pv 4))
      (pe_slice (sl_listK (K := K) rfl) (pv 4) po_none (po_some pe_int)))
      (by rfl)
      (by first | exact .inl rfl | exact .inr rfl | assumption))
      (@pss_cons _ _ _ _ _ (ps_for PassesOwn.never rfl (pi_zipK (K := K) rfl rfl T.b_zip (@pa_cons _ _ _ _ _ (pv 5)
      (@pa_cons _ _ _ _ _ (pe_slice (sl_listK (K := K) rfl) (pv 5) (po_some pe_int) po_none)
      pa_nil
      (by rfl))
      (by rfl))) (pg_tupK (K := K) (n := 2) rfl rfl (pgs_cons (pg_name (i := 6) sc__law_is_full.nd rfl (by first | exact Or.inl rfl | exact Or.inr rfl)) (pgs_cons (pg_name (i := 7) sc__law_is_full.nd rfl (by first | exact Or.inl rfl | exact Or.inr rfl)) pgs_nil))) (@pss_one _ _ _ (@ps_if _ _ _ _ _ _ _ _ (PW.pt (pw_or (pt_cmp (pc_nnotin hw (Room.units3 hr) (pv 6) (pv 0))) (pw_or (pt_cmp (pc_nnotin hw (Room.units3 hr) (pv 7) (pv 0))) (pw_or1 (@pt_cmpR _ _ _ _ _ _ _ _ (op_notInB (K := K) rfl (Room.units2 hr))
      (pv 7)
      (pe_nget hw (Room.units3 hr) (pv 0) (pv 6) (fun _ _ => rfl))
      (by with_unfolding_all rfl))))))
      (@pss_one _ _ _ (@ps_ret _ _ _ _ pe_bl))
      pss_nil)))
      (@pss_cons _ _ _ _ _ (@ps_if _ _ _ _ _ _ _ _ (@pt_cmpR _ _ _ _ _ _ _ _ (op_notInB (K := K) rfl (Room.units2 hr))
      (@pe_ix _ _ _ _ _ _ _ (ix_listK (K := K) rfl)
      (pv 5)
      pe_int
      (fun _ _ => rfl))
      (pv 2)
      (by with_unfolding_all rfl))
      (@pss_one _ _ _ (@ps_ret _ _ _ _ pe_bl))
      pss_nil)
      (@pss_cons _ _ _ _ _ (ps_for PassesOwn.never rfl (pi_range1 rfl T.b_range (@pa_cons _ _ _ _ _ (pe_callB (call_lenK (K := K) rfl) rfl T.b_len PyProof.Rows.Boot.«len» (@pa_cons _ _ _ _ _ (pe_nget hw (Room.units3 hr) (pv 1) (@pe_ix _ _ _ _ _ _ _ (ix_listK (K := K) rfl)
      (pv 4)
      pe_int
      (fun _ _ => rfl)) (fun _ _ => rfl))
      pa_nil
      (by rfl)))
      pa_nil
      (by rfl))) (pg_name (i := 8) sc__law_is_full.nd rfl (by first | exact Or.inl rfl | exact Or.inr rfl)) (@pss_one _ _ _ (@ps_if _ _ _ _ _ _ _ _ (@pt_not _ _ _ _ (pt_val (pe_callB (call_anyK (K := K) rfl rfl) rfl T.b_any PyProof.Rows.Boot.«any» (@pa_cons _ _ _ _ _ (pe_comp (Nc := ["_law_node", "_law_k", "_law_marks"]) (ix := [none, some 8, some 1]) (CompOk.of (by decide +kernel : compChk (defScope s__law_is_full) ["_law_net_here", "_law_marks", "_law_begins", "_law_way", "_law_ring", "_law_row", "_law_one", "_law_other", "_law_k"] ["_law_node", "_law_k", "_law_marks"] [none, some 8, some 1] _ = true)) rfl (pi_listK (K := K) rfl (pv 4)) (fun _ _ _ _ _ => (pg_name (i := 0) (show List.Nodup (["_law_node", "_law_k", "_law_marks"] : List Str) by decide +kernel) rfl (by first | exact Or.inl rfl | exact Or.inr rfl))) (fun _ _ _ _ _ => pts_nil) (fun _ _ _ _ _ => (@pe_ix _ _ _ _ _ _ _ (ix_listK (K := K) rfl)
      (pe_nget hw (Room.units3 hr) (pv 2) (pv 0) (fun _ _ => rfl))
      (pv 1)
      (fun _ _ => rfl))))
      pa_nil
      (by rfl)))))
      (@pss_one _ _ _ (@ps_ret _ _ _ _ pe_bl))
      pss_nil)))
      (@pss_one _ _ _ (@ps_ret _ _ _ _ pe_bl)))))), ?_⟩
    have lw := nw.len
    have lr := nr.len
    refine ⟨_, rfl, _, rfl, w, r, wv, rv, rfl, rfl, hWw, hr2, by rw [sizeLine_eq]; omega, fun p1 hp1 => ?_⟩
    have s1 := same_upd (o := .lst (wv ++ rv)) hp1
    have e1 : (upd H p1 (.lst (wv ++ rv))) p1 = some (.lst (wv ++ rv)) := upd_same
    generalize upd H p1 (.lst (wv ++ rv)) = H1 at s1 e1 ⊢
    refine ⟨_, rfl, 1, rfl, r, rv, rfl, SqL.of (s1 _ _ hr2), fun p2 hp2 => ?_⟩
    rw [cut_head]
    have s2 := s1.trans (same_upd (o := .lst (rv.take 1)) hp2)
    have e2 : (upd H1 p2 (.lst (rv.take 1))) p2 = some (.lst (rv.take 1)) := upd_same
    have e1' := same_upd (o := .lst (rv.take 1)) hp2 _ _ e1
    generalize upd H1 p2 (.lst (rv.take 1)) = H2 at s2 e2 e1' ⊢
    refine ⟨p1, p2, _, _, rfl, rfl, e1', e2, by rw [sizeLine_eq, List.length_append, List.length_take]; omega, fun R hR => ?_⟩
    have s3 := s2.trans (same_upd (o := .lst (wv ++ rv ++ rv.take 1)) hR)
    have e3 : (upd H2 R (.lst (wv ++ rv ++ rv.take 1))) R = some (.lst (wv ++ rv ++ rv.take 1)) := upd_same
    generalize upd H2 R (.lst (wv ++ rv ++ rv.take 1)) = H3 at s3 e3 ⊢
    have nrow := ((nw.app nr).app (nr.take 1)).mono (Same.u s3)
    have hrow : wd ++ rd ++ rd.take 1 ≠ [] := by simp [hne]
    have rowin : ∀ d ∈ wd ++ rd ++ rd.take 1, d ∈ ns := fun d hd => by
      rcases List.mem_append.mp hd with h | h
      · rcases List.mem_append.mp h with h | h
        · exact wn d h
        · exact rn d h
      · exact rn d (List.mem_of_mem_take h)
    have lrow : (wd ++ rd ++ rd.take 1).length ≤ 1000 := by simp only [List.length_append, List.length_take]; omega
    have ek : ∀ H', Same H H' → Q (.bl (chain N (wd ++ rd ++ rd.take 1) && hdIn bs (wd ++ rd ++ rd.take 1) && markAll M n rd)) H' := k
    generalize wd ++ rd ++ rd.take 1 = row at nrow hrow rowin lrow ek
    generalize wv ++ rv ++ rv.take 1 = rowv at e3 nrow
    have lrv := nrow.len
    refine ⟨_, rfl, _, rfl, 1, rfl, R, _, rfl, SqL.of e3, fun R2 hR2 => ?_⟩
    rw [cut_tail]
    have s4 := s3.trans (same_upd (o := .lst (rowv.drop 1)) hR2)
    have e4 : (upd H3 R2 (.lst (rowv.drop 1))) R2 = some (.lst (rowv.drop 1)) := upd_same
    have e3' := same_upd (o := .lst (rowv.drop 1)) hR2 _ _ e3
    have nrow4 := nrow.mono (Same.u (same_upd (o := .lst (rowv.drop 1)) hR2))
    generalize upd H3 R2 (.lst (rowv.drop 1)) = H4 at s4 e4 e3' nrow4 ⊢
    refine ⟨R, R2, _, _, rfl, SqL.of e3', SqL.of e4, ?_⟩
    refine for_gen (J := Itz K R R2) (n := rowv.length - 1) (fun i σ H' => ∃ z1 z2 z3 : Option V, σ = [some (.ref net), some (.ref mk), some (.ref b), some (.ref w), some (.ref r), some (.ref R), z1, z2, z3] ∧ Same H4 H' ∧ ∀ j, j < i → ∀ x y, row[j]? = some x → row[j + 1]? = some y → y ∈ N x) ?_ ?_ ?_ ?_ ?_
    · exact ⟨_, _, _, rfl, .refl _, fun j hj => absurd hj (Nat.not_lt_zero _)⟩
    · rintro i σ H' hi ⟨z1, z2, z3, rfl, sm, _⟩
      refine ⟨_, _, rowv[i], rowv[i + 1], SqL.of (sm _ _ e3'), SqL.of (sm _ _ e4), List.getElem?_eq_getElem (by omega), ?_⟩
      rw [List.getElem?_drop, Nat.add_comm]
      exact List.getElem?_eq_getElem (by omega)
    · rintro σ H' ⟨z1, z2, z3, rfl, sm, _⟩
      exact ⟨_, _, SqL.of (sm _ _ e3'), SqL.of (sm _ _ e4), .inr (by simp)⟩
    · rintro i x σ H5 H6 hi ⟨z1, z2, z3, rfl, sm, ha⟩ ⟨pr, v, u, rfl, hpr, rfl, hx, hy⟩
      have hx := hx _ (SqL.of (sm _ _ e3'))
      have hy := hy _ (SqL.of (sm _ _ e4))
      rw [List.getElem?_drop, Nat.add_comm] at hy
      have s6 := sm.trans (same_upd (o := .tup [v, u]) hpr)
      have g6 : (upd H5 pr (.tup [v, u])) pr = some (.tup [v, u]) := upd_same
      generalize upd H5 pr (.tup [v, u]) = H6 at s6 g6 ⊢
      have s06 := s4.trans s6
      obtain ⟨dv, ev, nv⟩ := (nrow4.mono (Same.u s6)).get hx
      obtain ⟨du, eu, nu⟩ := (nrow4.mono (Same.u s6)).get hy
      have hN6 := hN.mono s06
      have vn := rowin dv (List.mem_of_getElem? ev)
      have un := rowin du (List.mem_of_getElem? eu)
      obtain ⟨lv, elv⟩ := hN6.has dv vn
      obtain ⟨lu, elu⟩ := hN6.has du un
      obtain ⟨l, ws, rfl, hl, nws⟩ := hN6.val dv lv elv
      refine ⟨pr, _, rfl, SqT.of g6, rfl, _, _, rfl, _, _, rfl, rfl, ?_⟩
      refine ⟨_, rfl, _, rfl, net, es, κ, dv, rfl, hN6.at_, hN6.keys, nv, ?_⟩
      rw [elv]
      refine ⟨_, rfl, iteF ?_⟩
      refine ⟨_, rfl, _, rfl, net, es, κ, du, rfl, hN6.at_, hN6.keys, nu, ?_⟩
      rw [elu]
      refine ⟨_, rfl, iteF ?_⟩
      refine ⟨_, rfl, _, rfl, _, rfl, net, es, κ, dv, _, rfl, hN6.at_, hN6.keys, nv, elv, nIn hl nws nu (fun hin => ⟨_, rfl, iteF ?_⟩) (fun hout => ⟨_, rfl, iteT ?_⟩)⟩
      · refine ⟨_, _, _, rfl, s6, fun j hj x y q1 q2 => ?_⟩
        rcases Nat.lt_or_ge j i with h | h
        · exact ha j h x y q1 q2
        · have : j = i := by omega
          subst this
          rw [ev] at q1; rw [eu] at q2
          cases q1; cases q2
          exact hin
      · have q := ek _ s06
        rw [chain_no ev eu hout, Bool.false_and, Bool.false_and] at q
        exact q
    · rintro σ H5 ⟨z1, z2, z3, rfl, sm, ha⟩
      have s05 := s4.trans sm
      have hc : chain N row = true := chain_split ha (by omega)
      have nrow5 := nrow4.mono (Same.u sm)
      cases row with
      | nil => exact absurd rfl hrow
      | cons d0 rest =>
      obtain ⟨v0, ev0, nv0⟩ := nrow5.get' (i := 0) (d := d0) rfl
      have nb5 := nb.mono (Same.u s05)
      refine ⟨_, rfl, R, _, _, v0, rfl, rfl, SqL.of (sm _ _ e3'), atI_nat (j := 0) ev0, _, rfl, nIn (s05 _ _ hb) nb5 nv0 (fun hin => ⟨_, rfl, iteF ?_⟩) (fun hout => ⟨_, rfl, iteT ?_⟩)⟩
      · have hd : hdIn bs (d0 :: rest) = true := decide_eq_true hin
        have hM5 := hM.mono s05
        have nr5 := nr.mono (Same.u s05)
        obtain ⟨d, ed⟩ : ∃ d, rd[0]? = some d := by
          cases rd with
          | nil => exact absurd rfl hne
          | cons d r => exact ⟨d, rfl⟩
        obtain ⟨v, ev, nv⟩ := nr5.get' ed
        have dm := rn d (List.mem_of_getElem? ed)
        obtain ⟨mv, emv⟩ := hM5.has d dm
        obtain ⟨ml, rfl, hml⟩ := hM5.val d mv emv
        have lm := hM5.len d dm
        have fw := hM5.few
        refine ⟨_, rfl, _, rfl, r, _, _, _, rfl, rfl, SqL.of (s05 _ _ hr2), atI_nat (j := 0) ev, mk, es2, κ, d, _, rfl, hM5.at_, hM5.keys, nv, emv, .inl ⟨ml, _, rfl, .inl (SqL.of hml), ?_⟩⟩
        refine ⟨_, rfl, by rw [List.length_map]; omega, by rw [List.length_map]; omega, ?_⟩
        rw [List.length_map, lm]
        have ek2 : ∀ H', Same H H' → Q (.bl (markAll M n rd)) H' := fun H' s => by
          have q := ek H' s
          rw [hc, hd, Bool.true_and, Bool.true_and] at q
          exact q
        refine for_range (n := n) (fun i σ H' => ∃ z1 z2 z3 : Option V, σ = [some (.ref net), some (.ref mk), some (.ref b), some (.ref w), some (.ref r), some (.ref R), z1, z2, z3] ∧ Same H5 H' ∧ markAll M i rd = true) ?_ ?_ ?_
        · exact ⟨_, _, _, rfl, .refl _, rfl⟩
        · rintro i σ H6 hi ⟨z1, z2, z3, rfl, sm6, ha6⟩
          have hM6 := hM5.mono sm6
          have nr6 := nr5.mono (Same.u sm6)
          have hr6 := sm6 _ _ (s05 _ _ hr2)
          refine ⟨_, rfl, r, rfl, ⟨_, SqL.of hr6⟩, fun D hD => ?_⟩
          refine comp_map (K := K) hD (SqL.of hr6) (by rw [sizeLine_eq]; omega) (fun j v _ => ∀ e, rd[j]? = some e → v = .bl ((M e).getD i false)) (fun _ _ _ _ _ q => q) ?_ ?_
          · intro j x H3 Nx hx s3 hNx
            obtain ⟨e, ee, ne⟩ := nr6.get hx
            have hM3 := hM6.mono s3
            have em := rn e (List.mem_of_getElem? ee)
            obtain ⟨xv, exv⟩ := hM3.has e em
            obtain ⟨xl, rfl, hxl⟩ := hM3.val e xv exv
            have lx := hM3.len e em
            refine ⟨_, rfl, _, rfl, mk, es2, κ, e, _, rfl, hM3.at_, hM3.keys, ne.mono (Same.u s3), exv, _, rfl, xl, _, _, .bl ((M e).getD i false), rfl, rfl, SqL.of hxl, ?_, ?_⟩
            · rw [Int.zero_add]
              refine atI_nat (j := i) ?_
              rw [List.getElem?_map, List.getD_eq_getElem?_getD, List.getElem?_eq_getElem (by omega)]; rfl
            · refine hNx _ _ (.refl _) fun e' h' => ?_
              rw [ee] at h'; cases h'; rfl
          · intro H3 ys hD3 s3 yl hr3
            have ey := all_bl (f := fun e => (M e).getD i false) (by omega) fun j v e h1 h2 => hr3 j v h1 e h2
            refine ⟨D, _, rfl, SqL.of (by rw [hD3, ey]), _, rfl, ?_⟩
            rw [any_map_id]
            cases c : rd.any (fun e => (M e).getD i false) with
            | false =>
              have q := ek2 _ ((s05.trans sm6).trans s3)
              rw [markAll_false hi c] at q
              exact iteT q
            | true =>
              refine iteF ⟨_, _, _, rfl, sm6.trans s3, ?_⟩
              unfold markAll at ha6 ⊢
              rw [List.range_succ, List.all_append, ha6]
              simp only [List.all_cons, List.all_nil, c]
              rfl
        · rintro σ H6 ⟨z1, z2, z3, rfl, sm6, ha6⟩
          have q := ek2 _ (s05.trans sm6)
          rw [ha6] at q
          exact q
      · have hd : hdIn bs (d0 :: rest) = false := decide_eq_false hout
        have q := ek _ s05
        rw [hd, Bool.and_false, Bool.false_and] at q
        exact q
end KK

set_option Elab.async false
set_option linter.all false
set_option maxRecDepth 100000
set_option maxHeartbeats 8000000
namespace KK
open PySem PySem.Spec L2 L3
structure SpI (κ : Nat) (p : Addr) (nd : List ND) (C : Prop) (B : Nat) (H H' : Hp) (w r : Addr) : Prop where
  x : SameX p H H'
  xs : ∃ ns' : List Int, H' p = some (.lst (ns'.map V.int))
  w0 : H w = none
  r0 : H r = none
  wr : w ≠ r
  wp : w ≠ p
  rp : r ≠ p
  wl : ∃ wv wd, H' w = some (.lst wv) ∧ NdL κ H' wv wd ∧ (∀ d ∈ wd, d ∈ nd) ∧ wd.length ≤ B
  rl : ∃ rv rd, H' r = some (.lst rv) ∧ NdL κ H' rv rd ∧ (∀ d ∈ rd, d ∈ nd) ∧ rd.length ≤ B ∧ (rd ≠ [] ∨ C)
def SpJ (κ : Nat) (p L : Addr) (nd : List ND) (k : Int) (C : Prop) (B : Nat) (H : Hp) (σ : L3.St) (H' : Hp) : Prop := ∃ w r, σ = [some (.ref p), some (.ref L), some (.ref w), some (.ref r), some (.int k)] ∧ SpI κ p nd C B H H' w r
theorem SpI.up {κ : Nat} {p : Addr} {nd : List ND} {C C' : Prop} {B B' : Nat} {H H' : Hp} {w r : Addr} (h : SpI κ p nd C B H H' w r) (hc : B ≤ B') (hC : C → C') : SpI κ p nd C' B' H H' w r :=
  ⟨h.x, h.xs, h.w0, h.r0, h.wr, h.wp, h.rp, let ⟨a, b, c, d, e, f⟩ := h.wl; ⟨a, b, c, d, e, by omega⟩, let ⟨a, b, c, d, e, f, g⟩ := h.rl; ⟨a, b, c, d, e, by omega, g.imp id hC⟩⟩
def sp__law_spoilt (K : PySem.W.Frag) (a : Adr) : Sp := fun vs H Q _ => ∃ (κ : Nat) (p L w r : Addr) (ns : List Int) (nv wv rv : List V) (nd wd rd : List ND), vs = [.ref p, .ref L, .ref w, .ref r] ∧ H p = some (.lst (ns.map V.int)) ∧ H L = some (.lst nv) ∧ NdL κ H nv nd ∧ nd ≠ [] ∧ L ≠ p ∧ H w = some (.lst wv) ∧ H r = some (.lst rv) ∧ NdL κ H wv wd ∧ NdL κ H rv rd ∧ (∀ d ∈ wd, d ∈ nd) ∧ (∀ d ∈ rd, d ∈ nd) ∧ rd ≠ [] ∧ wd.length ≤ 13 ∧ rd.length ≤ 13 ∧ w ≠ p ∧ r ≠ p ∧ ∀ H' t w' r' wv' rv' wd' rd' (ns' : List Int), SameX p H H' → H' p = some (.lst (ns'.map V.int)) → H' t = some (.tup [.ref w', .ref r']) → H' w' = some (.lst wv') → H' r' = some (.lst rv') → NdL κ H' wv' wd' → NdL κ H' rv' rd' → (∀ d ∈ wd', d ∈ nd) → (∀ d ∈ rd', d ∈ nd) → wd'.length ≤ 40 → rd'.length ≤ 40 → w' ≠ p → r' ≠ p → Q (.ref t) H'
theorem seqIx {q n : Nat} (h : q < n) : seqIndex? (q : Int) n = some q := by
  have h1 : ¬ ((q : Int) < 0) := by omega
  have h2 : (0 : Int) ≤ q := by omega
  have h3 : (q : Int) < n := by omega
  simp only [seqIndex?, h1, h2, h3, if_false, decide_true, Bool.and_true, if_true, Int.toNat_natCast]
theorem ok__law_spoilt {P : Program} {w : World} {K : PySem.W.Frag} {mg : Str → Option Value} {base : Heap} {a : Adr} (T : Txt K mg a) (hw : w.params = a.Pm) : FnOk P w K mg base CX0 2 a._law_spoilt a._law_spoilt_fd ["_law_xs", "_law_nodes_here", "_law_way", "_law_ring"] (sp__law_spoilt K a) := by
  have G__law_taken := ok__law_taken (P := P) (w := w) (base := base) T hw
  refine T.f__law_spoilt.ok sc__law_spoilt (fun vs H Q E h => ?_) (fun cdv A outer s H vs Q E hr h => ?_)
  · obtain ⟨κ, p, L, w, r, ns, nv, wv, rv, nd, wd, rd, rfl, _⟩ := h
    rfl
  · obtain ⟨κ, p, L, w, r, ns, nv, wv, rv, nd, wd, rd, rfl, hp, hL, nL, ndne, nLp, hWw, hr2, nw, nr, wn, rn, rne, lw, lr, nwp, nrp, k⟩ := h
    refine ⟨_, (@pss_cons _ _ _ _ _ (@ps_set _ _ (4) _ _ _ _ sc__law_spoilt.nd
      rfl
      (by first | exact Or.inl rfl | exact Or.inr rfl)
      (pe_call G__law_taken (hr.mono (by decide)) rfl T.g__law_taken T.f__law_taken.kp T.n__law_taken .nil pass0 (@pa_cons _ _ _ _ _ (pv 0)
      (@pa_cons _ _ _ _ _ pe_int
      pa_nil
      (by rfl))
      (by rfl)))
      (by rfl)
      (by first | exact .inl rfl | exact .inr rfl | assumption))
      (@pss_cons _ _ _ _ _ (@ps_set _ _ (2) _ _ _ _ sc__law_spoilt.nd
      rfl
      (by first | exact Or.inl rfl | exact Or.inr rfl)
      (pe_callTy (call_listK (K := K) rfl rfl) rfl T.b_list PyProof.Rows.Boot.«list» (@pa_cons _ _ _ _ _ (pv 2)
      pa_nil
      (by rfl)))
      (by rfl)
      (by first | exact .inl rfl | exact .inr rfl | assumption))
      (@pss_cons _ _ _ _ _ (@ps_set _ _ (3) _ _ _ _ sc__law_spoilt.nd
      rfl
      (by first | exact Or.inl rfl | exact Or.inr rfl)
      (pe_callTy (call_listK (K := K) rfl rfl) rfl T.b_list PyProof.Rows.Boot.«list» (@pa_cons _ _ _ _ _ (pv 3)
      pa_nil
      (by rfl)))
      (by rfl)
      (by first | exact .inl rfl | exact .inr rfl | assumption))
      (pss_join (@ps_if _ _ _ _ _ _ _ _ (@pt_cmpR _ _ _ _ _ _ _ _ op_eq
      (pv 4)
      pe_int
      (nomark _))
      (@pss_one _ _ _ (@ps_set _ _ (3) _ _ _ _ sc__law_spoilt.nd
      rfl
      (by first | exact Or.inl rfl | exact Or.inr rfl)
      (@pe_op _ _ _ _ _ _ _ _ op_cat
      (pv 3)
      (pv 3))
      (by rfl)
      (by first | exact .inl rfl | exact .inr rfl | assumption)))
      pss_nil)
          (pss_join (@ps_if _ _ _ _ _ _ _ _ (@pt_cmpR _ _ _ _ _ _ _ _ op_eq
      (pv 4)
      pe_int
      (nomark _))
      (@pss_one _ _ _ (@ps_expr _ _ _ _ (pe_bm PySem.F.plainAttrs_list PySem.F.slot_list_pop PySem.F.type_list_pop mt_popAt (pv 3) (@pa_cons _ _ _ _ _ (pe_call G__law_taken (hr.mono (by decide)) rfl T.g__law_taken T.f__law_taken.kp T.n__law_taken .nil pass0 (@pa_cons _ _ _ _ _ (pv 0)
      (@pa_cons _ _ _ _ _ (pe_callB (call_lenK (K := K) rfl) rfl T.b_len PyProof.Rows.Boot.«len» (@pa_cons _ _ _ _ _ (pv 3)
      pa_nil
      (by rfl)))
      pa_nil
      (by rfl))
      (by rfl)))
      pa_nil
      (by rfl)))
      (by rfl)))
      pss_nil)
          (pss_join (@ps_if _ _ _ _ _ _ _ _ (@pt_cmpR _ _ _ _ _ _ _ _ op_eq
      (pv 4)
      pe_int
      (nomark _))
      (@pss_one _ _ _ (@ps_expr _ _ _ _ (pe_bm PySem.F.plainAttrs_list PySem.F.slot_list_insert PySem.F.type_list_insert mt_insert (pv 3) (@pa_cons _ _ _ _ _ (pe_call G__law_taken (hr.mono (by decide)) rfl T.g__law_taken T.f__law_taken.kp T.n__law_taken .nil pass0 (@pa_cons _ _ _ _ _ (pv 0)
      (@pa_cons _ _ _ _ _ (pe_callB (call_lenK (K := K) rfl) rfl T.b_len PyProof.Rows.Boot.«len» (@pa_cons _ _ _ _ _ (pv 3)
      pa_nil
      (by rfl)))
      pa_nil
      (by rfl))
      (by rfl)))
      (@pa_cons _ _ _ _ _ (@pe_ix _ _ _ _ _ _ _ (ix_listK (K := K) rfl)
      (pv 1)
      (pe_call G__law_taken (hr.mono (by decide)) rfl T.g__law_taken T.f__law_taken.kp T.n__law_taken .nil pass0 (@pa_cons _ _ _ _ _ (pv 0)
      (@pa_cons _ _ _ _ _ (pe_callB (call_lenK (K := K) rfl) rfl T.b_len PyProof.Rows.Boot.«len» (@pa_cons _ _ _ _ _ (pv 1)
      pa_nil
      (by rfl)))
      pa_nil
      (by rfl))
      (by rfl)))
      (fun _ _ => rfl))
      pa_nil
      (by rfl))
      (by rfl)))
      (by rfl)))
      pss_nil)
          (pss_join (@ps_if _ _ _ _ _ _ _ _ (PW.pt (pw_and (@pt_cmpR _ _ _ _ _ _ _ _ op_eq
      (pv 4)
      pe_int
      (nomark _)) (pw_and1 (@pt_cmpR _ _ _ _ _ _ _ _ (op_neDK (K := K) rfl (Room.units hr))
      (pv 2)
      (@pe_lst _ _ _ _ pa_nil)
      (nomark _)))))
      (@pss_one _ _ _ (@ps_expr _ _ _ _ (pe_bm PySem.F.plainAttrs_list PySem.F.slot_list_pop PySem.F.type_list_pop mt_popAt (pv 2) (@pa_cons _ _ _ _ _ (pe_call G__law_taken (hr.mono (by decide)) rfl T.g__law_taken T.f__law_taken.kp T.n__law_taken .nil pass0 (@pa_cons _ _ _ _ _ (pv 0)
      (@pa_cons _ _ _ _ _ (pe_callB (call_lenK (K := K) rfl) rfl T.b_len PyProof.Rows.Boot.«len» (@pa_cons _ _ _ _ _ (pv 2)
      pa_nil
      (by rfl)))
      pa_nil
      (by rfl))
      (by rfl)))
      pa_nil
      (by rfl)))
      (by rfl)))
      pss_nil)
          (pss_join (@ps_if _ _ _ _ _ _ _ _ (@pt_cmpR _ _ _ _ _ _ _ _ op_eq
      (pv 4)
      pe_int
      (nomark _))
      (@pss_cons _ _ _ _ _ (@ps_set _ _ (2) _ _ _ _ sc__law_spoilt.nd
      rfl
      (by first | exact Or.inl rfl | exact Or.inr rfl)
      (@pe_op _ _ _ _ _ _ _ _ op_cat
      (pv 2)
      (pe_slice (sl_listK (K := K) rfl) (pv 3) po_none (po_some pe_int)))
      (by rfl)
      (by first | exact .inl rfl | exact .inr rfl | assumption))
      (@pss_one _ _ _ (@ps_set _ _ (3) _ _ _ _ sc__law_spoilt.nd
      rfl
      (by first | exact Or.inl rfl | exact Or.inr rfl)
      (@pe_op _ _ _ _ _ _ _ _ op_cat
      (pe_slice (sl_listK (K := K) rfl) (pv 3) (po_some pe_int) po_none)
      (pe_slice (sl_listK (K := K) rfl) (pv 3) po_none (po_some pe_int)))
      (by rfl)
      (by first | exact .inl rfl | exact .inr rfl | assumption))))
      pss_nil)
          (pss_join (@ps_if _ _ _ _ _ _ _ _ (@pt_cmpR _ _ _ _ _ _ _ _ op_eq
      (pv 4)
      pe_int
      (nomark _))
      (@pss_one _ _ _ (ps_par (i := 2) (j := 3) rfl sc__law_spoilt.nd rfl rfl (by decide) rfl rfl (@pa_cons _ _ _ _ _ (pv 3)
      (@pa_cons _ _ _ _ _ (pv 2)
      pa_nil
      (by rfl))
      (by rfl)) rfl))
      pss_nil)
          (@pss_one _ _ _ (@ps_ret _ _ _ _ (@pe_tup _ _ _ _ _ (@pa_cons _ _ _ _ _ (pv 2)
      (@pa_cons _ _ _ _ _ (pv 3)
      pa_nil
      (by rfl))
      (by rfl)))))))))))))), ?_⟩
    refine ⟨_, rfl, p, ns, 8, rfl, by decide, hp, fun H1 n1 ns1 x1 p1 n10 n11 => ?_⟩
    have L1 := x1 _ _ nLp hL
    have u1 : SameU H H1 := SameX.u x1 hp (fun _ z => by cases z)
    have w1 := x1 _ _ nwp hWw
    have r1 := x1 _ _ nrp hr2
    refine ⟨_, rfl, .inl ⟨w, wv, rfl, .inl (SqL.of w1), fun W hW => ?_⟩⟩
    have s2 := same_upd (o := .lst wv) hW
    have g2 : (upd H1 W (.lst wv)) W = some (.lst wv) := upd_same
    generalize upd H1 W (.lst wv) = H2 at s2 g2 ⊢
    refine ⟨_, rfl, .inl ⟨r, rv, rfl, .inl (SqL.of (s2 _ _ r1)), fun Z hZ => ?_⟩⟩
    have s3 := same_upd (o := .lst rv) hZ
    have g3 : (upd H2 Z (.lst rv)) Z = some (.lst rv) := upd_same
    generalize upd H2 Z (.lst rv) = H3 at s3 g3 ⊢
    have s13 := s2.trans s3
    have nWp : W ≠ p := fun e => by rw [e, p1] at hW; cases hW
    have nZp : Z ≠ p := fun e => by rw [e, s2 _ _ p1] at hZ; cases hZ
    have nWZ : W ≠ Z := fun e => by rw [← e, g2] at hZ; cases hZ
    have x3 : SameX p H H3 := x1.trans (Same.x s13)
    have I3 : SpI κ p nd False 13 H H3 W Z := ⟨x3, ⟨ns1, s13 _ _ p1⟩, x1.free nWp hW, (x1.trans (Same.x s2)).free nZp hZ, nWZ, nWp, nZp, ⟨wv, wd, s3 _ _ g2, (nw.mono u1).mono (Same.u s13), wn, lw⟩, ⟨rv, rd, g3, (nr.mono u1).mono (Same.u s13), rn, lr, .inl rne⟩⟩
    have hLx : ∀ {H'}, SameX p H H' → H' L = some (.lst nv) ∧ NdL κ H' nv nd := fun x => ⟨x _ _ nLp hL, nL.mono (SameX.u x hp (fun _ z => by cases z))⟩
    have lnv := nL.len
    have nd0 := List.length_pos_iff.mpr ndne
    clear s2 g2 s3 g3 s13 x3 hW hZ nWp nZp nWZ w1 r1
    refine ⟨SpJ κ p L nd n1 False 26 H, ⟨_, rfl, rfl, _, rfl, ite2 (fun c => ?_) (fun c => ⟨W, Z, rfl, I3.up (by decide) id⟩)⟩, ?_⟩
    · obtain ⟨rv, rd, hr3, nr3, rn3, lr3, rne3⟩ := I3.rl
      have lrv := nr3.len
      refine ⟨_, rfl, _, rfl, Z, Z, rv, rv, rfl, rfl, hr3, hr3, by rw [sizeLine_eq]; omega, fun Y hY => ?_⟩
      have s4 := same_upd (o := .lst (rv ++ rv)) hY
      obtain ⟨nsx, px⟩ := I3.xs
      have nYp : Y ≠ p := fun e => by rw [e, px] at hY; cases hY
      obtain ⟨wv4, wd4, hw4, nw4, wn4, lw4⟩ := I3.wl
      refine ⟨W, Y, rfl, I3.x.trans (Same.x s4), ⟨nsx, s4 _ _ px⟩, I3.w0, I3.x.free nYp hY, (fun e => by rw [e, hY] at hw4; cases hw4), I3.wp, nYp, ⟨wv4, wd4, s4 _ _ hw4, nw4.mono (Same.u s4), wn4, by omega⟩, ⟨_, rd ++ rd, upd_same, (nr3.app nr3).mono (Same.u s4), (fun d hd => ?_), by rw [List.length_append]; omega, ?_⟩⟩
      · rcases List.mem_append.mp hd with h | h <;> exact rn3 d h
      · rcases rne3 with h | h
        · left; simp [h]
        · exact .inr h
    clear I3
    rintro σ1 H3 ⟨W, Z, rfl, I3⟩
    refine ⟨SpJ κ p L nd n1 (n1 = 1) 26 H, ⟨_, rfl, rfl, _, rfl, ite2 (fun c => ?_) (fun c => ⟨W, Z, rfl, I3.up (by decide) False.elim⟩)⟩, ?_⟩
    · have k1 : n1 = 1 := by
        have := of_decide_eq_true c
        injection this
      obtain ⟨rv, rd, hr3, nr3, rn3, lr3, rne3⟩ := I3.rl
      have rne4 : rd ≠ [] := rne3.elim id False.elim
      have lrv := nr3.len
      have l0 := List.length_pos_iff.mpr rne4
      obtain ⟨nsx, px⟩ := I3.xs
      obtain ⟨wv4, wd4, hw4, nw4, wn4, lw4⟩ := I3.wl
      refine ⟨_, rfl, .inl ⟨rfl, _, SqL.of hr3⟩, _, rfl, _, rfl, .inl ⟨Z, _, rfl, .inl (SqL.of hr3), p, nsx, _, rfl, by omega, px, fun H4 n4 ns4 x4 p4 m0 m1 => ?_⟩⟩
      have u4 : SameU H3 H4 := SameX.u x4 px (fun _ z => by cases z)
      obtain ⟨q, rfl⟩ : ∃ q : Nat, n4 = q := ⟨n4.toNat, by omega⟩
      have hq : q < rv.length := by omega
      have hr4 := x4 _ _ I3.rp hr3
      refine ⟨Z, rv, _, q, rv[q], rfl, rfl, hr4, by omega, by omega, ?_, List.getElem?_eq_getElem hq, ?_⟩
      · exact seqIx hq
      have u5 : SameU H4 (upd H4 Z (.lst (rv.eraseIdx q))) := SameX.u ((SameX.refl H4).upd) hr4 (fun _ z => by cases z)
      refine ⟨W, Z, rfl, (I3.x.trans x4).updN I3.r0, ⟨ns4, updK p4 I3.rp.symm⟩, I3.w0, I3.r0, I3.wr, I3.wp, I3.rp, ⟨wv4, wd4, updK (x4 _ _ I3.wp hw4) I3.wr, (nw4.mono u4).mono u5, wn4, lw4⟩, ⟨_, rd.eraseIdx q, upd_same, ((nr3.erase q).mono u4).mono u5, (fun d hd => rn3 d (List.mem_of_mem_eraseIdx hd)), Nat.le_trans (List.length_eraseIdx_le _ _) lr3, .inr k1⟩⟩
    clear I3
    rintro σ1 H3 ⟨W, Z, rfl, I3⟩
    refine ⟨SpJ κ p L nd n1 (n1 = 1) 27 H, ⟨_, rfl, rfl, _, rfl, ite2 (fun c => ?_) (fun c => ⟨W, Z, rfl, I3.up (by decide) id⟩)⟩, ?_⟩
    · have k1 : n1 = 2 := by
        have := of_decide_eq_true c
        injection this
      obtain ⟨rv, rd, hr3, nr3, rn3, lr3, rne3⟩ := I3.rl
      have rne4 : rd ≠ [] := rne3.elim id (fun e => by omega)
      have lrv := nr3.len
      have l0 := List.length_pos_iff.mpr rne4
      obtain ⟨nsx, px⟩ := I3.xs
      obtain ⟨wv4, wd4, hw4, nw4, wn4, lw4⟩ := I3.wl
      refine ⟨_, rfl, .inl ⟨rfl, _, SqL.of hr3⟩, _, rfl, _, rfl, .inl ⟨Z, _, rfl, .inl (SqL.of hr3), p, nsx, _, rfl, by omega, px, fun H4 n4 ns4 x4 p4 m0 m1 => ?_⟩⟩
      have u4 : SameU H3 H4 := SameX.u x4 px (fun _ z => by cases z)
      obtain ⟨hL4, nL4⟩ := hLx (I3.x.trans x4)
      refine ⟨_, rfl, _, rfl, _, rfl, .inl ⟨L, _, rfl, .inl (SqL.of hL4), p, ns4, _, rfl, by omega, p4, fun H5 n5 ns5 x5 p5 j0 j1 => ?_⟩⟩
      have u5 : SameU H4 H5 := SameX.u x5 p4 (fun _ z => by cases z)
      obtain ⟨q, rfl⟩ : ∃ q : Nat, n5 = q := ⟨n5.toNat, by omega⟩
      have hq : q < nv.length := by omega
      obtain ⟨f, ef, hf⟩ := (nL4.mono u5).get (List.getElem?_eq_getElem hq)
      have x35 : SameX p H3 H5 := x4.trans x5
      have hr5 := x35 _ _ I3.rp hr3
      refine ⟨L, _, _, nv[q], rfl, rfl, SqL.of (x5 _ _ nLp hL4), atI_nat (List.getElem?_eq_getElem hq), Z, rv, n4, nv[q], rfl, rfl, hr5, by omega, by omega, by rw [sizeLine_eq]; omega, ?_⟩
      generalize n4.toNat = t
      have u6 : SameU H5 (upd H5 Z (.lst (rv.take t ++ nv[q] :: rv.drop t))) := SameX.u ((SameX.refl H5).upd) hr5 (fun _ z => by cases z)
      have nr6 := ((nr3.mono u4).mono u5).mono u6
      refine ⟨W, Z, rfl, (I3.x.trans x35).updN I3.r0, ⟨ns5, updK p5 I3.rp.symm⟩, I3.w0, I3.r0, I3.wr, I3.wp, I3.rp, ⟨wv4, wd4, updK (x35 _ _ I3.wp hw4) I3.wr, ((nw4.mono u4).mono u5).mono u6, wn4, by omega⟩, ⟨_, rd.take t ++ f :: rd.drop t, upd_same, (nr6.take t).app (.cons (hf.mono u6) (nr6.drop t)), (fun d hd => ?_), ?_, .inl (by simp)⟩⟩
      · rcases List.mem_append.mp hd with h | h
        · exact rn3 d (List.mem_of_mem_take h)
        · rcases List.mem_cons.mp h with h | h
          · subst h; exact List.mem_of_getElem? ef
          · exact rn3 d (List.mem_of_mem_drop h)
      · rw [List.length_append, List.length_cons, List.length_take, List.length_drop]; omega
    clear I3
    rintro σ1 H3 ⟨W, Z, rfl, I3⟩
    refine ⟨SpJ κ p L nd n1 (n1 = 1) 27 H, ?_, ?_⟩
    · obtain ⟨rv, rd, hr3, nr3, rn3, lr3, rne3⟩ := I3.rl
      obtain ⟨nsx, px⟩ := I3.xs
      obtain ⟨wv, wd, hw3, nw3, wn3, lw3⟩ := I3.wl
      have lwv := nw3.len
      refine ⟨_, rfl, rfl, _, rfl, ite2 (fun c => ?_) (fun c => iteF ⟨W, Z, rfl, I3⟩)⟩
      refine ⟨_, rfl, by decide, fun B hB => ?_⟩
      have s4 := same_upd (o := .lst []) hB
      have g4 : (upd H3 B (.lst [])) B = some (.lst []) := upd_same
      generalize upd H3 B (.lst []) = H4 at s4 g4 ⊢
      have nw4 := nw3.mono (Same.u s4)
      have nr4 := nr3.mono (Same.u s4)
      have x4 := I3.x.trans (Same.x s4)
      have p4 := s4 _ _ px
      refine neNil (s4 _ _ hw3) nw4 g4 (fun _ => ⟨_, rfl, iteF ⟨W, Z, rfl, x4, ⟨nsx, p4⟩, I3.w0, I3.r0, I3.wr, I3.wp, I3.rp, ⟨wv, wd, s4 _ _ hw3, nw4, wn3, lw3⟩, ⟨rv, rd, s4 _ _ hr3, nr4, rn3, lr3, rne3⟩⟩⟩) (fun wne => ⟨_, rfl, iteT ?_⟩)
      have l0 := List.length_pos_iff.mpr wne
      refine ⟨_, rfl, .inl ⟨rfl, _, SqL.of (s4 _ _ hw3)⟩, _, rfl, _, rfl, .inl ⟨W, _, rfl, .inl (SqL.of (s4 _ _ hw3)), p, nsx, _, rfl, by omega, p4, fun H5 n5 ns5 x5 p5 m0 m1 => ?_⟩⟩
      have u5 : SameU H4 H5 := SameX.u x5 p4 (fun _ z => by cases z)
      obtain ⟨q, rfl⟩ : ∃ q : Nat, n5 = q := ⟨n5.toNat, by omega⟩
      have hq : q < wv.length := by omega
      have hw5 := x5 _ _ I3.wp (s4 _ _ hw3)
      refine ⟨W, wv, _, q, wv[q], rfl, rfl, hw5, by omega, by omega, ?_, List.getElem?_eq_getElem hq, ?_⟩
      · exact seqIx hq
      have u6 : SameU H5 (upd H5 W (.lst (wv.eraseIdx q))) := SameX.u ((SameX.refl H5).upd) hw5 (fun _ z => by cases z)
      refine ⟨W, Z, rfl, (x4.trans x5).updN I3.w0, ⟨ns5, updK p5 I3.wp.symm⟩, I3.w0, I3.r0, I3.wr, I3.wp, I3.rp, ⟨_, wd.eraseIdx q, upd_same, ((nw4.erase q).mono u5).mono u6, (fun d hd => wn3 d (List.mem_of_mem_eraseIdx hd)), Nat.le_trans (List.length_eraseIdx_le _ _) lw3⟩, ⟨rv, rd, updK (x5 _ _ I3.rp (s4 _ _ hr3)) I3.wr.symm, (nr4.mono u5).mono u6, rn3, lr3, rne3⟩⟩
    clear I3
    rintro σ1 H3 ⟨W, Z, rfl, I3⟩
    refine ⟨SpJ κ p L nd n1 True 28 H, ⟨_, rfl, rfl, _, rfl, ite2 (fun c => ?_) (fun c => ⟨W, Z, rfl, I3.up (by decide) fun _ => True.intro⟩)⟩, ?_⟩
    · obtain ⟨rv, rd, hr3, nr3, rn3, lr3, rne3⟩ := I3.rl
      obtain ⟨nsx, px⟩ := I3.xs
      obtain ⟨wv, wd, hw3, nw3, wn3, lw3⟩ := I3.wl
      have lwv := nw3.len
      have lrv := nr3.len
      refine ⟨_, rfl, _, rfl, 1, rfl, Z, rv, rfl, SqL.of hr3, fun p2 hp2 => ?_⟩
      rw [cut_head]
      have s4 := same_upd (o := .lst (rv.take 1)) hp2
      have g4 : (upd H3 p2 (.lst (rv.take 1))) p2 = some (.lst (rv.take 1)) := upd_same
      generalize upd H3 p2 (.lst (rv.take 1)) = H4 at s4 g4 ⊢
      refine ⟨W, p2, wv, _, rfl, rfl, s4 _ _ hw3, g4, by rw [sizeLine_eq, List.length_take]; omega, fun Y hY => ?_⟩
      have s5 := same_upd (o := .lst (wv ++ rv.take 1)) hY
      have g5 : (upd H4 Y (.lst (wv ++ rv.take 1))) Y = some (.lst (wv ++ rv.take 1)) := upd_same
      generalize upd H4 Y (.lst (wv ++ rv.take 1)) = H5 at s5 g5 ⊢
      have s35 := s4.trans s5
      refine ⟨_, rfl, 1, rfl, Z, rv, rfl, SqL.of (s35 _ _ hr3), fun p3 hp3 => ?_⟩
      rw [cut_tail]
      have s6 := same_upd (o := .lst (rv.drop 1)) hp3
      have g6 : (upd H5 p3 (.lst (rv.drop 1))) p3 = some (.lst (rv.drop 1)) := upd_same
      generalize upd H5 p3 (.lst (rv.drop 1)) = H6 at s6 g6 ⊢
      have s36 := s35.trans s6
      refine ⟨_, rfl, 1, rfl, Z, rv, rfl, SqL.of (s36 _ _ hr3), fun p4 hp4 => ?_⟩
      rw [cut_head]
      have s7 := same_upd (o := .lst (rv.take 1)) hp4
      have g7 : (upd H6 p4 (.lst (rv.take 1))) p4 = some (.lst (rv.take 1)) := upd_same
      generalize upd H6 p4 (.lst (rv.take 1)) = H7 at s7 g7 ⊢
      have s37 := s36.trans s7
      refine ⟨p3, p4, _, _, rfl, rfl, s7 _ _ g6, g7, by rw [sizeLine_eq, List.length_take, List.length_drop]; omega, fun X hX => ?_⟩
      have s8 := same_upd (o := .lst (rv.drop 1 ++ rv.take 1)) hX
      have s38 := s37.trans s8
      have nYp : Y ≠ p := fun e => by rw [e, s4 _ _ px] at hY; cases hY
      have nXp : X ≠ p := fun e => by rw [e, s37 _ _ px] at hX; cases hX
      have gY := s7 _ _ (s6 _ _ g5)
      have nr8 := nr3.mono (Same.u s38)
      have nw8 := nw3.mono (Same.u s38)
      refine ⟨Y, X, rfl, I3.x.trans (Same.x s38), ⟨nsx, s38 _ _ px⟩, (I3.x.trans (Same.x s4)).free nYp hY, (I3.x.trans (Same.x s37)).free nXp hX, (fun e => by rw [e, hX] at gY; cases gY), nYp, nXp, ⟨_, wd ++ rd.take 1, s8 _ _ gY, nw8.app (nr8.take 1), (fun d hd => ?_), by rw [List.length_append, List.length_take]; omega⟩, ⟨_, rd.drop 1 ++ rd.take 1, upd_same, (nr8.drop 1).app (nr8.take 1), (fun d hd => ?_), by rw [List.length_append, List.length_take, List.length_drop]; omega, .inr True.intro⟩⟩
      · rcases List.mem_append.mp hd with h | h
        · exact wn3 d h
        · exact rn3 d (List.mem_of_mem_take h)
      · rcases List.mem_append.mp hd with h | h
        · exact rn3 d (List.mem_of_mem_drop h)
        · exact rn3 d (List.mem_of_mem_take h)
    clear I3
    rintro σ1 H3 ⟨W, Z, rfl, I3⟩
    refine ⟨SpJ κ p L nd n1 True 28 H, ⟨_, rfl, rfl, _, rfl, ite2 (fun c => ?_) (fun c => ⟨W, Z, rfl, I3⟩)⟩, ?_⟩
    · obtain ⟨rv, rd, hr3, nr3, rn3, lr3, rne3⟩ := I3.rl
      obtain ⟨wv, wd, hw3, nw3, wn3, lw3⟩ := I3.wl
      exact ⟨_, rfl, _, rfl, _, _, rfl, Z, W, rfl, I3.x, I3.xs, I3.r0, I3.w0, I3.wr.symm, I3.rp, I3.wp, ⟨rv, rd, hr3, nr3, rn3, lr3⟩, ⟨wv, wd, hw3, nw3, wn3, lw3, .inr True.intro⟩⟩
    clear I3
    rintro σ1 H3 ⟨W, Z, rfl, I3⟩
    obtain ⟨rv, rd, hr3, nr3, rn3, lr3, rne3⟩ := I3.rl
    obtain ⟨nsx, px⟩ := I3.xs
    obtain ⟨wv, wd, hw3, nw3, wn3, lw3⟩ := I3.wl
    refine ⟨_, rfl, _, rfl, by show 2 ≤ sizeLine; rw [sizeLine_eq]; decide, fun t ht => ?_⟩
    have s4 := same_upd (o := .tup [.ref W, .ref Z]) ht
    exact k _ t W Z wv rv wd rd nsx (I3.x.trans (Same.x s4)) (s4 _ _ px) upd_same (s4 _ _ hw3) (s4 _ _ hr3) (nw3.mono (Same.u s4)) (nr3.mono (Same.u s4)) wn3 rn3 (by omega) (by omega) I3.wp I3.rp
end KK

set_option Elab.async false
set_option linter.all false
set_option maxRecDepth 100000
set_option maxHeartbeats 8000000
namespace KK
open PySem PySem.Spec L2 L3
theorem le20 {n : Nat} (h : n ≤ 20) : n ≤ sizeLine := by rw [sizeLine_eq]; omega
theorem newF {H H' : Hp} {o q : HO} {p t : Addr} (hp : H p = some q) (ht : H t = none) (e : upd H t o = H') : Same H H' ∧ t ≠ p ∧ H' t = some o ∧ hide p H' t = some o := by
  subst e
  have n : t ≠ p := fun e => by rw [e, hp] at ht; cases ht
  exact ⟨same_upd ht, n, upd_same, hide_mk n upd_same⟩
theorem lpt_mono {K : PySem.W.Frag} {H H' : Hp} {N : ND → List ND} {M : ND → List Bool} {bs : List ND} (s : Same H H') {v : V} {r : Bool} (h : LpT K H N M bs v r) : LpT K H' N M bs v r := by
  have sT : ∀ {a xs}, SqT K H a xs → SqT K H' a xs := fun h => h.imp (fun h => h.imp (s _ _) fun ⟨o, e⟩ => ⟨o, s _ _ e⟩) id
  have sY : ∀ {v ty}, TyOf K H v ty → TyOf K H' v ty := fun h => by
    cases h with
    | non => exact .non
    | bl x => exact .bl x
    | int x => exact .int x
    | str x => exact .str x
    | flt x => exact .flt x
    | lst e => exact .lst (s _ _ e)
    | frz e => exact .frz (s _ _ e)
    | tup e => exact .tup (s _ _ e)
    | dK e => exact .dK (s _ _ e)
    | dT e => exact .dT (s _ _ e)
    | ins e a b c d f => exact TyOf.ins (s _ _ e) a b c d f
  cases h with
  | other a b => exact .other (sY a) b
  | long a b => exact .long (sT a) b
  | noway a b c => exact .noway (sT a) (sY b) c
  | noring a b c d => exact .noring (sT a) (s _ _ b) (sY c) d
  | empty a b c => exact .empty (sT a) (s _ _ b) (s _ _ c)
  | loop a b c d e f g h i j => exact .loop (sT a) (s _ _ b) (s _ _ c) (d.mono s) (e.mono s) f g h i j
def OdT (K : PySem.W.Frag) (p : Addr) (H : Hp) (v : V) : Prop := ∀ N M bs, LpT K (hide p H) N M bs v false
def OdA (K : PySem.W.Frag) (p : Addr) (H : Hp) (vs : List V) : Prop := ∀ v ∈ vs, OdT K p H v
theorem OdA.mono {K : PySem.W.Frag} {p : Addr} {H H' : Hp} {vs : List V} (h : OdA K p H vs) (s : Same H H') : OdA K p H' vs := fun v hv N M bs => lpt_mono (hide_x (Same.x s)) (h v hv N M bs)
theorem OdA.add {K : PySem.W.Frag} {p : Addr} {H H' : Hp} {vs : List V} {v : V} (h : OdA K p H vs) (s : Same H H') (g : OdT K p H' v) : OdA K p H' (v :: vs) := fun u hu => by
  rcases List.mem_cons.mp hu with e | hu
  · rw [e]; exact g
  · exact h.mono s u hu
theorem along_short {N : ND → List ND} {t : PyData} (ht : ∀ d, sameD (toD d) t = false) (ys : List PyData) : ∀ (xs : List PyData) (ch : List ND), (along N ch (xs ++ t :: ys)).length ≤ xs.length
  | [], ch => by
    rw [List.nil_append, along_cons]
    have : (ch.find? fun d => sameD (toD d) t) = none := List.find?_eq_none.mpr fun d _ => by rw [ht d]; exact Bool.false_ne_true
    rw [this]; exact Nat.le_refl _
  | x :: xs, ch => by
    rw [List.cons_append, along_cons]
    cases ch.find? fun d => sameD (toD d) x with
    | none => exact Nat.zero_le _
    | some e => exact Nat.succ_le_succ (along_short ht ys xs (N e))
theorem full_short {N : ND → List ND} {M : ND → List Bool} {bs : List ND} {t : PyData} (ht : ∀ d, sameD (toD d) t = false) (way : List PyData) : progFull N M bs way [t] = false := by
  unfold progFull
  have h := along_short (N := N) ht [t] way bs
  have e : way ++ [t] ++ [t].take 1 = way ++ t :: [t] := by simp
  dsimp only
  rw [e, decide_eq_false (by rw [List.length_append]; simp; omega), Bool.false_and]
theorem lpt_short {K : PySem.W.Frag} {H : Hp} {N : ND → List ND} {M : ND → List Bool} {bs : List ND} {t w r : Addr} {wv : List V} {v : V} {wt : List PyData} {rt : PyData} (a : SqT K H t [.ref w, .ref r]) (b : H w = some (.lst wv)) (c : H r = some (.lst [v])) (d : ThL H wv wt) (e : ThH H v rt) (f : PyData.canLayAll0 wt = true) (g : rt.canLay0 = true) (i : wt.length ≤ 300) (ht : ∀ d, sameD (toD d) rt = false) : LpT K H N M bs (.ref t) false := by
  have := LpT.loop (N := N) (M := M) (bs := bs) a b c d (.cons e .nil) f (by rw [PyData.canLayAll0, g, PyData.canLayAll0]; rfl) (by simp) i (by simp)
  rw [full_short ht] at this
  exact this
theorem same_lst (ds : List PyData) (d : ND) : sameD (toD d) (.list ds) = false := by cases d <;> simp [toD, sameD]
theorem same_non (d : ND) : sameD (toD d) .none = false := by cases d <;> simp [toD, sameD]
def sp__law_odd (K : PySem.W.Frag) (a : Adr) : Sp := fun vs H Q _ => ∃ (κ : Nat) (p w r : Addr) (ns : List Int) (wv rv : List V) (wd rd : List ND), vs = [.ref p, .ref w, .ref r] ∧ H p = some (.lst (ns.map V.int)) ∧ H w = some (.lst wv) ∧ H r = some (.lst rv) ∧ NdL κ H wv wd ∧ NdL κ H rv rd ∧ rd ≠ [] ∧ wd.length ≤ 13 ∧ w ≠ p ∧ r ≠ p ∧ ∀ H' v (ns' : List Int), SameX p H H' → H' p = some (.lst (ns'.map V.int)) → (∀ N M bs, LpT K H' N M bs v false) → Q v H'
theorem ok__law_odd {P : Program} {w : World} {K : PySem.W.Frag} {mg : Str → Option Value} {base : Heap} {a : Adr} (T : Txt K mg a) (hw : w.params = a.Pm) : FnOk P w K mg base CX0 2 a._law_odd a._law_odd_fd ["_law_xs", "_law_way", "_law_ring"] (sp__law_odd K a) := by
  have G__law_taken := ok__law_taken (P := P) (w := w) (base := base) T hw
  refine T.f__law_odd.ok sc__law_odd (fun vs H Q E h => ?_) (fun cdv A outer s H vs Q E hr h => ?_)
  · obtain ⟨κ, p, w, r, ns, wv, rv, wd, rd, rfl, _⟩ := h
    rfl
  · obtain ⟨κ, p, w, r, ns, wv, rv, wd, rd, rfl, hp, hWw, hr2, nw, nr, rne, lw, nwp, nrp, k⟩ := h
    refine ⟨_, (@pss_cons _ _ _ _ _ (@ps_set _ _ (3) _ _ _ _ sc__law_odd.nd
      rfl
      (by first | exact Or.inl rfl | exact Or.inr rfl)
      (@pe_ix _ _ _ _ _ _ _ (ix_listK (K := K) rfl)
      (pv 2)
      pe_int
      (fun _ _ => rfl))
      (by rfl)
      (by first | exact .inl rfl | exact .inr rfl | assumption))
      (@pss_cons _ _ _ _ _ (@ps_set _ _ (4) _ _ _ _ sc__law_odd.nd
      rfl
      (by first | exact Or.inl rfl | exact Or.inr rfl)
      (@pe_lst _ _ _ _ (@pa_c _ _ _ _ _ pe_non
      (@pa_c _ _ _ _ _ pe_int
      (@pa_c _ _ _ _ _ pe_str
      (@pa_c _ _ _ _ _ (@pe_tup _ _ _ _ _ pa_nil)
      (@pa_c _ _ _ _ _ (@pe_lst _ _ _ _ (@pa_cons _ _ _ _ _ (pv 1)
      (@pa_cons _ _ _ _ _ (pv 2)
      pa_nil
      (by rfl))
      (by rfl)))
      (@pa_c _ _ _ _ _ (@pe_tup _ _ _ _ _ (@pa_cons _ _ _ _ _ (pv 1)
      pa_nil
      (by rfl)))
      (@pa_c _ _ _ _ _ (@pe_tup _ _ _ _ _ (@pa_c _ _ _ _ _ (pv 1)
      (@pa_c _ _ _ _ _ (pv 2)
      (@pa_c _ _ _ _ _ (pv 2)
      pa_nil
      (by rfl))
      (by rfl))
      (by rfl)))
      (@pa_c _ _ _ _ _ (@pe_tup _ _ _ _ _ (@pa_cons _ _ _ _ _ (pe_callTy (call_tupleK (K := K) rfl) rfl T.b_tuple PyProof.Rows.Boot.«tuple» (@pa_cons _ _ _ _ _ (pv 1)
      pa_nil
      (by rfl)))
      (@pa_cons _ _ _ _ _ (pv 2)
      pa_nil
      (by rfl))
      (by rfl)))
      (@pa_c _ _ _ _ _ (@pe_tup _ _ _ _ _ (@pa_cons _ _ _ _ _ (pv 1)
      (@pa_cons _ _ _ _ _ (pe_callTy (call_tupleK (K := K) rfl) rfl T.b_tuple PyProof.Rows.Boot.«tuple» (@pa_cons _ _ _ _ _ (pv 2)
      pa_nil
      (by rfl)))
      pa_nil
      (by rfl))
      (by rfl)))
      pa_nil
      (by rfl))
      (by rfl))
      (by rfl))
      (by rfl))
      (by rfl))
      (by rfl))
      (by rfl))
      (by rfl))
      (by rfl)))
      (by rfl)
      (by first | exact .inl rfl | exact .inr rfl | assumption))
      (@pss_cons _ _ _ _ _ (@ps_set _ _ (4) _ _ _ _ sc__law_odd.nd
      rfl
      (by first | exact Or.inl rfl | exact Or.inr rfl)
      (@pe_op _ _ _ _ _ _ _ _ op_cat
      (pv 4)
      (@pe_lst _ _ _ _ (@pa_c _ _ _ _ _ (@pe_tup _ _ _ _ _ (@pa_cons _ _ _ _ _ (pv 1)
      (@pa_cons _ _ _ _ _ (@pe_lst _ _ _ _ pa_nil)
      pa_nil
      (by rfl))
      (by rfl)))
      (@pa_c _ _ _ _ _ (@pe_tup _ _ _ _ _ (@pa_cons _ _ _ _ _ (@pe_lst _ _ _ _ pa_nil)
      (@pa_cons _ _ _ _ _ (@pe_lst _ _ _ _ pa_nil)
      pa_nil
      (by rfl))
      (by rfl)))
      (@pa_c _ _ _ _ _ (@pe_tup _ _ _ _ _ (@pa_cons _ _ _ _ _ L2.pe_dnewK
      (@pa_cons _ _ _ _ _ (pv 2)
      pa_nil
      (by rfl))
      (by rfl)))
      (@pa_c _ _ _ _ _ (@pe_tup _ _ _ _ _ (@pa_cons _ _ _ _ _ (pv 1)
      (@pa_cons _ _ _ _ _ (@pe_lst _ _ _ _ (@pa_cons _ _ _ _ _ (@pe_lst _ _ _ _ (@pa_cons _ _ _ _ _ (pv 3)
      pa_nil
      (by rfl)))
      pa_nil
      (by rfl)))
      pa_nil
      (by rfl))
      (by rfl)))
      (@pa_c _ _ _ _ _ (@pe_tup _ _ _ _ _ (@pa_c _ _ _ _ _ pe_str
      (@pa_c _ _ _ _ _ (pv 1)
      (@pa_c _ _ _ _ _ (pv 2)
      pa_nil
      (by rfl))
      (by rfl))
      (by rfl)))
      (@pa_c _ _ _ _ _ (@pe_tup _ _ _ _ _ (@pa_cons _ _ _ _ _ (pv 1)
      (@pa_cons _ _ _ _ _ (@pe_lst _ _ _ _ (@pa_cons _ _ _ _ _ pe_non
      pa_nil
      (by rfl)))
      pa_nil
      (by rfl))
      (by rfl)))
      (@pa_c _ _ _ _ _ (@pe_tup _ _ _ _ _ (@pa_cons _ _ _ _ _ pe_non
      (@pa_cons _ _ _ _ _ (pv 2)
      pa_nil
      (by rfl))
      (by rfl)))
      pa_nil
      (by rfl))
      (by rfl))
      (by rfl))
      (by rfl))
      (by rfl))
      (by rfl))
      (by rfl))))
      (by rfl)
      (by first | exact .inl rfl | exact .inr rfl | assumption))
      (@pss_one _ _ _ (@ps_ret _ _ _ _ (@pe_ix _ _ _ _ _ _ _ (ix_listK (K := K) rfl)
      (pv 4)
      (pe_call G__law_taken (hr.mono (by decide)) rfl T.g__law_taken T.f__law_taken.kp T.n__law_taken .nil pass0 (@pa_cons _ _ _ _ _ (pv 0)
      (@pa_cons _ _ _ _ _ (pe_callB (call_lenK (K := K) rfl) rfl T.b_len PyProof.Rows.Boot.«len» (@pa_cons _ _ _ _ _ (pv 4)
      pa_nil
      (by rfl)))
      pa_nil
      (by rfl))
      (by rfl)))
      (fun _ _ => rfl))))))), ?_⟩
    obtain ⟨d0, ed⟩ : ∃ d, rd[0]? = some d := by
      cases rd with
      | nil => exact absurd rfl rne
      | cons d r => exact ⟨d, rfl⟩
    obtain ⟨v0, ev, nv0⟩ := nr.get' ed
    refine ⟨_, rfl, r, _, _, v0, rfl, rfl, SqL.of hr2, atI_nat (j := 0) ev, ?_⟩
    have A0 : OdA K p H [.str (Str.ofString "loop"), .int 7, .non] := fun v hv N M bs => by
      rcases List.mem_cons.mp hv with e | hv
      · subst e; exact .other (.str _) rfl
      rcases List.mem_cons.mp hv with e | hv
      · subst e; exact .other (.int _) rfl
      rcases List.mem_cons.mp hv with e | hv
      · subst e; exact .other .non rfl
      cases hv
    refine ⟨le20 (by simp), fun t4 hT => ?_⟩
    generalize hH : upd H t4 _ = H4
    obtain ⟨s4, n4, e4, g4⟩ := newF hp hT hH
    clear hH hT
    have A4 := A0.add s4 (v := .ref t4) fun N M bs => .long (SqT.of g4) (by simp)
    have s04 := s4
    refine ⟨_, rfl, _, rfl, le20 (by simp), fun t5 hT => ?_⟩
    generalize hH : upd H4 t5 _ = H5
    obtain ⟨s5, n5, e5, g5⟩ := newF (s04 _ _ hp) hT hH
    clear hH hT
    have A5 := A4.add s5 (v := .ref t5) fun N M bs => .other (.lst g5) rfl
    have s05 := s04.trans s5
    clear A0 A4 s5 e4 g4 e5 g5
    refine ⟨_, rfl, le20 (by simp), fun t6 hT => ?_⟩
    generalize hH : upd H5 t6 _ = H6
    obtain ⟨s6, n6, e6, g6⟩ := newF (s05 _ _ hp) hT hH
    clear hH hT
    have A6 := A5.add s6 (v := .ref t6) fun N M bs => .long (SqT.of g6) (by simp)
    have s06 := s05.trans s6
    clear A5 s05 s6 e6 g6
    refine ⟨_, rfl, _, rfl, _, rfl, le20 (by simp), fun t7 hT => ?_⟩
    generalize hH : upd H6 t7 _ = H7
    obtain ⟨s7, n7, e7, g7⟩ := newF (s06 _ _ hp) hT hH
    clear hH hT
    have A7 := A6.add s7 (v := .ref t7) fun N M bs => .long (SqT.of g7) (by simp)
    have s07 := s06.trans s7
    clear A6 s06 s7 e7 g7
    refine ⟨_, rfl, w, _, rfl, .inl ⟨SqL.of (s07 _ _ hWw), fun u8 hT => ?_⟩⟩
    generalize hH : upd H7 u8 _ = H8
    obtain ⟨s8, n8, e8, g8⟩ := newF (s07 _ _ hp) hT hH
    clear hH hT
    have s08 := s07.trans s8
    refine ⟨_, rfl, le20 (by simp), fun t8 hT => ?_⟩
    generalize hH : upd H8 t8 _ = H9
    obtain ⟨s9, n9, e9, g9⟩ := newF (s08 _ _ hp) hT hH
    clear hH hT
    have A9 := A7.add (s8.trans s9) (v := .ref t8) fun N M bs => .noway (SqT.of g9) (.tup (hide_x (Same.x s9) _ _ g8)) rfl
    have s09 := s08.trans s9
    clear A7 s07 s8 e8 g8 s08 s9 e9 g9
    refine ⟨_, rfl, _, rfl, r, _, rfl, .inl ⟨SqL.of (s09 _ _ hr2), fun uA hT => ?_⟩⟩
    generalize hH : upd H9 uA _ = HA
    obtain ⟨sA, nA, eA, gA⟩ := newF (s09 _ _ hp) hT hH
    clear hH hT
    have s0A := s09.trans sA
    refine ⟨le20 (by simp), fun tB hT => ?_⟩
    generalize hH : upd HA tB _ = HB
    obtain ⟨sB, nB, eB, gB⟩ := newF (s0A _ _ hp) hT hH
    clear hH hT
    have s0B := s0A.trans sB
    have AB := A9.add (sA.trans sB) (v := .ref tB) fun N M bs => .noring (SqT.of gB) (hide_mk nwp (s0B _ _ hWw)) (.tup (hide_x (Same.x sB) _ _ gA)) rfl
    clear A9 s09 sA eA gA s0A sB eB gB
    refine ⟨le20 (by simp), fun L1 hT => ?_⟩
    generalize hH : upd HB L1 _ = HC
    obtain ⟨sC, nC, eC, gC⟩ := newF (s0B _ _ hp) hT hH
    clear hH hT
    have s0C := s0B.trans sC
    have AC := AB.mono sC
    clear AB s0B sC gC
    refine ⟨_, rfl, _, rfl, le20 (by simp), fun uD hT => ?_⟩
    generalize hH : upd HC uD _ = HD
    obtain ⟨sD, nD, eD, gD⟩ := newF (s0C _ _ hp) hT hH
    clear hH hT
    have s0D := s0C.trans sD
    refine ⟨le20 (by simp), fun tE hT => ?_⟩
    generalize hH : upd HD tE _ = HE
    obtain ⟨sE, nE, eE, gE⟩ := newF (s0D _ _ hp) hT hH
    clear hH hT
    have s0E := s0D.trans sE
    have AE := AC.add (sD.trans sE) (v := .ref tE) fun N M bs => .empty (SqT.of gE) (hide_mk nwp (s0E _ _ hWw)) (hide_x (Same.x sE) _ _ gD)
    have L1E := (sD.trans sE) _ _ eC
    clear AC s0C sD eD gD s0D sE eE gE eC
    refine ⟨le20 (by simp), fun uF hT => ?_⟩
    generalize hH : upd HE uF _ = HF
    obtain ⟨sF, nF, eF, gF⟩ := newF (s0E _ _ hp) hT hH
    clear hH hT
    have s0F := s0E.trans sF
    refine ⟨le20 (by simp), fun uG hT => ?_⟩
    generalize hH : upd HF uG _ = HG
    obtain ⟨sG, nG, eG, gG⟩ := newF (s0F _ _ hp) hT hH
    clear hH hT
    have s0G := s0F.trans sG
    refine ⟨le20 (by simp), fun tH hT => ?_⟩
    generalize hH : upd HG tH _ = HH
    obtain ⟨sH, nH, eH, gH⟩ := newF (s0G _ _ hp) hT hH
    clear hH hT
    have s0H := s0G.trans sH
    have sEH := sF.trans (sG.trans sH)
    have AH := AE.add sEH (v := .ref tH) fun N M bs => .empty (SqT.of gH) (hide_x (Same.x (sG.trans sH)) _ _ gF) (hide_x (Same.x sH) _ _ gG)
    have L1H := sEH _ _ L1E
    clear AE s0E sF eF gF s0F sG eG gG s0G sH eH gH sEH L1E
    intro uI hT
    generalize hH : upd HH uI _ = HI
    obtain ⟨sI, nI, eI, gI⟩ := newF (s0H _ _ hp) hT hH
    clear hH hT
    have s0I := s0H.trans sI
    refine ⟨_, rfl, le20 (by simp), fun tJ hT => ?_⟩
    generalize hH : upd HI tJ _ = HJ
    obtain ⟨sJ, nJ, eJ, gJ⟩ := newF (s0I _ _ hp) hT hH
    clear hH hT
    have s0J := s0I.trans sJ
    have AJ := AH.add (sI.trans sJ) (v := .ref tJ) fun N M bs => .noway (SqT.of gJ) (.dK (hide_x (Same.x sJ) _ _ gI)) rfl
    have L1J := (sI.trans sJ) _ _ L1H
    clear AH s0H sI eI gI s0I sJ eJ gJ L1H
    refine ⟨_, rfl, _, rfl, le20 (by simp), fun uK hT => ?_⟩
    generalize hH : upd HJ uK _ = HK
    obtain ⟨sK, nK, eK, gK⟩ := newF (s0J _ _ hp) hT hH
    clear hH hT
    have s0K := s0J.trans sK
    refine ⟨le20 (by simp), fun uL hT => ?_⟩
    generalize hH : upd HK uL _ = HL
    obtain ⟨sL, nL, eL, gL⟩ := newF (s0K _ _ hp) hT hH
    clear hH hT
    have s0L := s0K.trans sL
    refine ⟨le20 (by simp), fun tM hT => ?_⟩
    generalize hH : upd HL tM _ = HM
    obtain ⟨sM, nM, eM, gM⟩ := newF (s0L _ _ hp) hT hH
    clear hH hT
    have s0M := s0L.trans sM
    have sJM := sK.trans (sL.trans sM)
    have uh : SameU H (hide p HM) := fun b xs e => hide_mk (fun z => by rw [z, hp] at e; cases e) (s0M b _ e)
    have fw := fineNs nw.ok
    have fv := toD_fine nv0.ok
    have AM := AJ.add sJM (v := .ref tM) fun N M bs => lpt_short (SqT.of gM) (hide_mk nwp (s0M _ _ hWw)) (hide_x (Same.x sM) _ _ gL) (nw.mono uh).th (.lst (hide_x (Same.x (sL.trans sM)) _ _ gK) (.cons (nv0.mono uh).th .nil)) fw.1 (by rw [PyData.canLay0, PyData.canLayAll0, fv.1, PyData.canLayAll0]; rfl) (by rw [List.length_map]; omega) (same_lst _)
    have L1M := sJM _ _ L1J
    clear AJ s0J sK eK gK s0K sL eL gL s0L sM eM gM sJM L1J uh
    refine ⟨_, rfl, _, rfl, le20 (by simp), fun tN hT => ?_⟩
    generalize hH : upd HM tN _ = HN
    obtain ⟨sN, nN, eN, gN⟩ := newF (s0M _ _ hp) hT hH
    clear hH hT
    have AN := AM.add sN (v := .ref tN) fun N M bs => .long (SqT.of gN) (by simp)
    have s0N := s0M.trans sN
    have L1N := sN _ _ L1M
    clear AM s0M sN eN gN L1M
    refine ⟨_, rfl, le20 (by simp), fun uO hT => ?_⟩
    generalize hH : upd HN uO _ = HO
    obtain ⟨sO, nO, eO, gO⟩ := newF (s0N _ _ hp) hT hH
    clear hH hT
    have s0O := s0N.trans sO
    refine ⟨le20 (by simp), fun tP hT => ?_⟩
    generalize hH : upd HO tP _ = HP
    obtain ⟨sP, nP, eP, gP⟩ := newF (s0O _ _ hp) hT hH
    clear hH hT
    have s0P := s0O.trans sP
    have uh : SameU H (hide p HP) := fun b xs e => hide_mk (fun z => by rw [z, hp] at e; cases e) (s0P b _ e)
    have AP := AN.add (sO.trans sP) (v := .ref tP) fun N M bs => lpt_short (SqT.of gP) (hide_mk nwp (s0P _ _ hWw)) (hide_x (Same.x sP) _ _ gO) (nw.mono uh).th .non fw.1 rfl (by rw [List.length_map]; omega) same_non
    have L1P := (sO.trans sP) _ _ L1N
    clear AN s0N sO eO gO s0O sP eP gP L1N uh
    refine ⟨_, rfl, le20 (by simp), fun tQ hT => ?_⟩
    generalize hH : upd HP tQ _ = HQ
    obtain ⟨sQ, nQ, eQ, gQ⟩ := newF (s0P _ _ hp) hT hH
    clear hH hT
    have AQ := AP.add sQ (v := .ref tQ) fun N M bs => .noway (SqT.of gQ) .non rfl
    have s0Q := s0P.trans sQ
    have L1Q := sQ _ _ L1P
    clear AP s0P sQ eQ gQ L1P
    refine ⟨le20 (by simp), fun L2 hT => ?_⟩
    generalize hH : upd HQ L2 _ = HR
    obtain ⟨sR, nR, eR, gR⟩ := newF (s0Q _ _ hp) hT hH
    clear hH hT
    have s0R := s0Q.trans sR
    refine ⟨L1, L2, _, _, rfl, rfl, sR _ _ L1Q, eR, le20 (by simp), fun L3 hT => ?_⟩
    generalize hH : upd HR L3 _ = HS
    obtain ⟨sS, nS, eS, gS⟩ := newF (s0R _ _ hp) hT hH
    clear hH hT
    have s0S := s0R.trans sS
    have AS := AQ.mono (sR.trans sS)
    clear AQ s0Q sR eR gR s0R sS gS L1Q
    refine ⟨_, rfl, _, rfl, _, rfl, .inl ⟨L3, _, rfl, .inl (SqL.of eS), p, ns, _, rfl, by simp, s0S _ _ hp, fun HT n ns2 x pT n0 n1 => ?_⟩⟩
    obtain ⟨q, rfl⟩ : ∃ q : Nat, n = q := ⟨n.toNat, by omega⟩
    have hq : q < 16 := by simp at n1; omega
    refine ⟨L3, _, _, _, rfl, rfl, SqL.of (x _ _ nS eS), atI_nat (List.getElem?_eq_getElem (h := hq)), ?_⟩
    refine k _ _ ns2 ((Same.x s0S).trans x) pT fun N M bs => ?_
    exact lpt_mono ((hide_x x).trans hide_sub) (AS _ (List.mem_reverse.mp (List.getElem_mem (h := hq))) N M bs)
end KK

set_option Elab.async false
set_option linter.all false
set_option maxRecDepth 100000
set_option maxHeartbeats 8000000
namespace KK
open PySem PySem.Spec L2 L3
def sp__law_asked (K : PySem.W.Frag) (a : Adr) : Sp := fun vs H Q _ => ∃ (κ : Nat) (net mk b : Addr) (es es2 : NE) (N : ND → List ND) (M : ND → List Bool) (n : Nat) (ns : List ND) (bv : List V) (bs : List ND) (th : V) (r : Bool), vs = [.ref net, .ref mk, .ref b, th, .bl r] ∧ NetOk κ a.Pm H net es N ns ∧ MarkOk κ a.Pm H mk es2 M n ns ∧ H b = some (.lst bv) ∧ NdL κ H bv bs ∧ bs.length ≤ 1000 ∧ (∀ d ∈ bs, d ∈ ns) ∧ LpT K H N M bs th r ∧ ∀ H', Same H H' → Q (.bl true) H'
theorem ok__law_asked {P : Program} {w : World} {K : PySem.W.Frag} {mg : Str → Option Value} {base : Heap} {a : Adr} (T : Txt K mg a) (hw : w.params = a.Pm) : FnOk P w K mg base CX0 8 a._law_asked a._law_asked_fd ["_law_net_here", "_law_marks", "_law_begins", "_law_thing", "_law_due"] (sp__law_asked K a) := by
  have G_is_full_loop := ok_is_full_loop (P := P) (w := w) (base := base) T hw
  refine T.f__law_asked.ok sc__law_asked (fun vs H Q E h => ?_) (fun cdv A outer s H vs Q E hr h => ?_)
  · obtain ⟨κ, net, mk, b, es, es2, N, M, n, ns, bv, bs, th, r, rfl, _⟩ := h
    rfl
  · obtain ⟨κ, net, mk, b, es, es2, N, M, n, ns, bv, bs, th, r, rfl, hN, hM, hb, nb, lb, bn, hL, k⟩ := h
    refine ⟨_, (@pss_cons _ _ _ _ _ (@ps_set _ _ (5) _ _ _ _ sc__law_asked.nd
      rfl
      (by first | exact Or.inl rfl | exact Or.inr rfl)
      (@pe_tup _ _ _ _ _ (@pa_c _ _ _ _ _ (pe_callTy (call_dictN hw (Room.units8 hr)) rfl T.b_dict PyProof.Rows.Boot.«dict» (@pa_cons _ _ _ _ _ (pv 0)
      pa_nil
      (by rfl)))
      (@pa_c _ _ _ _ _ (pe_callTy (call_dictN hw (Room.units8 hr)) rfl T.b_dict PyProof.Rows.Boot.«dict» (@pa_cons _ _ _ _ _ (pv 1)
      pa_nil
      (by rfl)))
      (@pa_c _ _ _ _ _ (pe_callTy (call_listK (K := K) rfl rfl) rfl T.b_list PyProof.Rows.Boot.«list» (@pa_cons _ _ _ _ _ (pv 2)
      pa_nil
      (by rfl)))
      pa_nil
      (by rfl))
      (by rfl))
      (by rfl)))
      (by rfl)
      (by first | exact .inl rfl | exact .inr rfl | assumption))
      (@pss_cons _ _ _ _ _ (@ps_set _ _ (6) _ _ _ _ sc__law_asked.nd
      rfl
      (by first | exact Or.inl rfl | exact Or.inr rfl)
      (pe_call G_is_full_loop (hr.mono (by decide)) rfl T.g_is_full_loop T.f_is_full_loop.kp T.n_is_full_loop .nil pass0 (@pa_c _ _ _ _ _ (pv 0)
      (@pa_c _ _ _ _ _ (pv 1)
      (@pa_c _ _ _ _ _ (pv 2)
      (@pa_c _ _ _ _ _ (pv 3)
      pa_nil
      (by rfl))
      (by rfl))
      (by rfl))
      (by rfl)))
      (by rfl)
      (by first | exact .inl rfl | exact .inr rfl | assumption))
      (@pss_one _ _ _ (@ps_ret _ _ _ _ (pe_and (pe_callB (call_isiK (K := K) rfl "bool") rfl T.b_isinstance PyProof.Rows.Boot.«isinstance» (@pa_cons _ _ _ _ _ (pv 6)
      (@pa_cons _ _ _ _ _ (pe_bltn (v := .ty "bool") rfl T.b_bool PyProof.Rows.Boot.«bool» rfl)
      pa_nil
      (by rfl))
      (by rfl))) (pe_and (@pe_cmpR _ _ _ _ _ _ _ _ op_eq
      (pv 6)
      (pv 4)
      (nomark _)) (pe_one (@pe_cmpR _ _ _ _ _ _ _ _ (op_kept (K := K) rfl hw (Room.units12 hr))
      (pv 5)
      (@pe_tup _ _ _ _ _ (@pa_c _ _ _ _ _ (pv 0)
      (@pa_c _ _ _ _ _ (pv 1)
      (@pa_c _ _ _ _ _ (pv 2)
      pa_nil
      (by rfl))
      (by rfl))
      (by rfl)))
      (nomark _))))))))), ?_⟩
    refine ⟨_, rfl, net, es, κ, rfl, hN.at_, hN.keys, fun d1 hT => ?_⟩
    generalize hH : upd H d1 _ = H1
    have s1 : Same H H1 := by rw [← hH]; exact same_upd hT
    have e1 : H1 d1 = some (DnO a.Pm d1 es) := by rw [← hH]; exact upd_same
    clear hH hT
    have hM1 := hM.mono s1
    refine ⟨_, rfl, mk, es2, κ, rfl, hM1.at_, hM1.keys, fun d2 hT => ?_⟩
    generalize hH : upd H1 d2 _ = H2
    have s2 : Same H1 H2 := by rw [← hH]; exact same_upd hT
    have e2 : H2 d2 = some (DnO a.Pm d2 es2) := by rw [← hH]; exact upd_same
    clear hH hT
    have s02 := s1.trans s2
    refine ⟨_, rfl, .inl ⟨b, bv, rfl, .inl (SqL.of (s02 _ _ hb)), fun d3 hT => ?_⟩⟩
    generalize hH : upd H2 d3 _ = H3
    have s3 : Same H2 H3 := by rw [← hH]; exact same_upd hT
    have e3 : H3 d3 = some (.lst bv) := by rw [← hH]; exact upd_same
    clear hH hT
    have s03 := s02.trans s3
    refine ⟨le20 (by simp), fun d4 hT => ?_⟩
    generalize hH : upd H3 d4 _ = H4
    have s4 : Same H3 H4 := by rw [← hH]; exact same_upd hT
    have e4 : H4 d4 = some (.tup [.ref d1, .ref d2, .ref d3]) := by rw [← hH]; exact upd_same
    clear hH hT
    have s04 := s03.trans s4
    refine ⟨_, rfl, _, rfl, _, rfl, _, rfl, κ, net, mk, b, es, es2, N, M, n, ns, bv, bs, th, r, rfl, hN.mono s04, hM.mono s04, s04 _ _ hb, nb.mono (Same.u s04), lb, bn, lpt_mono s04 hL, fun H5 s5 => ?_⟩
    have s05 := s04.trans s5
    refine ⟨_, rfl, .bl r, _, true, rfl, .bl r, rfl, true, rfl, iteT ?_⟩
    refine ⟨_, rfl, _, rfl, by cases r <;> rfl, true, by simp, iteT ?_⟩
    refine ⟨_, rfl, _, rfl, _, rfl, _, rfl, le20 (by simp), fun d6 hT => ?_⟩
    generalize hH : upd H5 d6 _ = H6
    have s6 : Same H5 H6 := by rw [← hH]; exact same_upd hT
    have e6 : H6 d6 = some (.tup [.ref net, .ref mk, .ref b]) := by rw [← hH]; exact upd_same
    clear hH hT
    have s06 := s05.trans s6
    have s46 := s5.trans s6
    have hN6 := hN.mono s06
    have hM6 := hM.mono s06
    refine ⟨d4, d6, d1, d2, d3, net, mk, b, es, es2, bv, κ, rfl, rfl, SqT.of (s46 _ _ e4), SqT.of e6, ((s2.trans s3).trans (s4.trans s46)) _ _ e1, hN6.at_, (s3.trans (s4.trans s46)) _ _ e2, hM6.at_, SqL.of ((s4.trans s46) _ _ e3), SqL.of (s06 _ _ hb), fun e he => ⟨hN6.keys e he, hN6.refs e he⟩, fun e he => ⟨hM6.keys e he, hM6.refs e he⟩, (nb.mono (Same.u s06)).all, k _ s06⟩
end KK

set_option Elab.async false
set_option linter.all false
set_option maxRecDepth 100000
set_option maxHeartbeats 8000000
namespace KK
open PySem PySem.Spec L2 L3
theorem due_step {K : PySem.W.Frag} {a : Adr} {κ : Nat} {H : Hp} {net mk b w r : Addr} {es es2 : NE} {N : ND → List ND} {M : ND → List Bool} {n : Nat} {ns : List ND} {bv wv rv : List V} {bs wd rd : List ND} {z0 z1 z2 z6 z7 z8 z11 : Option V} {Q : VK}
    (hN : NetOk κ a.Pm H net es N ns) (hM : MarkOk κ a.Pm H mk es2 M n ns) (hb : H b = some (.lst bv)) (nb : NdL κ H bv bs) (hw : H w = some (.lst wv)) (nw : NdL κ H wv wd) (hr : H r = some (.lst rv)) (nr : NdL κ H rv rd) (wn : ∀ d ∈ wd, d ∈ ns) (rn : ∀ d ∈ rd, d ∈ ns) (lw : wd.length ≤ 300) (lr : rd.length ≤ 300)
    (h : ∀ (due : Bool) H', Same H H' → (∀ H'' t, Same H H'' → H'' t = some (.tup [.ref w, .ref r]) → LpT K H'' N M bs (.ref t) due) → Q (.bl due) H') :
    tAndV (tOp (rEqD K true) (tVar 10) (tLst tNil)) (tCall (sp__law_is_full K a) [] E0 (tCons (tVar 3) (tCons (tVar 4) (tCons (tVar 5) (tCons (tVar 9) (tCons (tVar 10) tNil)))))) [z0, z1, z2, some (.ref net), some (.ref mk), some (.ref b), z6, z7, z8, some (.ref w), some (.ref r), z11] H Q := by
  refine ⟨_, rfl, by decide, fun B hB => ?_⟩
  have s := same_upd (o := .lst []) hB
  have eB : (upd H B (.lst [])) B = some (.lst []) := upd_same
  generalize upd H B (.lst []) = H1 at s eB ⊢
  refine neNil (s _ _ hr) (nr.mono (Same.u s)) eB (fun re => ⟨false, rfl, iteF (h false _ s fun H2 t s2 e => ?_)⟩) (fun rne => ⟨true, rfl, iteT ?_⟩)
  · subst re
    cases nr
    exact .empty (SqT.of e) (s2 _ _ hw) (s2 _ _ hr)
  · refine ⟨_, rfl, _, rfl, _, rfl, _, rfl, _, rfl, κ, net, mk, b, w, r, es, es2, N, M, n, ns, bv, wv, rv, bs, wd, rd, rfl, hN.mono s, hM.mono s, s _ _ hb, nb.mono (Same.u s), s _ _ hw, nw.mono (Same.u s), s _ _ hr, nr.mono (Same.u s), rne, wn, rn, lw, lr, fun H2 s2 => h _ H2 (s.trans s2) fun H3 t s3 e => ?_⟩
    rw [← full_same N M rne (fun d hd => hM.len d (rn d hd))]
    exact .loop (SqT.of e) (s3 _ _ hw) (s3 _ _ hr) (nw.mono (Same.u s3)).th (nr.mono (Same.u s3)).th (fineNs nw.ok).1 (fineNs nr.ok).1 (fun z => rne (List.map_eq_nil_iff.mp z)) (by rw [List.length_map]; exact lw) (by rw [List.length_map]; exact lr)
def sp_law (K : PySem.W.Frag) (a : Adr) : Sp := fun vs H Q _ => ∃ (p : Addr) (ns : List Int), vs = [.ref p] ∧ SqL K H p (ns.map V.int) ∧ ns.length ≤ 63 ∧ ∀ H', Q (.bl true) H'
theorem ok_law {P : Program} {w : World} {K : PySem.W.Frag} {mg : Str → Option Value} {base : Heap} {a : Adr} (T : Txt K mg a) (hw : w.params = a.Pm) : FnOk P w K mg base CX0 9 a.law a.law_fd ["_law_script"] (sp_law K a) := by
  have G__law_cell_at := ok__law_cell_at (P := P) (w := w) (base := base) T hw
  have G__law_draws := ok__law_draws (P := P) (w := w) (base := base) T hw
  have G__law_taken := ok__law_taken (P := P) (w := w) (base := base) T hw
  have G__law_net := ok__law_net (P := P) (w := w) (base := base) T hw
  have G__law_walk := ok__law_walk (P := P) (w := w) (base := base) T hw
  have G__law_is_full := ok__law_is_full (P := P) (w := w) (base := base) T hw
  have G__law_spoilt := ok__law_spoilt (P := P) (w := w) (base := base) T hw
  have G__law_odd := ok__law_odd (P := P) (w := w) (base := base) T hw
  have G__law_asked := ok__law_asked (P := P) (w := w) (base := base) T hw
  refine T.f_law.ok sc_law (fun vs H Q E h => ?_) (fun cdv A outer s H vs Q E hr h => ?_)
  · obtain ⟨p, ns, rfl, _⟩ := h
    rfl
  · obtain ⟨p, ns, rfl, hq, hz, k⟩ := h
    refine ⟨_, (@pss_cons _ _ _ _ _ (@ps_set _ _ (1) _ _ _ _ sc_law.nd
      rfl
      (by first | exact Or.inl rfl | exact Or.inr rfl)
      (pe_call G__law_draws (hr.mono (by decide)) rfl T.g__law_draws T.f__law_draws.kp T.n__law_draws .nil pass0 (@pa_cons _ _ _ _ _ (@pe_op _ _ _ _ _ _ _ _ op_fdiv
      (pe_call G__law_cell_at (hr.mono (by decide)) rfl T.g__law_cell_at T.f__law_cell_at.kp T.n__law_cell_at .nil pass0 (@pa_cons _ _ _ _ _ (pv 0)
      (@pa_cons _ _ _ _ _ pe_int
      pa_nil
      (by rfl))
      (by rfl)))
      pe_int)
      (@pa_cons _ _ _ _ _ pe_int
      pa_nil
      (by rfl))
      (by rfl)))
      (by rfl)
      (by first | exact .inl rfl | exact .inr rfl | assumption))
      (@pss_cons _ _ _ _ _ (ps_asg (pe_call G__law_net (hr.mono (by decide)) rfl T.g__law_net T.f__law_net.kp T.n__law_net .nil pass0 (@pa_cons _ _ _ _ _ (@pe_op _ _ _ _ _ _ _ _ op_mod
      (pe_call G__law_cell_at (hr.mono (by decide)) rfl T.g__law_cell_at T.f__law_cell_at.kp T.n__law_cell_at .nil pass0 (@pa_cons _ _ _ _ _ (pv 0)
      (@pa_cons _ _ _ _ _ pe_int
      pa_nil
      (by rfl))
      (by rfl)))
      pe_int)
      (@pa_cons _ _ _ _ _ (pv 1)
      pa_nil
      (by rfl))
      (by rfl))) (pg_tupK (K := K) (n := 4) rfl rfl (pgs_cons (pg_name (i := 2) sc_law.nd rfl (by first | exact Or.inl rfl | exact Or.inr rfl)) (pgs_cons (pg_name (i := 3) sc_law.nd rfl (by first | exact Or.inl rfl | exact Or.inr rfl)) (pgs_cons (pg_name (i := 4) sc_law.nd rfl (by first | exact Or.inl rfl | exact Or.inr rfl)) (pgs_cons (pg_name (i := 5) sc_law.nd rfl (by first | exact Or.inl rfl | exact Or.inr rfl)) pgs_nil))))))
      (@pss_cons _ _ _ _ _ (ps_for PassesOwn.never rfl (pi_listK (K := K) rfl (pe_slice (sl_listK (K := K) rfl) (pv 0) (po_some pe_int) (po_some pe_int))) (pg_name (i := 6) sc_law.nd rfl (by first | exact Or.inl rfl | exact Or.inr rfl)) (@pss_cons _ _ _ _ _ (@ps_set _ _ (1) _ _ _ _ sc_law.nd
      rfl
      (by first | exact Or.inl rfl | exact Or.inr rfl)
      (pe_call G__law_draws (hr.mono (by decide)) rfl T.g__law_draws T.f__law_draws.kp T.n__law_draws .nil pass0 (@pa_cons _ _ _ _ _ (pv 6)
      (@pa_cons _ _ _ _ _ pe_int
      pa_nil
      (by rfl))
      (by rfl)))
      (by rfl)
      (by first | exact .inl rfl | exact .inr rfl | assumption))
      (@pss_cons _ _ _ _ _ (@ps_set _ _ (7) _ _ _ _ sc_law.nd
      rfl
      (by first | exact Or.inl rfl | exact Or.inr rfl)
      (@pe_ix _ _ _ _ _ _ _ (ix_listK (K := K) rfl)
      (@pe_op _ _ _ _ _ _ _ _ op_cat
      (pv 5)
      (pv 2))
      (pe_call G__law_taken (hr.mono (by decide)) rfl T.g__law_taken T.f__law_taken.kp T.n__law_taken .nil pass0 (@pa_cons _ _ _ _ _ (pv 1)
      (@pa_cons _ _ _ _ _ (@pe_op _ _ _ _ _ _ _ _ op_add
      (pe_callB (call_lenK (K := K) rfl) rfl T.b_len PyProof.Rows.Boot.«len» (@pa_cons _ _ _ _ _ (pv 5)
      pa_nil
      (by rfl)))
      (pe_callB (call_lenK (K := K) rfl) rfl T.b_len PyProof.Rows.Boot.«len» (@pa_cons _ _ _ _ _ (pv 2)
      pa_nil
      (by rfl))))
      pa_nil
      (by rfl))
      (by rfl)))
      (fun _ _ => rfl))
      (by rfl)
      (by first | exact .inl rfl | exact .inr rfl | assumption))
      (pss_join (@ps_if _ _ _ _ _ _ _ _ (PW.pt (pw_and (@pt_cmpR _ _ _ _ _ _ _ _ (op_neDK (K := K) rfl (Room.units hr))
      (pv 5)
      (@pe_lst _ _ _ _ pa_nil)
      (nomark _)) (pw_and1 (@pt_cmpR _ _ _ _ _ _ _ _ op_gt
      (pe_call G__law_taken (hr.mono (by decide)) rfl T.g__law_taken T.f__law_taken.kp T.n__law_taken .nil pass0 (@pa_cons _ _ _ _ _ (pv 1)
      (@pa_cons _ _ _ _ _ pe_int
      pa_nil
      (by rfl))
      (by rfl)))
      pe_int
      (nomark _)))))
      (@pss_one _ _ _ (@ps_set _ _ (7) _ _ _ _ sc_law.nd
      rfl
      (by first | exact Or.inl rfl | exact Or.inr rfl)
      (@pe_ix _ _ _ _ _ _ _ (ix_listK (K := K) rfl)
      (pv 5)
      (pe_call G__law_taken (hr.mono (by decide)) rfl T.g__law_taken T.f__law_taken.kp T.n__law_taken .nil pass0 (@pa_cons _ _ _ _ _ (pv 1)
      (@pa_cons _ _ _ _ _ (pe_callB (call_lenK (K := K) rfl) rfl T.b_len PyProof.Rows.Boot.«len» (@pa_cons _ _ _ _ _ (pv 5)
      pa_nil
      (by rfl)))
      pa_nil
      (by rfl))
      (by rfl)))
      (fun _ _ => rfl))
      (by rfl)
      (by first | exact .inl rfl | exact .inr rfl | assumption)))
      pss_nil)
          (@pss_cons _ _ _ _ _ (@ps_set _ _ (8) _ _ _ _ sc_law.nd
      rfl
      (by first | exact Or.inl rfl | exact Or.inr rfl)
      (pe_call G__law_walk (hr.mono (by decide)) rfl T.g__law_walk T.f__law_walk.kp T.n__law_walk .nil pass0 (@pa_c _ _ _ _ _ (pv 3)
      (@pa_c _ _ _ _ _ (pv 1)
      (@pa_c _ _ _ _ _ (pv 7)
      pa_nil
      (by rfl))
      (by rfl))
      (by rfl)))
      (by rfl)
      (by first | exact .inl rfl | exact .inr rfl | assumption))
      (@pss_one _ _ _ (@ps_if _ _ _ _ _ _ _ _ (@pt_cmpR _ _ _ _ _ _ _ _ op_notN
      (pv 8)
      pe_non
      (nomark _))
      (@pss_cons _ _ _ _ _ (ps_asg (pe_call G__law_spoilt (hr.mono (by decide)) rfl T.g__law_spoilt T.f__law_spoilt.kp T.n__law_spoilt .nil pass0 (@pa_c _ _ _ _ _ (pv 1)
      (@pa_c _ _ _ _ _ (pv 2)
      (@pa_c _ _ _ _ _ (@pe_ix _ _ _ _ _ _ _ (ix_tupK (K := K) rfl)
      (pv 8)
      pe_int
      (fun _ _ => rfl))
      (@pa_c _ _ _ _ _ (@pe_ix _ _ _ _ _ _ _ (ix_tupK (K := K) rfl)
      (pv 8)
      pe_int
      (fun _ _ => rfl))
      pa_nil
      (by rfl))
      (by rfl))
      (by rfl))
      (by rfl))) (pg_tupK (K := K) (n := 2) rfl rfl (pgs_cons (pg_name (i := 9) sc_law.nd rfl (by first | exact Or.inl rfl | exact Or.inr rfl)) (pgs_cons (pg_name (i := 10) sc_law.nd rfl (by first | exact Or.inl rfl | exact Or.inr rfl)) pgs_nil))))
      (@pss_cons _ _ _ _ _ (@ps_set _ _ (11) _ _ _ _ sc_law.nd
      rfl
      (by first | exact Or.inl rfl | exact Or.inr rfl)
      (pe_and (@pe_cmpR _ _ _ _ _ _ _ _ (op_neDK (K := K) rfl (Room.units hr))
      (pv 10)
      (@pe_lst _ _ _ _ pa_nil)
      (nomark _)) (pe_one (pe_call G__law_is_full (hr.mono (by decide)) rfl T.g__law_is_full T.f__law_is_full.kp T.n__law_is_full .nil pass0 (@pa_c _ _ _ _ _ (pv 3)
      (@pa_c _ _ _ _ _ (pv 4)
      (@pa_c _ _ _ _ _ (pv 5)
      (@pa_c _ _ _ _ _ (pv 9)
      (@pa_c _ _ _ _ _ (pv 10)
      pa_nil
      (by rfl))
      (by rfl))
      (by rfl))
      (by rfl))
      (by rfl)))))
      (by rfl)
      (by first | exact .inl rfl | exact .inr rfl | assumption))
      (pss_join (@ps_if _ _ _ _ _ _ _ _ (@pt_not _ _ _ _ (pt_val (pe_call G__law_asked (hr.mono (by decide)) rfl T.g__law_asked T.f__law_asked.kp T.n__law_asked .nil pass0 (@pa_c _ _ _ _ _ (pv 3)
      (@pa_c _ _ _ _ _ (pv 4)
      (@pa_c _ _ _ _ _ (pv 5)
      (@pa_c _ _ _ _ _ (@pe_tup _ _ _ _ _ (@pa_cons _ _ _ _ _ (pv 9)
      (@pa_cons _ _ _ _ _ (pv 10)
      pa_nil
      (by rfl))
      (by rfl)))
      (@pa_c _ _ _ _ _ (pv 11)
      pa_nil
      (by rfl))
      (by rfl))
      (by rfl))
      (by rfl))
      (by rfl)))))
      (@pss_one _ _ _ (@ps_ret _ _ _ _ pe_bl))
      pss_nil)
          (@pss_one _ _ _ (@ps_if _ _ _ _ _ _ _ _ (@pt_not _ _ _ _ (pt_val (pe_call G__law_asked (hr.mono (by decide)) rfl T.g__law_asked T.f__law_asked.kp T.n__law_asked .nil pass0 (@pa_c _ _ _ _ _ (pv 3)
      (@pa_c _ _ _ _ _ (pv 4)
      (@pa_c _ _ _ _ _ (pv 5)
      (@pa_c _ _ _ _ _ (pe_call G__law_odd (hr.mono (by decide)) rfl T.g__law_odd T.f__law_odd.kp T.n__law_odd .nil pass0 (@pa_c _ _ _ _ _ (pv 1)
      (@pa_c _ _ _ _ _ (@pe_ix _ _ _ _ _ _ _ (ix_tupK (K := K) rfl)
      (pv 8)
      pe_int
      (fun _ _ => rfl))
      (@pa_c _ _ _ _ _ (@pe_ix _ _ _ _ _ _ _ (ix_tupK (K := K) rfl)
      (pv 8)
      pe_int
      (fun _ _ => rfl))
      pa_nil
      (by rfl))
      (by rfl))
      (by rfl)))
      (@pa_c _ _ _ _ _ pe_bl
      pa_nil
      (by rfl))
      (by rfl))
      (by rfl))
      (by rfl))
      (by rfl)))))
      (@pss_one _ _ _ (@ps_ret _ _ _ _ pe_bl))
      pss_nil)))))
      pss_nil)))))))
      (@pss_one _ _ _ (@ps_ret _ _ _ _ pe_bl))))), ?_⟩
    have sL : ∀ {A B : Hp} {a xs}, Same A B → SqL K A a xs → SqL K B a xs := fun s h => h.imp (fun h => h.imp (s _ _) fun ⟨o, e⟩ => ⟨o, s _ _ e⟩) id
    refine ⟨_, rfl, p, ns, 0, rfl, hq, fun n0 => ⟨_, _, rfl, rfl, ⟨by decide, by decide⟩, _, 90, rfl, by decide, fun H1 y ns1 s1 y0 hy => ?_⟩⟩
    refine ⟨_, rfl, p, ns, 0, rfl, sL s1 hq, fun n1 => ⟨_, _, rfl, rfl, (show (0 : Int) < 252 by decide), _, rfl, _, y, ns1, rfl, hy, fun H2 t L net mk b κ nv nd es es2 N M n bv bs x2 ht hL nL ndne lnd hN hM hb nb lb bn hκ => ?_⟩⟩
    have s02 : Same H H2 := fun c o e => x2 _ _ (fun z => by rw [z, y0] at e; cases e) (s1 _ _ e)
    refine ⟨t, _, rfl, SqT.of ht, rfl, _, _, rfl, _, _, rfl, _, _, rfl, _, _, rfl, rfl, ?_⟩
    refine ⟨_, rfl, 1, rfl, 31, rfl, p, _, rfl, sL s02 hq, fun S hS => ?_⟩
    obtain ⟨cs, ecs⟩ : ∃ cs : List Int, cutV (ns.map V.int) (some 1) (some 31) = cs.map V.int := by
      unfold cutV
      exact ⟨_, by rw [← List.map_drop, ← List.map_take]⟩
    rw [ecs]
    have s3 := same_upd (o := .lst (cs.map V.int)) hS
    have eS : (upd H2 S (.lst (cs.map V.int))) S = some (.lst (cs.map V.int)) := upd_same
    generalize upd H2 S (.lst (cs.map V.int)) = H3 at s3 eS ⊢
    refine ⟨S, rfl, ⟨_, SqL.of eS⟩, ?_⟩
    refine for_list (K := K) (xs := cs.map V.int) (fun i σ H' => ∃ (z1 z6 z7 z8 z9 z10 z11 : Option V), σ = [some (.ref p), z1, some (.ref L), some (.ref net), some (.ref mk), some (.ref b), z6, z7, z8, z9, z10, z11] ∧ Same H3 H') ?_ ?_ ?_ ?_
    · exact ⟨_, _, _, _, _, _, _, rfl, .refl _⟩
    · rintro i σ H' hi ⟨z1, z6, z7, z8, z9, z10, z11, rfl, s'⟩
      exact SqL.of (s' _ _ eS)
    · rintro i y σ H4 hy ⟨z1, z6, z7, z8, z9, z10, z11, rfl, s4⟩
      rw [List.getElem?_map] at hy
      obtain ⟨ci, _, rfl⟩ := Option.map_eq_some_iff.mp hy
      have s24 := s3.trans s4
      have hN4 := hN.mono s24
      have hM4 := hM.mono s24
      have hb4 := s24 _ _ hb
      have nb4 := nb.mono (Same.u s24)
      have hL4 := s24 _ _ hL
      have nL4 := nL.mono (Same.u s24)
      have lbv := nb.len
      have lnv := nL.len
      have ln0 := List.length_pos_iff.mpr ndne
      clear hN hM hb nb hL nL ht x2 s1 s02 y0 hq sL s3 s24 hy
      refine ⟨_, rfl, ci, 40, rfl, by decide, fun H5 x ns5 s5 x0 hx => ?_⟩
      have q5 : Same H4 (hide x H5) := fun c o e => hide_mk (fun z => by rw [z, x0] at e; cases e) (s5 _ _ e)
      have nLx : L ≠ x := fun z => by rw [z, x0] at hL4; cases hL4
      have nbx : b ≠ x := fun z => by rw [z, x0] at hb4; cases hb4
      refine ⟨_, rfl, _, rfl, b, L, bv, nv, rfl, rfl, s5 _ _ hb4, s5 _ _ hL4, by rw [sizeLine_eq]; omega, fun D hD => ?_⟩
      have s6 := same_upd (o := .lst (bv ++ nv)) hD
      have e6 : (upd H5 D (.lst (bv ++ nv))) D = some (.lst (bv ++ nv)) := upd_same
      generalize upd H5 D (.lst (bv ++ nv)) = H6 at s6 e6 ⊢
      have nDx : D ≠ x := fun z => by rw [z, hx] at hD; cases hD
      have s46 := s5.trans s6
      refine ⟨_, rfl, _, rfl, .inl ⟨b, bv, rfl, .inl (SqL.of (s46 _ _ hb4)), _, rfl, .inl ⟨L, nv, rfl, .inl (SqL.of (s46 _ _ hL4)), _, _, rfl, rfl, x, ns5, _, rfl, by omega, s6 _ _ hx, fun H7 n7 ns7 x7 p7 m0 m1 => ?_⟩⟩⟩
      obtain ⟨j, rfl⟩ : ∃ j : Nat, n7 = j := ⟨n7.toNat, by omega⟩
      have hj : j < (bv ++ nv).length := by rw [List.length_append]; omega
      have x57 : SameX x H5 H7 := (Same.x s6).trans x7
      have q7 := q5.trans (hide_x x57)
      have q7' := q7.trans hide_sub
      obtain ⟨d7, ed7, hd7⟩ := ((nb4.mono (Same.u q7')).app (nL4.mono (Same.u q7'))).get (List.getElem?_eq_getElem hj)
      have dn7 : d7 ∈ nd := by
        rcases List.mem_append.mp (List.mem_of_getElem? ed7) with h | h
        · exact bn d7 h
        · exact h
      refine ⟨D, _, _, (bv ++ nv)[j], rfl, rfl, SqL.of (x7 _ _ nDx e6), atI_nat (List.getElem?_eq_getElem hj), ?_⟩
      generalize (bv ++ nv)[j] = v7 at hd7 ⊢
      clear ed7 hj m0 m1 x7 s46 s6 e6
      refine ⟨fun σ H' => ∃ (v : V) (d : ND) (ns' : List Int), σ = [some (.ref p), some (.ref x), some (.ref L), some (.ref net), some (.ref mk), some (.ref b), some (.int ci), some v, z8, z9, z10, z11] ∧ Same H4 (hide x H') ∧ H' x = some (.lst (ns'.map V.int)) ∧ Nd κ H' v d ∧ d ∈ nd, ?_, ?_⟩
      · refine ⟨_, rfl, by decide, fun B hB => ?_⟩
        have s8 := same_upd (o := .lst []) hB
        have e8 : (upd H7 B (.lst [])) B = some (.lst []) := upd_same
        generalize upd H7 B (.lst []) = H8 at s8 e8 ⊢
        have q8 := q7.trans (hide_x (Same.x s8))
        have q8' := q8.trans hide_sub
        refine neNil (q8' _ _ hb4) (nb4.mono (Same.u q8')) e8 (fun _ => ⟨_, rfl, iteF (iteF ⟨v7, d7, ns7, rfl, q8, s8 _ _ p7, hd7.mono (Same.u s8), dn7⟩)⟩) (fun bne => ⟨_, rfl, iteT ?_⟩)
        have lb0 := List.length_pos_iff.mpr bne
        refine ⟨_, rfl, x, ns7, 3, rfl, by decide, s8 _ _ p7, fun H9 n9 ns9 x9 p9 _ _ => ⟨_, _, rfl, rfl, _, rfl, ite2 (fun _ => ?_) (fun _ => ?_)⟩⟩
        · have q9 := q8.trans (hide_x x9)
          have q9' := q9.trans hide_sub
          refine ⟨_, rfl, _, rfl, _, rfl, .inl ⟨b, bv, rfl, .inl (SqL.of (q9' _ _ hb4)), x, ns9, _, rfl, by omega, p9, fun HA nA nsA xA pA a0 a1 => ?_⟩⟩
          obtain ⟨j, rfl⟩ : ∃ j : Nat, nA = j := ⟨nA.toNat, by omega⟩
          have hj : j < bv.length := by omega
          have qA := q9.trans (hide_x xA)
          have qA' := qA.trans hide_sub
          obtain ⟨dA, edA, hdA⟩ := (nb4.mono (Same.u qA')).get (List.getElem?_eq_getElem hj)
          exact ⟨b, _, _, bv[j], rfl, rfl, SqL.of (qA' _ _ hb4), atI_nat (List.getElem?_eq_getElem hj), bv[j], dA, nsA, rfl, qA, pA, hdA, bn dA (List.mem_of_getElem? edA)⟩
        · have u9 : SameU H8 H9 := SameX.u x9 (s8 _ _ p7) (fun _ z => by cases z)
          exact ⟨v7, d7, ns9, rfl, q8.trans (hide_x x9), p9, (hd7.mono (Same.u s8)).mono u9, dn7⟩
      clear q7 q7' x57 hd7 dn7 q5
      rintro σ1 H8 ⟨v, d, ns8, rfl, q8, p8, hd, dn⟩
      refine ⟨_, rfl, _, rfl, _, rfl, κ, net, x, ns8, es, N, nd, v, d, rfl, p8, hN4.mono q8, lnd, hd, dn, fun H9 ns9 x9 p9 => ?_, fun H9 t w r wv rv wd rd ns9 x9 p9 ht hw9 hr9 nw nr wn rn rne lw lr nwx nrx => ?_⟩
      · exact ⟨_, rfl, rfl, false, rfl, iteF ⟨_, _, _, _, _, _, _, rfl, s4.trans ((q8.trans (hide_x x9)).trans hide_sub)⟩⟩
      refine ⟨_, rfl, rfl, true, rfl, iteT ?_⟩
      have q9 := q8.trans (hide_x x9)
      have q9' := q9.trans hide_sub
      have ntx : t ≠ x := fun z => by rw [z, p9] at ht; cases ht
      refine ⟨_, rfl, _, rfl, _, rfl, t, _, _, .ref w, rfl, rfl, SqT.of ht, atI_nat (j := 0) rfl, _, rfl, t, _, _, .ref r, rfl, rfl, SqT.of ht, atI_nat (j := 1) rfl, κ, x, L, w, r, ns9, nv, wv, rv, nd, wd, rd, rfl, p9, q9' _ _ hL4, nL4.mono (Same.u q9'), ndne, nLx, hw9, hr9, nw, nr, wn, rn, rne, lw, lr, nwx, nrx, fun HA t' w' r' wv' rv' wd' rd' nsA xA pA ht' hw' hr' nw' nr' wn' rn' lw' lr' nwx' nrx' => ?_⟩
      refine ⟨t', _, rfl, SqT.of ht', rfl, _, _, rfl, _, _, rfl, rfl, ?_⟩
      have qA := q9.trans (hide_x xA)
      have qA' := qA.trans hide_sub
      have uA : SameU H9 HA := SameX.u xA p9 (fun _ z => by cases z)
      have htA := xA _ _ ntx ht
      have hwA := xA _ _ nwx hw9
      have hrA := xA _ _ nrx hr9
      have nwA := nw.mono uA
      have nrA := nr.mono uA
      clear q9 q9' uA xA nw nr hw9 hr9 ht p9 x9 q8 p8 ht'
      refine due_step (hN4.mono qA') (hM4.mono qA') (qA' _ _ hb4) (nb4.mono (Same.u qA')) hw' nw' hr' nr' wn' rn' (by omega) (by omega) fun due HB sB hl => ?_
      refine ⟨fun σ H' => σ = [some (.ref p), some (.ref x), some (.ref L), some (.ref net), some (.ref mk), some (.ref b), some (.int ci), some v, some (.ref t), some (.ref w'), some (.ref r'), some (.bl due)] ∧ Same HA H', ?_, ?_⟩
      · refine ⟨_, rfl, _, rfl, _, rfl, _, rfl, _, rfl, le20 (by simp), fun T hT => ?_⟩
        have sC := same_upd (o := .tup [.ref w', .ref r']) hT
        have eC : (upd HB T (.tup [.ref w', .ref r'])) T = some (.tup [.ref w', .ref r']) := upd_same
        generalize upd HB T (.tup [.ref w', .ref r']) = HC at sC eC ⊢
        have sAC := sB.trans sC
        have qC := qA'.trans sAC
        exact ⟨_, rfl, κ, net, mk, b, es, es2, N, M, n, nd, bv, bs, .ref T, due, rfl, hN4.mono qC, hM4.mono qC, qC _ _ hb4, nb4.mono (Same.u qC), by omega, bn, hl _ T sAC eC, fun HD sD => ⟨true, rfl, iteF ⟨rfl, sAC.trans sD⟩⟩⟩
      clear hl sB nw' nr' wn' rn' hw' hr'
      rintro σ1 HE ⟨rfl, sE⟩
      have qE := qA.trans (hide_x (Same.x sE))
      refine ⟨_, rfl, _, rfl, _, rfl, _, rfl, _, rfl, t, _, _, .ref w, rfl, rfl, SqT.of (sE _ _ htA), atI_nat (j := 0) rfl, _, rfl, t, _, _, .ref r, rfl, rfl, SqT.of (sE _ _ htA), atI_nat (j := 1) rfl, κ, x, w, r, nsA, wv, rv, wd, rd, rfl, sE _ _ pA, sE _ _ hwA, sE _ _ hrA, nwA.mono (Same.u sE), nrA.mono (Same.u sE), rne, lw, nwx, nrx, fun HF u nsF xF pF od => ?_⟩
      have qF := (qE.trans (hide_x xF)).trans hide_sub
      exact ⟨κ, net, mk, b, es, es2, N, M, n, nd, bv, bs, u, false, rfl, hN4.mono qF, hM4.mono qF, qF _ _ hb4, nb4.mono (Same.u qF), by omega, bn, od N M bs, fun HG sG => ⟨true, rfl, iteF ⟨_, _, _, _, _, _, _, rfl, s4.trans (qF.trans sG)⟩⟩⟩
    rintro σ H4 ⟨z1, z6, z7, z8, z9, z10, z11, rfl, s4⟩
    exact k _
end KK

set_option Elab.async false
set_option linter.all false
set_option maxRecDepth 100000
set_option maxHeartbeats 4000000
namespace KK
open PySem PySem.Spec L2 L3
def spL (K : PySem.W.Frag) : Sp := fun vs H Q _ => ∃ (p : Addr) (ns : List Int), vs = [.ref p] ∧ SqL K H p (ns.map V.int) ∧ ns.length ≤ 63 ∧ ∀ H', Q (.bl true) H'
theorem all_mk {l : PySem.W.OpenLaw} {w : World} {K : PySem.W.Frag} {h : Heap} {mg : Str → Option Value} {fa : Addr} (X : K.In h) (G : h.Ns mainGlobals mg) (hfa : mg "law" = some (.ref fa))
    {f0 f1 f2 f3 f4 f5 f6 f7 f8 f9 f10 f11 f12 f13 f14 : Addr}
    {od0 an0 od1 an1 od2 an2 od3 an3 od4 an4 od5 an5 od6 an6 od7 an7 od8 an8 od9 an9 od10 an10 od11 an11 od12 an12 od13 an13 od14 an14 : Option Addr}
    {sl0 sl1 sl2 sl3 sl4 sl5 sl6 sl7 sl8 sl9 sl10 sl11 sl12 sl13 sl14 : Array (Option Value)}
    {oc0 kV0 dc0 pm0 cd0 ct0 oc1 kV1 dc1 pm1 cd1 ct1 oc2 kV2 dc2 pm2 cd2 ct2 oc3 kV3 dc3 pm3 cd3 ct3 oc4 kV4 dc4 pm4 cd4 ct4 oc5 kV5 dc5 pm5 cd5 ct5 oc6 kV6 dc6 pm6 cd6 ct6 oc7 kV7 dc7 pm7 cd7 ct7 oc8 kV8 dc8 pm8 cd8 ct8 oc9 kV9 dc9 pm9 cd9 ct9 oc10 kV10 dc10 pm10 cd10 ct10 oc11 kV11 dc11 pm11 cd11 ct11 oc12 kV12 dc12 pm12 cd12 ct12 oc13 kV13 dc13 pm13 cd13 ct13 oc14 kV14 dc14 pm14 cd14 ct14 : Value}
    (a0 : PySem.W.nsIn K mainGlobals "is_same" = some (some (.ref f0)))
    (l0 : K.lookup f0 = some ⟨oc0, od0, .func (PySem.W.fnOf "is_same" "is_same" (defArgs s_is_same) (defBody s_is_same) (defScope s_is_same) .none kV0 dc0 pm0 an0 cd0 ct0), sl0⟩)
    (c0 : PySem.W.codeIn K cd0 "is_same" = true)
    (k0 : PySem.W.keepIn K (.ref f0) = true)
    (a1 : PySem.W.nsIn K mainGlobals "is_full_loop" = some (some (.ref f1)))
    (l1 : K.lookup f1 = some ⟨oc1, od1, .func (PySem.W.fnOf "is_full_loop" "is_full_loop" (defArgs s_is_full_loop) (defBody s_is_full_loop) (defScope s_is_full_loop) .none kV1 dc1 pm1 an1 cd1 ct1), sl1⟩)
    (c1 : PySem.W.codeIn K cd1 "is_full_loop" = true)
    (k1 : PySem.W.keepIn K (.ref f1) = true)
    (a2 : PySem.W.nsIn K mainGlobals "nodes_along" = some (some (.ref f2)))
    (l2 : K.lookup f2 = some ⟨oc2, od2, .func (PySem.W.fnOf "nodes_along" "nodes_along" (defArgs s_nodes_along) (defBody s_nodes_along) (defScope s_nodes_along) .none kV2 dc2 pm2 an2 cd2 ct2), sl2⟩)
    (c2 : PySem.W.codeIn K cd2 "nodes_along" = true)
    (k2 : PySem.W.keepIn K (.ref f2) = true)
    (a3 : PySem.W.nsIn K mainGlobals "is_full" = some (some (.ref f3)))
    (l3 : K.lookup f3 = some ⟨oc3, od3, .func (PySem.W.fnOf "is_full" "is_full" (defArgs s_is_full) (defBody s_is_full) (defScope s_is_full) .none kV3 dc3 pm3 an3 cd3 ct3), sl3⟩)
    (c3 : PySem.W.codeIn K cd3 "is_full" = true)
    (k3 : PySem.W.keepIn K (.ref f3) = true)
    (a4 : PySem.W.nsIn K mainGlobals "_law_cell_at" = some (some (.ref f4)))
    (l4 : K.lookup f4 = some ⟨oc4, od4, .func (PySem.W.fnOf "_law_cell_at" "_law_cell_at" (defArgs s__law_cell_at) (defBody s__law_cell_at) (defScope s__law_cell_at) .none kV4 dc4 pm4 an4 cd4 ct4), sl4⟩)
    (c4 : PySem.W.codeIn K cd4 "_law_cell_at" = true)
    (k4 : PySem.W.keepIn K (.ref f4) = true)
    (a5 : PySem.W.nsIn K mainGlobals "_law_draws" = some (some (.ref f5)))
    (l5 : K.lookup f5 = some ⟨oc5, od5, .func (PySem.W.fnOf "_law_draws" "_law_draws" (defArgs s__law_draws) (defBody s__law_draws) (defScope s__law_draws) .none kV5 dc5 pm5 an5 cd5 ct5), sl5⟩)
    (c5 : PySem.W.codeIn K cd5 "_law_draws" = true)
    (k5 : PySem.W.keepIn K (.ref f5) = true)
    (a6 : PySem.W.nsIn K mainGlobals "_law_taken" = some (some (.ref f6)))
    (l6 : K.lookup f6 = some ⟨oc6, od6, .func (PySem.W.fnOf "_law_taken" "_law_taken" (defArgs s__law_taken) (defBody s__law_taken) (defScope s__law_taken) .none kV6 dc6 pm6 an6 cd6 ct6), sl6⟩)
    (c6 : PySem.W.codeIn K cd6 "_law_taken" = true)
    (k6 : PySem.W.keepIn K (.ref f6) = true)
    (a7 : PySem.W.nsIn K mainGlobals "_law_nodes" = some (some (.ref f7)))
    (l7 : K.lookup f7 = some ⟨oc7, od7, .func (PySem.W.fnOf "_law_nodes" "_law_nodes" (defArgs s__law_nodes) (defBody s__law_nodes) (defScope s__law_nodes) .none kV7 dc7 pm7 an7 cd7 ct7), sl7⟩)
    (c7 : PySem.W.codeIn K cd7 "_law_nodes" = true)
    (k7 : PySem.W.keepIn K (.ref f7) = true)
    (a8 : PySem.W.nsIn K mainGlobals "_law_net" = some (some (.ref f8)))
    (l8 : K.lookup f8 = some ⟨oc8, od8, .func (PySem.W.fnOf "_law_net" "_law_net" (defArgs s__law_net) (defBody s__law_net) (defScope s__law_net) .none kV8 dc8 pm8 an8 cd8 ct8), sl8⟩)
    (c8 : PySem.W.codeIn K cd8 "_law_net" = true)
    (k8 : PySem.W.keepIn K (.ref f8) = true)
    (a9 : PySem.W.nsIn K mainGlobals "_law_walk" = some (some (.ref f9)))
    (l9 : K.lookup f9 = some ⟨oc9, od9, .func (PySem.W.fnOf "_law_walk" "_law_walk" (defArgs s__law_walk) (defBody s__law_walk) (defScope s__law_walk) .none kV9 dc9 pm9 an9 cd9 ct9), sl9⟩)
    (c9 : PySem.W.codeIn K cd9 "_law_walk" = true)
    (k9 : PySem.W.keepIn K (.ref f9) = true)
    (a10 : PySem.W.nsIn K mainGlobals "_law_is_full" = some (some (.ref f10)))
    (l10 : K.lookup f10 = some ⟨oc10, od10, .func (PySem.W.fnOf "_law_is_full" "_law_is_full" (defArgs s__law_is_full) (defBody s__law_is_full) (defScope s__law_is_full) .none kV10 dc10 pm10 an10 cd10 ct10), sl10⟩)
    (c10 : PySem.W.codeIn K cd10 "_law_is_full" = true)
    (k10 : PySem.W.keepIn K (.ref f10) = true)
    (a11 : PySem.W.nsIn K mainGlobals "_law_spoilt" = some (some (.ref f11)))
    (l11 : K.lookup f11 = some ⟨oc11, od11, .func (PySem.W.fnOf "_law_spoilt" "_law_spoilt" (defArgs s__law_spoilt) (defBody s__law_spoilt) (defScope s__law_spoilt) .none kV11 dc11 pm11 an11 cd11 ct11), sl11⟩)
    (c11 : PySem.W.codeIn K cd11 "_law_spoilt" = true)
    (k11 : PySem.W.keepIn K (.ref f11) = true)
    (a12 : PySem.W.nsIn K mainGlobals "_law_odd" = some (some (.ref f12)))
    (l12 : K.lookup f12 = some ⟨oc12, od12, .func (PySem.W.fnOf "_law_odd" "_law_odd" (defArgs s__law_odd) (defBody s__law_odd) (defScope s__law_odd) .none kV12 dc12 pm12 an12 cd12 ct12), sl12⟩)
    (c12 : PySem.W.codeIn K cd12 "_law_odd" = true)
    (k12 : PySem.W.keepIn K (.ref f12) = true)
    (a13 : PySem.W.nsIn K mainGlobals "_law_asked" = some (some (.ref f13)))
    (l13 : K.lookup f13 = some ⟨oc13, od13, .func (PySem.W.fnOf "_law_asked" "_law_asked" (defArgs s__law_asked) (defBody s__law_asked) (defScope s__law_asked) .none kV13 dc13 pm13 an13 cd13 ct13), sl13⟩)
    (c13 : PySem.W.codeIn K cd13 "_law_asked" = true)
    (k13 : PySem.W.keepIn K (.ref f13) = true)
    (a14 : PySem.W.nsIn K mainGlobals "law" = some (some (.ref f14)))
    (l14 : K.lookup f14 = some ⟨oc14, od14, .func (PySem.W.fnOf "law" "law" (defArgs s_law) (defBody s_law) (defScope s_law) .none kV14 dc14 pm14 an14 cd14 ct14), sl14⟩)
    (c14 : PySem.W.codeIn K cd14 "law" = true)
    (k14 : PySem.W.keepIn K (.ref f14) = true)
    (z_isinstance : PySem.W.nsIn K mainGlobals "isinstance" = some none)
    (z_tuple : PySem.W.nsIn K mainGlobals "tuple" = some none)
    (z_range : PySem.W.nsIn K mainGlobals "range" = some none)
    (z_sorted : PySem.W.nsIn K mainGlobals "sorted" = some none)
    (z_zip : PySem.W.nsIn K mainGlobals "zip" = some none)
    (z_list : PySem.W.nsIn K mainGlobals "list" = some none)
    (z_all : PySem.W.nsIn K mainGlobals "all" = some none)
    (z_len : PySem.W.nsIn K mainGlobals "len" = some none)
    (z_set : PySem.W.nsIn K mainGlobals "set" = some none)
    (z_dict : PySem.W.nsIn K mainGlobals "dict" = some none)
    (z_bool : PySem.W.nsIn K mainGlobals "bool" = some none)
    (z_any : PySem.W.nsIn K mainGlobals "any" = some none)
    (z_str : PySem.W.nsIn K mainGlobals "str" = some none) :
    ∃ fd : FuncData, (∀ (s : Shared) (v : Value), BindsTo s fd ⟨[v], []⟩ [("_law_script", v)]) ∧ ∀ base : Heap, K.In base → base.Ns mainGlobals mg → FnOk l.prog w K mg base CX0 9 fa fd ["_law_script"] (spL K) := by
  have e := hfa.symm.trans (PySem.W.mg_of X G a14)
  cases e
  have T : Txt K mg { is_same := f0, is_same_fd := PySem.W.fnOf "is_same" "is_same" (defArgs s_is_same) (defBody s_is_same) (defScope s_is_same) .none kV0 dc0 pm0 an0 cd0 ct0, is_full_loop := f1, is_full_loop_fd := PySem.W.fnOf "is_full_loop" "is_full_loop" (defArgs s_is_full_loop) (defBody s_is_full_loop) (defScope s_is_full_loop) .none kV1 dc1 pm1 an1 cd1 ct1, nodes_along := f2, nodes_along_fd := PySem.W.fnOf "nodes_along" "nodes_along" (defArgs s_nodes_along) (defBody s_nodes_along) (defScope s_nodes_along) .none kV2 dc2 pm2 an2 cd2 ct2, is_full := f3, is_full_fd := PySem.W.fnOf "is_full" "is_full" (defArgs s_is_full) (defBody s_is_full) (defScope s_is_full) .none kV3 dc3 pm3 an3 cd3 ct3, _law_cell_at := f4, _law_cell_at_fd := PySem.W.fnOf "_law_cell_at" "_law_cell_at" (defArgs s__law_cell_at) (defBody s__law_cell_at) (defScope s__law_cell_at) .none kV4 dc4 pm4 an4 cd4 ct4, _law_draws := f5, _law_draws_fd := PySem.W.fnOf "_law_draws" "_law_draws" (defArgs s__law_draws) (defBody s__law_draws) (defScope s__law_draws) .none kV5 dc5 pm5 an5 cd5 ct5, _law_taken := f6, _law_taken_fd := PySem.W.fnOf "_law_taken" "_law_taken" (defArgs s__law_taken) (defBody s__law_taken) (defScope s__law_taken) .none kV6 dc6 pm6 an6 cd6 ct6, _law_nodes := f7, _law_nodes_fd := PySem.W.fnOf "_law_nodes" "_law_nodes" (defArgs s__law_nodes) (defBody s__law_nodes) (defScope s__law_nodes) .none kV7 dc7 pm7 an7 cd7 ct7, _law_net := f8, _law_net_fd := PySem.W.fnOf "_law_net" "_law_net" (defArgs s__law_net) (defBody s__law_net) (defScope s__law_net) .none kV8 dc8 pm8 an8 cd8 ct8, _law_walk := f9, _law_walk_fd := PySem.W.fnOf "_law_walk" "_law_walk" (defArgs s__law_walk) (defBody s__law_walk) (defScope s__law_walk) .none kV9 dc9 pm9 an9 cd9 ct9, _law_is_full := f10, _law_is_full_fd := PySem.W.fnOf "_law_is_full" "_law_is_full" (defArgs s__law_is_full) (defBody s__law_is_full) (defScope s__law_is_full) .none kV10 dc10 pm10 an10 cd10 ct10, _law_spoilt := f11, _law_spoilt_fd := PySem.W.fnOf "_law_spoilt" "_law_spoilt" (defArgs s__law_spoilt) (defBody s__law_spoilt) (defScope s__law_spoilt) .none kV11 dc11 pm11 an11 cd11 ct11, _law_odd := f12, _law_odd_fd := PySem.W.fnOf "_law_odd" "_law_odd" (defArgs s__law_odd) (defBody s__law_odd) (defScope s__law_odd) .none kV12 dc12 pm12 an12 cd12 ct12, _law_asked := f13, _law_asked_fd := PySem.W.fnOf "_law_asked" "_law_asked" (defArgs s__law_asked) (defBody s__law_asked) (defScope s__law_asked) .none kV13 dc13 pm13 an13 cd13 ct13, law := fa, law_fd := PySem.W.fnOf "law" "law" (defArgs s_law) (defBody s_law) (defScope s_law) .none kV14 dc14 pm14 an14 cd14 ct14, Pm := w.params } := {
    f_is_same := fun_mk (st := s_is_same) l0 c0 k0,
    n_is_same := (fun_mk (st := s_is_same) l0 c0 k0).binds (ps := ["node", "thing"]) (fun _ _ _ _ _ _ us hl => match us, hl with | [_, _], _ => rfl),
    g_is_same := PySem.W.mg_of X G a0,
    f_is_full_loop := fun_mk (st := s_is_full_loop) l1 c1 k1,
    n_is_full_loop := (fun_mk (st := s_is_full_loop) l1 c1 k1).binds (ps := ["net", "marks", "begins", "thing"]) (fun _ _ _ _ _ _ us hl => match us, hl with | [_, _, _, _], _ => rfl),
    g_is_full_loop := PySem.W.mg_of X G a1,
    f_nodes_along := fun_mk (st := s_nodes_along) l2 c2 k2,
    n_nodes_along := (fun_mk (st := s_nodes_along) l2 c2 k2).binds (ps := ["net", "begins", "row"]) (fun _ _ _ _ _ _ us hl => match us, hl with | [_, _, _], _ => rfl),
    g_nodes_along := PySem.W.mg_of X G a2,
    f_is_full := fun_mk (st := s_is_full) l3 c3 k3,
    n_is_full := (fun_mk (st := s_is_full) l3 c3 k3).binds (ps := ["marks", "nodes"]) (fun _ _ _ _ _ _ us hl => match us, hl with | [_, _], _ => rfl),
    g_is_full := PySem.W.mg_of X G a3,
    f__law_cell_at := fun_mk (st := s__law_cell_at) l4 c4 k4,
    n__law_cell_at := (fun_mk (st := s__law_cell_at) l4 c4 k4).binds (ps := ["_law_script", "_law_k"]) (fun _ _ _ _ _ _ us hl => match us, hl with | [_, _], _ => rfl),
    g__law_cell_at := PySem.W.mg_of X G a4,
    f__law_draws := fun_mk (st := s__law_draws) l5 c5 k5,
    n__law_draws := (fun_mk (st := s__law_draws) l5 c5 k5).binds (ps := ["_law_cell", "_law_many"]) (fun _ _ _ _ _ _ us hl => match us, hl with | [_, _], _ => rfl),
    g__law_draws := PySem.W.mg_of X G a5,
    f__law_taken := fun_mk (st := s__law_taken) l6 c6 k6,
    n__law_taken := (fun_mk (st := s__law_taken) l6 c6 k6).binds (ps := ["_law_xs", "_law_size"]) (fun _ _ _ _ _ _ us hl => match us, hl with | [_, _], _ => rfl),
    g__law_taken := PySem.W.mg_of X G a6,
    f__law_nodes := fun_mk (st := s__law_nodes) l7 c7 k7,
    n__law_nodes := (fun_mk (st := s__law_nodes) l7 c7 k7).binds (ps := ["_law_cell"]) (fun _ _ _ _ _ _ us hl => match us, hl with | [_], _ => rfl),
    g__law_nodes := PySem.W.mg_of X G a7,
    f__law_net := fun_mk (st := s__law_net) l8 c8 k8,
    n__law_net := (fun_mk (st := s__law_net) l8 c8 k8).binds (ps := ["_law_cell", "_law_xs"]) (fun _ _ _ _ _ _ us hl => match us, hl with | [_, _], _ => rfl),
    g__law_net := PySem.W.mg_of X G a8,
    f__law_walk := fun_mk (st := s__law_walk) l9 c9 k9,
    n__law_walk := (fun_mk (st := s__law_walk) l9 c9 k9).binds (ps := ["_law_net_here", "_law_xs", "_law_node"]) (fun _ _ _ _ _ _ us hl => match us, hl with | [_, _, _], _ => rfl),
    g__law_walk := PySem.W.mg_of X G a9,
    f__law_is_full := fun_mk (st := s__law_is_full) l10 c10 k10,
    n__law_is_full := (fun_mk (st := s__law_is_full) l10 c10 k10).binds (ps := ["_law_net_here", "_law_marks", "_law_begins", "_law_way", "_law_ring"]) (fun _ _ _ _ _ _ us hl => match us, hl with | [_, _, _, _, _], _ => rfl),
    g__law_is_full := PySem.W.mg_of X G a10,
    f__law_spoilt := fun_mk (st := s__law_spoilt) l11 c11 k11,
    n__law_spoilt := (fun_mk (st := s__law_spoilt) l11 c11 k11).binds (ps := ["_law_xs", "_law_nodes_here", "_law_way", "_law_ring"]) (fun _ _ _ _ _ _ us hl => match us, hl with | [_, _, _, _], _ => rfl),
    g__law_spoilt := PySem.W.mg_of X G a11,
    f__law_odd := fun_mk (st := s__law_odd) l12 c12 k12,
    n__law_odd := (fun_mk (st := s__law_odd) l12 c12 k12).binds (ps := ["_law_xs", "_law_way", "_law_ring"]) (fun _ _ _ _ _ _ us hl => match us, hl with | [_, _, _], _ => rfl),
    g__law_odd := PySem.W.mg_of X G a12,
    f__law_asked := fun_mk (st := s__law_asked) l13 c13 k13,
    n__law_asked := (fun_mk (st := s__law_asked) l13 c13 k13).binds (ps := ["_law_net_here", "_law_marks", "_law_begins", "_law_thing", "_law_due"]) (fun _ _ _ _ _ _ us hl => match us, hl with | [_, _, _, _, _], _ => rfl),
    g__law_asked := PySem.W.mg_of X G a13,
    f_law := fun_mk (st := s_law) l14 c14 k14,
    n_law := (fun_mk (st := s_law) l14 c14 k14).binds (ps := ["_law_script"]) (fun _ _ _ _ _ _ us hl => match us, hl with | [_], _ => rfl),
    g_law := PySem.W.mg_of X G a14,
    b_isinstance := PySem.W.mg_none_of X G z_isinstance,
    b_tuple := PySem.W.mg_none_of X G z_tuple,
    b_range := PySem.W.mg_none_of X G z_range,
    b_sorted := PySem.W.mg_none_of X G z_sorted,
    b_zip := PySem.W.mg_none_of X G z_zip,
    b_list := PySem.W.mg_none_of X G z_list,
    b_all := PySem.W.mg_none_of X G z_all,
    b_len := PySem.W.mg_none_of X G z_len,
    b_set := PySem.W.mg_none_of X G z_set,
    b_dict := PySem.W.mg_none_of X G z_dict,
    b_bool := PySem.W.mg_none_of X G z_bool,
    b_any := PySem.W.mg_none_of X G z_any,
    b_str := PySem.W.mg_none_of X G z_str }
  exact ⟨PySem.W.fnOf "law" "law" (defArgs s_law) (defBody s_law) (defScope s_law) .none kV14 dc14 pm14 an14 cd14 ct14, fun s v => .of_eq rfl, fun base _ _ => ok_law T rfl⟩
theorem walk {l : PySem.W.OpenLaw} {q : Program} {loose : List Str} {XP : (Str → Option Value) → Heap → Prop} {YP : World → Heap → Prop} {d : DefRec} {K : Params → PySem.W.Frag} (hn : l.most = some 63) (hdf : d.params.defaults = [])
    (hY : ∀ (w : World) (h : Heap), YP w h → (K w.params).In h)
    (F : ∀ (w : World) (mg : Str → Option Value) (fa : Addr) (h : Heap), (K w.params).In h → h.Ns mainGlobals mg → mg d.name = some (.ref fa) →
      ∃ fd : FuncData, (∀ (s : Shared) (u : Value), BindsTo s fd ⟨[u], []⟩ [("_law_script", u)]) ∧ ∀ base : Heap, (K w.params).In base → base.Ns mainGlobals mg → FnOk l.prog w (K w.params) mg base CX0 9 fa fd ["_law_script"] (spL (K w.params))) :
    PySem.W.WalkO q loose XP YP l.row.toRowW d [] (fun f vs => PySem.call f vs) :=
  L2.walk_of (n := 63) (k := 9) (x := "_law_script") (CX := fun _ => CX0) (sp := fun w => spL (K w.params)) hn (by decide) hdf ⟨rfl, by decide, by decide⟩ hY F (fun _ _ a ns hl _ hS => ⟨a, ns, rfl, hS, hl, fun _ => rfl⟩) fun _ _ _ _ _ z => z
end KK
open PySem PySem.W PyProof.Rows
set_option maxRecDepth 100000 in
set_option maxHeartbeats 0 in
theorem PySem.Challenge.cw_timecourt_k41_full_loops_holds : PySem.Challenge.rw_timecourt_k41_full_loops.Holds := by
  w_on; o_law; k_head; (case hw => w_witness2)
  k_fill
  refine KK.walk (l := PySem.Challenge.rw_timecourt_k41_full_loops) rfl rfl (fun w h Y => PySem.W.kIn_of Y) ?F
  case F =>
    intro w mg fa h KX G hmg
    have hmg2 : mg "law" = some (.ref fa) := hmg
    clear hmg
    refine' KK.all_mk KX G hmg2 ?a0 ?l0 ?c0 ?k0 ?a1 ?l1 ?c1 ?k1 ?a2 ?l2 ?c2 ?k2 ?a3 ?l3 ?c3 ?k3 ?a4 ?l4 ?c4 ?k4 ?a5 ?l5 ?c5 ?k5 ?a6 ?l6 ?c6 ?k6 ?a7 ?l7 ?c7 ?k7 ?a8 ?l8 ?c8 ?k8 ?a9 ?l9 ?c9 ?k9 ?a10 ?l10 ?c10 ?k10 ?a11 ?l11 ?c11 ?k11 ?a12 ?l12 ?c12 ?k12 ?a13 ?l13 ?c13 ?k13 ?a14 ?l14 ?c14 ?k14 ?z_isinstance ?z_tuple ?z_range ?z_sorted ?z_zip ?z_list ?z_all ?z_len ?z_set ?z_dict ?z_bool ?z_any ?z_str
    (case a0 => k_is)
    (case l0 => k_is)
    (case c0 => k_is)
    (case k0 => k_is)
    (case a1 => k_is)
    (case l1 => k_is)
    (case c1 => k_is)
    (case k1 => k_is)
    (case a2 => k_is)
    (case l2 => k_is)
    (case c2 => k_is)
    (case k2 => k_is)
    (case a3 => k_is)
    (case l3 => k_is)
    (case c3 => k_is)
    (case k3 => k_is)
    (case a4 => k_is)
    (case l4 => k_is)
    (case c4 => k_is)
    (case k4 => k_is)
    (case a5 => k_is)
    (case l5 => k_is)
    (case c5 => k_is)
    (case k5 => k_is)
    (case a6 => k_is)
    (case l6 => k_is)
    (case c6 => k_is)
    (case k6 => k_is)
    (case a7 => k_is)
    (case l7 => k_is)
    (case c7 => k_is)
    (case k7 => k_is)
    (case a8 => k_is)
    (case l8 => k_is)
    (case c8 => k_is)
    (case k8 => k_is)
    (case a9 => k_is)
    (case l9 => k_is)
    (case c9 => k_is)
    (case k9 => k_is)
    (case a10 => k_is)
    (case l10 => k_is)
    (case c10 => k_is)
    (case k10 => k_is)
    (case a11 => k_is)
    (case l11 => k_is)
    (case c11 => k_is)
    (case k11 => k_is)
    (case a12 => k_is)
    (case l12 => k_is)
    (case c12 => k_is)
    (case k12 => k_is)
    (case a13 => k_is)
    (case l13 => k_is)
    (case c13 => k_is)
    (case k13 => k_is)
    (case a14 => k_is)
    (case l14 => k_is)
    (case c14 => k_is)
    (case k14 => k_is)
    (case z_isinstance => k_is)
    (case z_tuple => k_is)
    (case z_range => k_is)
    (case z_sorted => k_is)
    (case z_zip => k_is)
    (case z_list => k_is)
    (case z_all => k_is)
    (case z_len => k_is)
    (case z_set => k_is)
    (case z_dict => k_is)
    (case z_bool => k_is)
    (case z_any => k_is)
    (case z_str => k_is)
#print axioms PySem.Challenge.cw_timecourt_k41_full_loops_holds

