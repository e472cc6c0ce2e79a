import PyProof.Rows.All
import Wide.All
import OpenK.AllK
import Wide.FinOn
import Lean
import PyProof.EqAt
import PyProof.EqKinds
import PyProof.TupleCall
import PyProof.StrOps2
import PySem.Challenge.RW_timecourt_k63_no_branches
set_option Elab.async false
set_option linter.all false
set_option maxRecDepth 100000
/-! THE HAND LAYER, for ints, bools, texts, own classes, LISTS and tuples (index, slices, in, append, pop ..), calls, loops. Paste it whole ahead of your own text; what your proof does not reach may be deleted. -/
namespace L2
open PySem PySem.Spec PyProof.Rows

/-- a key: an int or a str -/
abbrev Key := Sum Int Str
def keyIs : Key → Value → Bool
  | .inl k, v => Value.isInt k v
  | .inr x, v => Value.isStrOf x v
def keyH (w : World) : Key → Int
  | .inl k => hashInt k
  | .inr x => hashStr w x
theorem keyIs_shape : ∀ {k : Key} {v : Value}, keyIs k v = true → (∃ i t, k = Sum.inl i ∧ v = Value.int i t) ∨ (∃ x t, k = Sum.inr x ∧ v = Value.str x t)
  | .inl i, v, h => by
    obtain ⟨t, e⟩ := Value.isInt_shape (k := i) (v := v) h
    exact .inl ⟨i, t, rfl, e⟩
  | .inr x, v, h => by
    obtain ⟨t, e⟩ := Value.isStrOf_shape (x := x) (v := v) h
    exact .inr ⟨x, t, rfl, e⟩
theorem keyIs_int (i : Int) (t : Tok) : keyIs (.inl i) (.int i t) = true := by simp [keyIs, Value.isInt]
theorem keyIs_str (x : Str) (t : Tok) : keyIs (.inr x) (.str x t) = true := by simp [keyIs, Value.isStrOf]
theorem key_ll (a b : Int) : decide ((Sum.inl a : Key) = Sum.inl b) = (a == b) := by
  by_cases e : a = b
  · subst e; simp
  · have h : ¬ (Sum.inl a : Key) = Sum.inl b := fun q => e (Sum.inl.inj q)
    rw [decide_eq_false h]
    exact (beq_eq_false_iff_ne.mpr e).symm
theorem key_rr (a b : Str) : decide ((Sum.inr a : Key) = Sum.inr b) = decide (a = b) := by
  by_cases e : a = b
  · subst e; simp
  · have h : ¬ (Sum.inr a : Key) = Sum.inr b := fun q => e (Sum.inr.inj q)
    rw [decide_eq_false h, decide_eq_false e]
theorem key_lr (a : Int) (b : Str) : decide ((Sum.inl a : Key) = Sum.inr b) = false := decide_eq_false (fun q => nomatch q)
theorem key_rl (a : Str) (b : Int) : decide ((Sum.inr a : Key) = Sum.inl b) = false := decide_eq_false (fun q => nomatch q)

def mixKind (prog : Program) (w : World) : PySem.KeyKind prog w Key where
  is := keyIs
  hash := keyH w
  inj := fun v a b ha hb => by
    rcases keyIs_shape ha with ⟨i, t, rfl, rfl⟩ | ⟨x, t, rfl, rfl⟩
    · rcases keyIs_shape hb with ⟨j, u, rfl, e⟩ | ⟨y, u, rfl, e⟩
      · injection e with e1 _; rw [e1]
      · exact nomatch e
    · rcases keyIs_shape hb with ⟨j, u, rfl, e⟩ | ⟨y, u, rfl, e⟩
      · exact nomatch e
      · injection e with e1 _; rw [e1]
  byValue := fun k v h => by
    rcases keyIs_shape h with ⟨i, t, rfl, rfl⟩ | ⟨x, t, rfl, rfl⟩ <;> rfl
  pyHash := fun hv h => by
    rcases keyIs_shape hv with ⟨i, t, rfl, rfl⟩ | ⟨x, t, rfl, rfl⟩
    · exact wpAny_pyHash_int h
    · exact wpAny_pyHash_str h
  eqBool := fun hu hv h => by
    rcases keyIs_shape hu with ⟨i, t, rfl, rfl⟩ | ⟨x, t, rfl, rfl⟩
    · rcases keyIs_shape hv with ⟨j, u, rfl, rfl⟩ | ⟨y, u, rfl, rfl⟩
      · rw [key_ll] at h; exact wpAny_eqBool_int h
      · rw [key_lr] at h; exact SeqAt.EqAt.int_str i t y u _ _ _ _ h
    · rcases keyIs_shape hv with ⟨j, u, rfl, rfl⟩ | ⟨y, u, rfl, rfl⟩
      · rw [key_rl] at h; exact SeqAt.EqAt.str_int x t j u _ _ _ _ h
      · rw [key_rr] at h; exact wpAny_eqBool_str h
  «strs» := fun k x t v h => by
    rcases keyIs_shape h with ⟨i, u, rfl, e⟩ | ⟨y, u, rfl, e⟩
    · exact nomatch e
    · injection e with e1 _
      subst e1
      cases v <;> rfl

end L2

namespace L2
open PySem PySem.Spec PyProof.Rows

/-- a value, without the heap -/
inductive V where
  | non | bl (b : Bool) | int (i : Int) | str (x : Str) | byt (b : Array UInt8) | flt (b : UInt64) | ref (a : Addr) | ty (n : String)
  deriving DecidableEq

def RelV : V → Value → Prop
  | .non, u => u = Value.none
  | .bl b, u => u = Value.bool b
  | .int i, u => ∃ t, u = Value.int i t
  | .str x, u => ∃ t, u = Value.str x t
  | .byt b, u => ∃ t, u = Value.bytes b t
  | .flt b, u => ∃ t, u = Value.float b t
  | .ref a, u => u = Value.ref a
  | .ty n, u => u = Value.type n

abbrev Vals : List V → List Value → Prop := Paired RelV
theorem Vals.length {xs : List V} {us : List Value} (r : Vals xs us) : xs.length = us.length := Paired.length r
theorem Vals.get : ∀ {xs : List V} {us : List Value} {i : Nat} {x : V}, Vals xs us → xs[i]? = some x → ∃ u, us[i]? = some u ∧ RelV x u
  | _, _, _, _, .nil, e => by simp at e
  | _, _, 0, _, .cons r _, e => by simp at e; subst e; exact ⟨_, rfl, r⟩
  | _, _, i + 1, x, .cons _ t, e => by
    obtain ⟨u, h1, h2⟩ := Vals.get (i := i) (x := x) t (by simpa using e)
    exact ⟨u, by simpa using h1, h2⟩
theorem Vals.append : ∀ {xs ys : List V} {us ws : List Value}, Vals xs us → Vals ys ws → Vals (xs ++ ys) (us ++ ws)
  | _, _, _, _, .nil, s => s
  | _, _, _, _, .cons r t, s => .cons r (Vals.append t s)
theorem Vals.take : ∀ {xs : List V} {us : List Value} (n : Nat), Vals xs us → Vals (xs.take n) (us.take n)
  | _, _, 0, _ => .nil
  | _, _, _ + 1, .nil => .nil
  | _, _, n + 1, .cons r t => .cons r (Vals.take n t)
theorem Vals.drop : ∀ {xs : List V} {us : List Value} (n : Nat), Vals xs us → Vals (xs.drop n) (us.drop n)
  | _, _, 0, r => r
  | _, _, _ + 1, .nil => .nil
  | _, _, n + 1, .cons _ t => Vals.drop n t
def RelO : Option V → Option Value → Prop
  | some v, some u => RelV v u
  | none, none => True
  | _, _ => False
def KV {κ : Type} : List (κ × V) → List (κ × Value) → Prop := Paired fun (p : κ × V) (q : κ × Value) => p.1 = q.1 ∧ RelV p.2 q.2

/-- a key of a dict (00_mix): an int or a text -/
def kV : Key → V
  | .inl i => .int i
  | .inr x => .str x

/-- what stands at a tracked address -/
inductive HO where
  /-- a list -/
  | lst (xs : List V)
  /-- a tuple (never changes) -/
  | tup (xs : List V)
  /-- a dict whose keys are ints and texts; one whose keys are tuples of ints and texts (the empty one is both) -/
  | dK (kvs : List (Key × V)) | dT (kvs : List (List Key × V))
  /-- a set of ints: its members, its size -/
  | set (S : Int → Bool) (n : Nat)
  /-- an instance of the class at C, its dict at dx, its attributes -/
  | ins (C dx : Addr) (fs : List (Str × V))
  /-- the dict of the instance at x -/
  | own (x : Addr)
  /-- the dict of an exception -/
  | xd (fs : List (Str × V))
  /-- a bound method, f of x -/
  | met (f x : Addr)
  /-- a range object lo, lo + 1, .. below hi -/
  | rng (lo hi : Int)
  /-- a thing that is known to the object (the script; a dict while a loop walks it): read, never written while it is so -/
  | frz (o : Obj) (u : HO)
  /-- a code object's table -/
  | tbl (ps : Array Value)
  /-- any other thing, by what is true of its one object (a def of one's own: SetO a S n := HO.ext fun h => ..) -/
  | ext (φ : Heap → Prop)

abbrev Hp := Addr → Option HO
def upd (H : Hp) (a : Addr) (o : HO) : Hp := fun b => if b = a then some o else H b
theorem upd_same {H : Hp} {a : Addr} {o : HO} : upd H a o a = some o := by unfold upd; rw [if_pos rfl]
theorem upd_ne {H : Hp} {a b : Addr} {o : HO} (h : b ≠ a) : upd H a o b = H b := by unfold upd; rw [if_neg h]
/-- two objects of different content stand apart -/
theorem ne_of {H : Hp} {a b : Addr} {o u : HO} (h : H a = some o) (h' : H b = some u) (d : o ≠ u) : a ≠ b := by
  intro e; subst e; rw [h] at h'; exact d (Option.some.inj h')
theorem ne_of_none {H : Hp} {a b : Addr} {o : HO} (h : H a = some o) (h' : H b = none) : a ≠ b := by
  intro e; subst e; rw [h] at h'; cases h'

section
variable (P : Program) (w : World)
def ObjOk (H : Hp) (h : Heap) (a : Addr) : HO → Prop
  | .lst xs => xs.length ≤ sizeLine ∧ ∃ (its : List Value) (n : Nat), Vals xs its ∧ h.get? a = some { cls := .type "list", data := .seq its.toArray n }
  | .tup xs => xs.length ≤ sizeLine ∧ ∃ its : List Value, Vals xs its ∧ IsTup h a its.toArray
  | .dK kvs => kvs.length ≤ sizeLine ∧ (a == sysModules) = false ∧ ∃ vs, KV kvs vs ∧ h.DictOf (mixKind P w) a vs
  | .dT kvs => kvs.length ≤ sizeLine ∧ (a == sysModules) = false ∧ ∃ xs : List (List Key × Addr × Value),
      Paired (fun (p : List Key × V) (q : List Key × Addr × Value) => p.1 = q.1 ∧ H q.2.1 = some (.tup (p.1.map kV)) ∧ RelV p.2 q.2.2) kvs xs ∧
      ∃ o es ep, h.get? a = some o ∧ o.ExactDict ∧ o.data = .dict es ep ∧ es.toList = xs.map (entryOfKey (tupleKind (mixKind P w))) ∧ (xs.map (·.1)).Nodup
  | .set S n => h.SetOf (intKind P w) a S n
  | .ins C dx fs => H dx = some (.own a) ∧ fs.length ≤ 1000 ∧ dx ≠ a ∧ h.get? a = some (PySem.W.instObj C dx) ∧
      ∃ mA, h.Ns1 dx mA ∧ (∀ f, RelO (fs.lookup f) (mA f)) ∧ PySem.Within mA (fs.map (·.1))
  | .own _ => ∃ o, h.get? a = some o
  | .xd fs => ∃ mA, h.Ns1 a mA ∧ ∀ f, RelO (fs.lookup f) (mA f)
  | .rng lo hi => ∃ t u v, h.get? a = some { cls := .type "range", data := .fields #[.int lo t, .int hi u, .int 1 v] }
  | .frz o u => h.get? a = some o ∧ ObjOk H h a u
  | .tbl ps => h.get? a = some { cls := .none, data := .fields ps }
  | .met f x => h.get? a = some (PySem.W.methodObj (.ref f) (.ref x))
  | .ext φ => φ h ∧ (∃ o, h.get? a = some o) ∧ ∀ h1 h2 : Heap, φ h1 → (∀ o, h1.get? a = some o → h2.get? a = some o) → φ h2
/-- the abstract heap is held -/
def HOk (H : Hp) (h : Heap) : Prop := ∀ a o, H a = some o → ObjOk P w H h a o
end

section
variable {P : Program} {w : World} {H H' : Hp} {h h' : Heap} {a : Addr} {o : HO}
theorem ObjOk.lt (x : ObjOk P w H h a o) : a < h.objs.size := by
  cases o with
  | lst xs => obtain ⟨_, _, _, _, e⟩ := x; exact Heap.lt_size e
  | tup xs => obtain ⟨_, _, _, p⟩ := x; exact p.lt
  | dK kvs => obtain ⟨_, _, _, _, o, _, _, e, _⟩ := x; exact Heap.lt_size e
  | dT kvs => obtain ⟨_, _, _, _, o, _, _, e, _⟩ := x; exact Heap.lt_size e
  | set S n => obtain ⟨o, _, _, _, e, _⟩ := x; exact Heap.lt_size e
  | ins C dx fs => obtain ⟨_, _, _, e, _⟩ := x; exact Heap.lt_size e
  | own y => obtain ⟨_, e⟩ := x; exact Heap.lt_size e
  | xd fs => obtain ⟨_, ⟨_, _, _, e, _⟩, _⟩ := x; exact Heap.lt_size e
  | rng lo hi => obtain ⟨_, _, _, e⟩ := x; exact Heap.lt_size e
  | frz ob u => obtain ⟨e, _⟩ := x; exact Heap.lt_size e
  | tbl ps => exact Heap.lt_size (show h.get? a = some _ from x)
  | met f y => exact Heap.lt_size (show h.get? a = some _ from x)
  | ext φ => obtain ⟨_, ⟨_, e⟩, _⟩ := x; exact Heap.lt_size e
theorem Paired.mapP {α β : Type} {F G : α → β → Prop} : ∀ {l₁ : List α} {l₂ : List β}, Paired F l₁ l₂ → (∀ a b, F a b → G a b) → Paired G l₁ l₂
  | _, _, .nil, _ => .nil
  | _, _, .cons r t, f => .cons (f _ _ r) (Paired.mapP t f)
/-- what an object's description leans on: its own object, its own dict, the tuples -/
theorem ObjOk.stay (x : ObjOk P w H h a o) (k : ∀ b u, (b = a ∨ H b = some (.own a)) → h.get? b = some u → h'.get? b = some u)
    (ho : ∀ b, H b = some (.own a) → H' b = some (.own a)) (ht : ∀ b xs, H b = some (.tup xs) → H' b = some (.tup xs)) : ObjOk P w H' h' a o := by
  induction o with
  | lst xs => obtain ⟨z, its, n, r, e⟩ := x; exact ⟨z, its, n, r, k _ _ (.inl rfl) e⟩
  | tup xs => obtain ⟨z, its, r, ob, e, c⟩ := x; exact ⟨z, its, r, ob, k _ _ (.inl rfl) e, c⟩
  | dK kvs => obtain ⟨z, y, vs, r, ob, es, ep, e, c⟩ := x; exact ⟨z, y, vs, r, ob, es, ep, k _ _ (.inl rfl) e, c⟩
  | dT kvs =>
    obtain ⟨z, y, xs, r, ob, es, ep, e, c⟩ := x
    exact ⟨z, y, xs, Paired.mapP r fun p q z => ⟨z.1, ht _ _ z.2.1, z.2.2⟩, ob, es, ep, k _ _ (.inl rfl) e, c⟩
  | set S n => obtain ⟨ob, es, ep, t, e, c⟩ := x; exact ⟨ob, es, ep, t, k _ _ (.inl rfl) e, c⟩
  | ins C dx fs =>
    obtain ⟨d, z, ne, e, mA, ⟨od, es, ep, e2, c⟩, r⟩ := x
    exact ⟨ho _ d, z, ne, k _ _ (.inl rfl) e, mA, ⟨od, es, ep, k _ _ (.inr d) e2, c⟩, r⟩
  | own y => obtain ⟨ob, e⟩ := x; exact ⟨ob, k _ _ (.inl rfl) e⟩
  | xd fs => obtain ⟨mA, ⟨od, es, ep, e, c⟩, r⟩ := x; exact ⟨mA, ⟨od, es, ep, k _ _ (.inl rfl) e, c⟩, r⟩
  | rng lo hi => obtain ⟨t, u, v, e⟩ := x; exact ⟨t, u, v, k _ _ (.inl rfl) e⟩
  | frz ob u ih => obtain ⟨e, q⟩ := x; exact ⟨k _ _ (.inl rfl) e, ih q⟩
  | tbl ps =>
    have e : h.get? a = some { cls := .none, data := .fields ps } := x
    show h'.get? a = some { cls := .none, data := .fields ps }
    exact k a _ (.inl rfl) e
  | met f y =>
    have e : h.get? a = some (PySem.W.methodObj (.ref f) (.ref y)) := x
    show h'.get? a = some (PySem.W.methodObj (.ref f) (.ref y))
    exact k a _ (.inl rfl) e
  | ext φ => obtain ⟨p, ⟨o, e⟩, st⟩ := x; exact ⟨st _ _ p fun o q => k _ _ (.inl rfl) q, ⟨o, k _ _ (.inl rfl) e⟩, st⟩
theorem HOk.lt (x : HOk P w H h) (e : H a = some o) : a < h.objs.size := (x a o e).lt
theorem HOk.fresh (x : HOk P w H h) (e : h.objs.size ≤ a) : H a = none := by
  cases q : H a with
  | none => rfl
  | some u => exact absurd (Nat.lt_of_lt_of_le (x.lt q) e) (Nat.lt_irrefl _)
/-- every object of the heap is kept -/
theorem HOk.kept (x : HOk P w H h) (k : ∀ b u, h.get? b = some u → h'.get? b = some u) : HOk P w H h' := fun a o e =>
  (x a o e).stay (fun b u _ q => k b u q) (fun _ q => q) fun _ _ q => q
/-- a new object is laid and tracked -/
theorem HOk.laid (x : HOk P w H h) (k : ∀ b u, h.get? b = some u → h'.get? b = some u) (hp : h.objs.size ≤ a) (new : ObjOk P w (upd H a o) h' a o) : HOk P w (upd H a o) h' := fun b u e => by
  have hn := x.fresh hp
  by_cases hb : b = a
  · subst hb; rw [upd_same] at e; cases e; exact new
  · rw [upd_ne hb] at e
    exact (x b u e).stay (fun c v _ q => k c v q) (fun c q => by rw [upd_ne (ne_of_none q hn)]; exact q) fun c xs q => by rw [upd_ne (ne_of_none q hn)]; exact q
end

/-- what may be read as u: it is u, or a known u -/
def Rd (H : Hp) (a : Addr) (u : HO) : Prop := H a = some u ∨ ∃ o, H a = some (.frz o u)
theorem Rd.ok {P : Program} {w : World} {H : Hp} {h : Heap} {a : Addr} {u : HO} (r : Rd H a u) (x : HOk P w H h) : ObjOk P w H h a u := by
  rcases r with r | ⟨o, r⟩
  · exact x a u r
  · obtain ⟨_, q⟩ := x a _ r
    exact q
/-- what may be written -/
def Mut : Option HO → Prop
  | some (.lst _) => True
  | some (.dK _) => True
  | some (.dT _) => True
  | some (.set _ _) => True
  | some (.ins _ _ _) => True
  | some (.ext _) => True
  | _ => False
section
variable {P : Program} {w : World} {H : Hp} {h h' : Heap} {x e : Addr} {o' : HO}
/-- the object at e is changed: x itself, or the dict of the instance x -/
theorem HOk.write (ok : HOk P w H h) (mu : Mut (H x)) (he : e = x ∨ H e = some (.own x)) (k : ∀ b u, b ≠ e → h.get? b = some u → h'.get? b = some u) (heo : ∃ u, h'.get? e = some u)
    (new : ObjOk P w (upd H x o') h' x o') : HOk P w (upd H x o') h' := fun b u q => by
  have nown : ∀ c y, H c = some (.own y) → c ≠ x := fun c y r z => by subst z; rw [r] at mu; exact mu
  have ntup : ∀ c xs, H c = some (.tup xs) → c ≠ x := fun c xs r z => by subst z; rw [r] at mu; exact mu
  by_cases hb : b = x
  · subst hb; rw [upd_same] at q; cases q; exact new
  · rw [upd_ne hb] at q
    by_cases hbe : b = e
    · have q' : H b = some (.own x) := by
        rcases he with z | z
        · exact absurd (hbe.trans z) hb
        · rw [hbe]; exact z
      rw [q] at q'; cases q'
      obtain ⟨v, hv⟩ := heo
      exact ⟨v, by rw [hbe]; exact hv⟩
    · refine (ok b u q).stay (fun c v hc r => k c v ?_ r) (fun c r => by rw [upd_ne (nown c b r)]; exact r) fun c xs r => by rw [upd_ne (ntup c xs r)]; exact r
      rcases hc with rfl | hc
      · exact hbe
      · rintro rfl
        rcases he with z | z
        · exact nown c b hc z
        · rw [hc] at z; cases z; exact hb rfl
end

/-! ### kept unless tracked; of the frames at fs (the callers') the slots may change (an exception that passes writes there); of the records at ex (iterators) nothing is said -/
structure Un (fs ex : List Addr) (H H' : Hp) (h h' : Heap) : Prop where
  keep : ∀ b o, h.get? b = some o → H b = none → b ∉ fs → b ∉ ex → h'.get? b = some o
  slot : ∀ b o, h.get? b = some o → H b = none → b ∈ fs → b ∉ ex → ∃ sl, h'.get? b = some { o with slots := sl }
  free : ∀ b o, h.get? b = some o → H b = none → b ∉ ex → H' b = none
  there : ∀ b o, h.get? b = some o → b ∉ ex → ∃ o', h'.get? b = some o'
  tups : ∀ b xs, H b = some (.tup xs) → H' b = some (.tup xs)
  frzs : ∀ b o u, H b = some (.frz o u) → H' b = some (.frz o u)
  tbls : ∀ b ps, H b = some (.tbl ps) → ∃ more, H' b = some (.tbl (ps ++ more))
section
variable {fs fs' ex ex' : List Addr} {H H1 H2 : Hp} {h h1 h2 h' : Heap} {a x e : Addr} {o : HO}
theorem Un.any (u : Un fs ex H H1 h h1) {b : Addr} {ob : Obj} (q : h.get? b = some ob) (n : H b = none) (hx : b ∉ ex) : ∃ sl, h1.get? b = some { ob with slots := sl } := by
  by_cases hb : b ∈ fs
  · exact u.slot b ob q n hb hx
  · exact ⟨ob.slots, u.keep b ob q n hb hx⟩
theorem Un.kept (k : ∀ b u, h.get? b = some u → h'.get? b = some u) : Un fs ex H H h h' :=
  ⟨fun b ob q _ _ _ => k b ob q, fun b ob q _ _ _ => ⟨ob.slots, k b ob q⟩, fun _ _ _ n _ => n, fun b ob q _ => ⟨ob, k b ob q⟩, fun _ _ q => q, fun _ _ _ q => q, fun _ ps q => ⟨#[], by rw [q]; simp⟩⟩
theorem Un.refl : Un fs ex H H h h := Un.kept fun _ _ q => q
theorem Un.laid (k : ∀ b u, h.get? b = some u → h'.get? b = some u) (hp : h.objs.size ≤ a) (hn : H a = none) : Un fs ex H (upd H a o) h h' where
  keep := fun b u q _ _ _ => k b u q
  slot := fun b u q _ _ _ => ⟨u.slots, k b u q⟩
  free := fun b u q n _ => by rw [upd_ne (Nat.ne_of_lt (Nat.lt_of_lt_of_le (Heap.lt_size q) hp))]; exact n
  there := fun b u q _ => ⟨u, k b u q⟩
  tups := fun b xs q => by rw [upd_ne (ne_of_none q hn)]; exact q
  frzs := fun b u xs q => by rw [upd_ne (ne_of_none q hn)]; exact q
  tbls := fun b ps q => ⟨#[], by rw [upd_ne (ne_of_none q hn), q]; simp⟩
theorem Un.write (mu : Mut (H x)) (he : e = x ∨ H e = some (.own x)) (k : ∀ b u, b ≠ e → h.get? b = some u → h'.get? b = some u) (heo : ∃ u, h'.get? e = some u) : Un fs ex H (upd H x o) h h' := by
  have hx : ∀ b, H b = none → b ≠ x := fun b n z => by subst z; rw [n] at mu; exact mu
  have hb : ∀ b, H b = none → b ≠ e := fun b n z => by
    subst z
    rcases he with r | r
    · exact hx b n r
    · rw [n] at r; cases r
  have hm : ∀ b u, H b = some u → ¬ Mut (some u) → b ≠ x := fun b u q nm z => by subst z; rw [q] at mu; exact nm mu
  refine ⟨fun b u q n _ _ => k b u (hb b n) q, fun b u q n _ _ => ⟨u.slots, k b u (hb b n) q⟩, fun b u q n _ => by rw [upd_ne (hx b n)]; exact n, fun b u q _ => ?_,
    fun b xs q => by rw [upd_ne (hm b _ q fun z => z)]; exact q, fun b u xs q => by rw [upd_ne (hm b _ q fun z => z)]; exact q, fun b ps q => ⟨#[], by rw [upd_ne (hm b _ q fun z => z), q]; simp⟩⟩
  by_cases hbe : b = e
  · subst hbe; exact heo
  · exact ⟨u, k b u hbe q⟩
end

/-! ### the heap without what is tracked -/
def trk (h : Heap) (H : Hp) : List Addr := (List.range h.objs.size).filter fun a => (H a).isSome
def hidT (h : Heap) (H : Hp) : Heap := PySem.W.hideAll h (trk h H)
theorem hidT_size (h : Heap) (H : Hp) : (hidT h H).objs.size = h.objs.size := PySem.W.hideAll_size _ _
theorem hidT_get {h : Heap} {H : Hp} {b : Addr} {o : Obj} (e : h.get? b = some o) (n : H b = none) : (hidT h H).get? b = some o :=
  PySem.W.hideAll_get _ e fun hm => by
    have q : (H b).isSome = true := (List.mem_filter.mp hm).2
    rw [n] at q; simp at q
theorem of_hidT {h : Heap} {H : Hp} {b : Addr} {o : Obj} (e : (hidT h H).get? b = some o) : h.get? b = some o ∧ H b = none := by
  have e' : h.get? b = some o := PySem.W.of_hideAll (trk h H) e
  refine ⟨e', ?_⟩
  cases q : H b with
  | none => rfl
  | some x =>
    have hm : b ∈ trk h H := List.mem_filter.mpr ⟨List.mem_range.mpr (Heap.lt_size e'), by simp [q]⟩
    have z : (hidT h H).get? b = none := PySem.W.hideAll_none (trk h H) hm
    rw [z] at e; cases e

/-! ### OpenK's ledger, filled with every new object but one -/
def allNews (g h : Heap) (L : Addr) : List (Addr × Obj) := (List.range h.objs.size).filterMap fun a => if a = L ∨ (g.get? a).isSome = true then none else (h.get? a).map fun o => (a, o)
def rest (g h : Heap) (L d : Addr) : List (Addr × Obj) := (allNews g h L).filter fun p => decide (p.1 ≠ d)
end L2

namespace L2
open PySem PySem.Spec PyProof.Rows

/-- the module's facts, over the base: the heap at the law's entry without what is tracked there -/
structure Mod (K : PySem.W.Frag) (mg : Str → Option Value) (base : Heap) : Prop where
  kin : K.In base
  glob : base.Ns mainGlobals mg
  blt : ∃ mb, base.Ns builtinsNs mb ∧ ∀ x : Str, x ≠ "__name__" → mb x = bootBuiltins x
  nolimit : base.NoLimit

/-- the context: a def's body (or a comprehension's block) running. base: fixed through the whole law; s₀, H₀: the entry; outer: the frames whose slots others may change (a def's callers); stack: all frames that run;
   ex: iterators that were made ahead of the entry and are walked here (a comprehension's); fn: the names whose cells were made at the entry (a def: all; a comprehension's block: its own); calm: not within an except suite; pn: pins that every state bears; xe: what is wanted of an exception that leaves the code -/
structure Cx where
  prog : Program
  w : World
  K : PySem.W.Frag
  mg : Str → Option Value
  base : Heap
  A : Around
  N : List Str
  s₀ : Shared
  H₀ : Hp
  env : Env
  outer : List Env
  stack : List Env
  ex : List Addr
  fn : Str → Bool
  calm : Bool
  pn : List (Addr × Obj)
  xe : Value → Shared → Prop
/-- the callers' frames -/
def frs (l : List Env) : List Addr := l.filterMap (·.frame)
abbrev Cx.fs (X : Cx) : List Addr := frs X.outer

def Vis (sc : Scope) (x : Str) : Prop := sc.names.lookup x = some .local ∨ sc.names.lookup x = some .cell ∨ sc.names.lookup x = some .free
def Loc (sc : Scope) (x : Str) : Prop := sc.names.lookup x = some .local ∨ sc.names.lookup x = some .cell
def Look (env : Env) (h : Heap) (m : Str → Option Value) (x : Str) (u : Value) : Prop :=
  (env.kindOf x = some .local ∧ m x = some u) ∨ ((env.kindOf x = some .cell ∨ env.kindOf x = some .free) ∧ ∃ c, env.cells.lookup x = some c ∧ h.IsCell c (some u))

structure Cx.Ok (X : Cx) : Prop where
  mod : Mod X.K X.mg X.base
  kind : X.env.scope.kind = .function
  glob : X.env.globals = mainGlobals
  blt : X.env.builtins = builtinsNs
  above : X.s₀.heap.objs.size ≤ X.env.locals
  inj : ∀ x y c, X.env.cells.lookup x = some c → X.env.cells.lookup y = some c → x = y
  has : ∀ x, (X.env.kindOf x = some .cell ∨ X.env.kindOf x = some .free) → ∃ c, X.env.cells.lookup x = some c
  cab : ∀ x c, X.fn x = true → X.env.cells.lookup x = some c → X.s₀.heap.objs.size ≤ c
  hd : X.calm = true → X.A.handled = none
  frames : X.A.frames = some X.stack
  stk : X.stack = X.outer ∨ (X.stack = X.env :: X.outer ∧ X.env.frame = some X.env.locals)
  exf : ∀ b ∈ X.ex, b ≠ X.env.locals ∧ ∀ x c, X.env.cells.lookup x = some c → c ≠ b
  bs : ∀ b o, X.base.get? b = some o → X.s₀.heap.get? b = some o ∧ X.H₀ b = none
  bsz : X.base.objs.size ≤ X.s₀.heap.objs.size
  noex : ∀ b o, X.base.get? b = some o → b ∉ X.ex
  exfs : ∀ b ∈ X.ex, b ∉ X.fs
  funs : X.s₀.heap.FunFrames X.base X.outer
  frf : ∀ b ∈ X.fs, X.H₀ b = none

structure Inv (X : Cx) (pins : List (Addr × Obj)) (σ : List (Option V)) (H : Hp) (s : Shared) : Prop where
  ok : X.Ok
  os : s.os = X.s₀.os
  bare : AllBare s.gens
  base : Un X.fs X.ex X.H₀ H X.s₀.heap s.heap
  loc : ∃ m, s.heap.Ns X.env.locals m ∧ ∀ (i : Nat) (x : Str) (v : V), X.N[i]? = some x → σ[i]? = some (some v) → Vis X.env.scope x → ∃ u, RelV v u ∧ Look X.env s.heap m x u
  cell : ∀ x c, X.env.cells.lookup x = some c → ∃ v, s.heap.IsCell c v
  free : H X.env.locals = none
  freeC : ∀ x c, X.env.cells.lookup x = some c → H c = none
  pin : ∀ p ∈ X.pn ++ pins, s.heap.get? p.1 = some p.2 ∧ H p.1 = none ∧ p.1 ≠ X.env.locals ∧ p.1 ∉ X.fs ∧ ∀ v, p.2.data ≠ .cell v
  hok : HOk X.prog X.w H s.heap
  len : σ.length = X.N.length

section
variable {X : Cx} {pins : List (Addr × Obj)} {σ : List (Option V)} {H H' : Hp} {s : Shared} {h' : Heap}

theorem Cx.Ok.nofr (ok : X.Ok) {b : Addr} {o : Obj} (e : X.base.get? b = some o) : b ∉ X.fs := fun hb => by
  have := (ok.funs.mem hb).1
  rw [e] at this; cases this
theorem Inv.bs (I : Inv X pins σ H s) : ∀ b o, X.base.get? b = some o → s.heap.get? b = some o ∧ H b = none := fun b o e =>
  ⟨I.base.keep b o (I.ok.bs b o e).1 (I.ok.bs b o e).2 (I.ok.nofr e) (I.ok.noex b o e), I.base.free b o (I.ok.bs b o e).1 (I.ok.bs b o e).2 (I.ok.noex b o e)⟩
theorem Inv.bk (I : Inv X pins σ H s) : ∀ b o, X.base.get? b = some o → s.heap.get? b = some o := fun b o e => (I.bs b o e).1
theorem Inv.mod (I : Inv X pins σ H s) : Mod X.K X.mg X.base := I.ok.mod
theorem Inv.kIn (I : Inv X pins σ H s) : X.K.In s.heap := I.ok.mod.kin.keeps I.bk
/-- the frame over the base: for OpenK's rules (K.In X.base is I.mod.kin) -/
theorem Inv.fr (I : Inv X pins σ H s) : ∃ m, Fr X.base X.env.locals s.heap m :=
  let ⟨m, hn, _⟩ := I.loc
  ⟨m, hn, I.bk, Nat.le_trans I.ok.bsz I.ok.above⟩
theorem Inv.lt (I : Inv X pins σ H s) : X.env.locals < s.heap.objs.size := let ⟨_, hn, _⟩ := I.loc; hn.lt
theorem Inv.sz (I : Inv X pins σ H s) : X.s₀.heap.objs.size ≤ s.heap.objs.size := Nat.le_trans I.ok.above (Nat.le_of_lt I.lt)
theorem Inv.nofs (I : Inv X pins σ H s) {a : Addr} (h : s.heap.objs.size ≤ a) : a ∉ X.fs := fun hb => by
  obtain ⟨_, o, ho, _⟩ := I.ok.funs.mem hb
  exact absurd (Nat.lt_of_lt_of_le (Heap.lt_size ho) (Nat.le_trans I.sz h)) (Nat.lt_irrefl _)
theorem Inv.cne (I : Inv X pins σ H s) : ∀ x c, X.env.cells.lookup x = some c → c ≠ X.env.locals := fun x c e z => by
  obtain ⟨v, o, ho, hd⟩ := I.cell x c e
  obtain ⟨m, ⟨o', es, ep, ho', hd', _⟩, _⟩ := I.loc
  rw [z, ho'] at ho; cases ho; rw [hd'] at hd; cases hd
theorem Inv.funs (I : Inv X pins σ H s) : s.heap.FunFrames X.base X.outer := by
  have all : ∀ (l : List Env), (∀ b ∈ frs l, b ∈ X.fs) → X.s₀.heap.FunFrames X.base l → s.heap.FunFrames X.base l := by
    intro l
    induction l with
    | nil => intro _ _; trivial
    | cons env r ih =>
      intro hs hl
      obtain ⟨hk, ⟨L, o, hf, hn, ho, hd⟩, hr⟩ := hl
      have hL : L ∈ X.fs := hs L (by unfold frs; rw [List.filterMap_cons, hf]; exact List.mem_cons_self)
      obtain ⟨sl, e⟩ := I.base.slot L o ho (I.ok.frf L hL) hL fun z => I.ok.exfs L z hL
      exact ⟨hk, ⟨L, _, hf, hn, e, hd⟩, ih (fun b hb => hs b (by unfold frs; rw [List.filterMap_cons, hf]; exact List.mem_cons_of_mem _ hb)) hr⟩
  exact all X.outer (fun _ hb => hb) I.ok.funs

/-- the frames that run, for a call -/
theorem Inv.stack (I : Inv X pins σ H s) : s.heap.FunFrames X.base X.stack := by
  rcases I.ok.stk with e | ⟨e, hf⟩
  · rw [e]; exact I.funs
  · rw [e]
    obtain ⟨m, hn, _⟩ := I.loc
    refine .cons (by rw [I.ok.kind]; decide) hf hn ?_ I.funs
    exact Heap.get?_none_of_le (Nat.le_trans I.ok.bsz I.ok.above)
theorem Inv.stkSub (I : Inv X pins σ H s) : ∀ b ∈ frs X.stack, b ∈ X.env.locals :: X.fs := fun b hb => by
  rcases I.ok.stk with e | ⟨e, hf⟩
  · rw [e] at hb; exact List.mem_cons_of_mem _ hb
  · rw [e] at hb
    unfold frs at hb
    rw [List.filterMap_cons, hf] at hb
    exact hb
theorem Inv.stkFree (I : Inv X pins σ H s) : ∀ b ∈ frs X.stack, H b = none := fun b hb => by
  rcases List.mem_cons.mp (I.stkSub b hb) with e | hb
  · rw [e]; exact I.free
  · obtain ⟨_, o, ho, _⟩ := I.ok.funs.mem hb
    exact I.base.free b o ho (I.ok.frf b hb) fun z => I.ok.exfs b z hb

/-- THE STEP: the untracked objects but the frame and the records at ch are kept (the callers' frames up to slots), the frame's map is kept, the new abstract heap is held -/
theorem Inv.step {g' : Array GenState} {t' : Nat} {d' : Drawn} {ch : List Addr} (I : Inv X pins σ H s)
    (hch : ∀ b ∈ ch, (b ∈ X.ex ∨ X.s₀.heap.objs.size ≤ b) ∧ b ≠ X.env.locals ∧ (∀ x c, X.env.cells.lookup x = some c → c ≠ b) ∧ ∀ p ∈ X.pn ++ pins, p.1 ≠ b)
    (keep : ∀ b o, b ≠ X.env.locals → b ∉ X.fs → b ∉ ch → s.heap.get? b = some o → H b = none → h'.get? b = some o)
    (slot : ∀ b o, b ≠ X.env.locals → b ∈ X.fs → b ∉ ch → s.heap.get? b = some o → H b = none → ∃ sl, h'.get? b = some { o with slots := sl }) (free : ∀ b o, b ∉ ch → s.heap.get? b = some o → H b = none → H' b = none)
    (there : ∀ b o, b ∉ ch → s.heap.get? b = some o → ∃ o', h'.get? b = some o')
    (tups : ∀ b xs, H b = some (.tup xs) → H' b = some (.tup xs)) (frzs : ∀ b o u, H b = some (.frz o u) → H' b = some (.frz o u)) (tbls : ∀ b ps, H b = some (.tbl ps) → ∃ more, H' b = some (.tbl (ps ++ more)))
    (ns : ∀ m, s.heap.Ns X.env.locals m → h'.Ns X.env.locals m) (hok : HOk X.prog X.w H' h') (hg : AllBare g') :
    Inv X pins σ H' { s with heap := h', gens := g', drawn := d', toks := t' } := by
  have neL : ∀ b o, X.s₀.heap.get? b = some o → b ≠ X.env.locals := fun b o e => Nat.ne_of_lt (Nat.lt_of_lt_of_le (Heap.lt_size e) I.ok.above)
  have neC : ∀ b o, X.s₀.heap.get? b = some o → b ∉ X.ex → b ∉ ch := fun b o e hx hb => by
    rcases (hch b hb).1 with z | z
    · exact hx z
    · exact absurd (Nat.lt_of_lt_of_le (Heap.lt_size e) z) (Nat.lt_irrefl _)
  have cellK : ∀ x c, X.env.cells.lookup x = some c → ∀ v, s.heap.IsCell c v → h'.IsCell c v := fun x c e v ⟨o, ho, hd⟩ => by
    have nch : c ∉ ch := fun z => (hch c z).2.2.1 x c e rfl
    by_cases hc : c ∈ X.fs
    · obtain ⟨sl, q⟩ := slot c o (I.cne x c e) hc nch ho (I.freeC x c e)
      exact ⟨_, q, hd⟩
    · exact ⟨o, keep c o (I.cne x c e) hc nch ho (I.freeC x c e), hd⟩
  refine ⟨I.ok, I.os, hg, ⟨fun b o e n hb hx => ?_, fun b o e n hb hx => ?_, fun b o e n hx => ?_, fun b o e hx => ?_, fun b xs e => tups b xs (I.base.tups b xs e), fun b o xs e => frzs b o xs (I.base.frzs b o xs e), fun b ps e => ?_⟩, ?_, fun x c e => ?_, ?_, fun x c e => ?_, fun p hp => ?_, hok, I.len⟩
  · exact keep b o (neL b o e) hb (neC b o e hx) (I.base.keep b o e n hb hx) (I.base.free b o e n hx)
  · obtain ⟨sl, e1⟩ := I.base.slot b o e n hb hx
    obtain ⟨sl', e2⟩ := slot b _ (neL b o e) hb (neC b o e hx) e1 (I.base.free b o e n hx)
    exact ⟨sl', e2⟩
  · obtain ⟨o', e1⟩ := I.base.there b o e hx
    exact free b o' (neC b o e hx) e1 (I.base.free b o e n hx)
  · obtain ⟨o', e1⟩ := I.base.there b o e hx
    exact there b o' (neC b o e hx) e1
  · obtain ⟨m1, e1⟩ := I.base.tbls b ps e
    obtain ⟨m2, e2⟩ := tbls b _ e1
    exact ⟨m1 ++ m2, by rw [e2, Array.append_assoc]⟩
  · obtain ⟨m, hn, hl⟩ := I.loc
    refine ⟨m, ns m hn, fun i x v e1 e2 e3 => ?_⟩
    obtain ⟨u, r, l⟩ := hl i x v e1 e2 e3
    refine ⟨u, r, ?_⟩
    rcases l with l | ⟨k, c, e, z⟩
    · exact .inl l
    · exact .inr ⟨k, c, e, cellK x c e _ z⟩
  · obtain ⟨v, z⟩ := I.cell x c e
    exact ⟨v, cellK x c e v z⟩
  · obtain ⟨m, ⟨o, _, _, ho, _⟩, _⟩ := I.loc
    exact free _ o (fun z => (hch _ z).2.1 rfl) ho I.free
  · obtain ⟨v, o, ho, hd⟩ := I.cell x c e
    exact free c o (fun z => (hch c z).2.2.1 x c e rfl) ho (I.freeC x c e)
  · obtain ⟨e, n, ne, nf, d⟩ := I.pin p hp
    have nch : p.1 ∉ ch := fun z => (hch p.1 z).2.2.2 p hp rfl
    exact ⟨keep p.1 p.2 ne nf nch e n, free p.1 p.2 nch e n, ne, nf, d⟩
/-- .. where the frame's own object is kept too -/
theorem Inv.un {t' : Nat} (I : Inv X pins σ H s) (u : Un X.fs [] H H' s.heap h') (hok : HOk X.prog X.w H' h') : Inv X pins σ H' { s with heap := h', toks := t' } := by
  obtain ⟨m, ⟨o, es, ep, ho, r⟩, _⟩ := id I.loc
  obtain ⟨sl, hL⟩ := u.any ho I.free (by simp)
  exact I.step (g' := s.gens) (d' := s.drawn) (ch := []) (fun _ z => nomatch z) (fun b o _ hb _ e n => u.keep b o e n hb (by simp)) (fun b o _ hb _ e n => u.slot b o e n hb (by simp)) (fun b o _ e n => u.free b o e n (by simp)) (fun b o _ e => u.there b o e (by simp)) u.tups u.frzs u.tbls (fun m' hm => by
    obtain ⟨o', es', ep', ho', r'⟩ := hm
    rw [ho] at ho'; cases ho'
    exact ⟨_, es', ep', hL, r'⟩) hok I.bare
/-- behind a call (or a comprehension's block): the slots of this frame may have changed too, the records at ch may have turned -/
theorem Inv.call {g' : Array GenState} {t' : Nat} {d' : Drawn} {ch : List Addr} (I : Inv X pins σ H s) (u : Un (frs X.stack) ch H H' s.heap h') (hok : HOk X.prog X.w H' h') (hg : AllBare g')
    (hch : ∀ b ∈ ch, (b ∈ X.ex ∨ X.s₀.heap.objs.size ≤ b) ∧ b ≠ X.env.locals ∧ (∀ x c, X.env.cells.lookup x = some c → c ≠ b) ∧ ∀ p ∈ X.pn ++ pins, p.1 ≠ b) :
    Inv X pins σ H' { s with heap := h', gens := g', drawn := d', toks := t' } := by
  obtain ⟨m, ⟨o, es, ep, ho, r⟩, _⟩ := id I.loc
  obtain ⟨sl, hL⟩ := u.any ho I.free fun z => (hch _ z).2.1 rfl
  exact I.step (ch := ch) hch (fun b o hL hb hc e n => u.keep b o e n (fun z => (List.mem_cons.mp (I.stkSub b z)).elim hL hb) hc) (fun b o _ _ hc e n => u.any e n hc) (fun b o hc e n => u.free b o e n hc) (fun b o hc e => u.there b o e hc) u.tups u.frzs u.tbls (fun m' hm => by
    obtain ⟨o', es', ep', ho', r'⟩ := hm
    rw [ho] at ho'; cases ho'
    exact ⟨_, es', ep', hL, r'⟩) hok hg
/-- an untracked record of ours (an iterator) has turned -/
theorem Inv.turned {t' : Nat} {it : Addr} (I : Inv X pins σ H s) (k : ∀ b o, b ≠ it → s.heap.get? b = some o → h'.get? b = some o) (hn : H it = none) (hL : it ≠ X.env.locals)
    (h1 : it ∈ X.ex ∨ X.s₀.heap.objs.size ≤ it) (h2 : ∀ x c, X.env.cells.lookup x = some c → c ≠ it) (h3 : ∀ p ∈ X.pn ++ pins, p.1 ≠ it) : Inv X pins σ H { s with heap := h', toks := t' } := by
  have nit : ∀ b u, H b = some u → b ≠ it := fun b u e z => by rw [z, hn] at e; cases e
  refine I.step (g' := s.gens) (d' := s.drawn) (ch := [it]) (fun b hb => ?_) (fun b o _ _ hc e _ => k b o (fun z => hc (by simp [z])) e) (fun b o _ _ hc e _ => ⟨o.slots, k b o (fun z => hc (by simp [z])) e⟩) (fun _ _ _ _ n => n)
    (fun b o hc e => ⟨o, k b o (fun z => hc (by simp [z])) e⟩) (fun _ _ e => e) (fun _ _ _ e => e) (fun b ps e => ⟨#[], by rw [e]; simp⟩) (fun m hm => ?_) (fun b u e => ?_) I.bare
  · have e : b = it := by simpa using hb
    subst e
    exact ⟨h1, hL, h2, h3⟩
  · obtain ⟨o, es, ep, ho, r⟩ := hm
    exact ⟨o, es, ep, k _ o (Ne.symm hL) ho, r⟩
  · refine (I.hok b u e).stay (fun c v hc q => k c v ?_ q) (fun _ q => q) fun _ _ q => q
    rcases hc with z | z
    · rw [z]; exact nit b u e
    · exact nit c _ z
theorem Inv.tok (I : Inv X pins σ H s) (t : Nat) : Inv X pins σ H { s with toks := t } := I.un (h' := s.heap) (t' := t) Un.refl I.hok
/-- all objects kept -/
theorem Inv.kept {t' : Nat} (I : Inv X pins σ H s) (k : ∀ b u, s.heap.get? b = some u → h'.get? b = some u) : Inv X pins σ H { s with heap := h', toks := t' } := I.un (Un.kept k) (I.hok.kept k)
/-- a new object laid and tracked -/
theorem Inv.laid {a : Addr} {o : HO} {t' : Nat} (I : Inv X pins σ H s) (k : ∀ b u, s.heap.get? b = some u → h'.get? b = some u) (hp : s.heap.objs.size ≤ a) (new : ObjOk X.prog X.w (upd H a o) h' a o) :
    Inv X pins σ (upd H a o) { s with heap := h', toks := t' } := I.un (Un.laid k hp (I.hok.fresh hp)) (I.hok.laid k hp new)
/-- an object written -/
theorem Inv.write {x e : Addr} {o : HO} {t' : Nat} (I : Inv X pins σ H s) (mu : Mut (H x)) (he : e = x ∨ H e = some (.own x)) (k : ∀ b u, b ≠ e → s.heap.get? b = some u → h'.get? b = some u) (heo : ∃ u, h'.get? e = some u)
    (new : ObjOk X.prog X.w (upd H x o) h' x o) : Inv X pins σ (upd H x o) { s with heap := h', toks := t' } := I.un (Un.write mu he k heo) (I.hok.write mu he k heo new)
theorem Inv.pins_of {pins' : List (Addr × Obj)} (I : Inv X pins σ H s) (h : ∀ p ∈ pins', s.heap.get? p.1 = some p.2 ∧ H p.1 = none ∧ p.1 ≠ X.env.locals ∧ p.1 ∉ X.fs ∧ ∀ v, p.2.data ≠ .cell v) : Inv X pins' σ H s :=
  ⟨I.ok, I.os, I.bare, I.base, I.loc, I.cell, I.free, I.freeC, fun p hp => (List.mem_append.mp hp).elim (fun z => I.pin p (List.mem_append_left _ z)) (h p), I.hok, I.len⟩

theorem nodup_ix {N : List Str} (hN : N.Nodup) {i j : Nat} {x : Str} (a : N[i]? = some x) (b : N[j]? = some x) : i = j := by
  obtain ⟨h1, e1⟩ := List.getElem?_eq_some_iff.mp a
  obtain ⟨h2, e2⟩ := List.getElem?_eq_some_iff.mp b
  exact (List.getElem_inj hN).mp (e1.trans e2.symm)

/-- a name is stored; what changed -/
theorem store_ok2 {M : Model} {A : Around} {E : Value → Shared → Prop} {i : Nat} {x : Str} {v : V} {u : Value} {Q : Unit → Shared → Prop} (I : Inv X pins σ H s) (hN : X.N.Nodup) (hi : X.N[i]? = some x) (hx : Loc X.env.scope x) (r : RelV v u)
    (h : ∀ s', Inv X pins (σ.set i (some v)) H s' → (∃ a, Heap.SameBut a s.heap s'.heap ∧ (a = X.env.locals ∨ X.env.cells.lookup x = some a)) → Q () s') (hf : X.fn x = true ∨ X.env.scope.names.lookup x = some .local := by first | exact .inl rfl | exact .inr rfl | assumption) : wpAny M A (storeName X.env x u) Q E s := by
  obtain ⟨m, hn, hl⟩ := id I.loc
  have hcls : (X.env.scope.kind == .class || (X.env.scope.kind == .module && X.env.locals != X.env.globals)) = false := by rw [I.ok.kind]; rfl
  have hiσ : i < σ.length := by rw [I.len]; exact (List.getElem?_eq_some_iff.mp hi).1
  have cne := I.cne
  have tracked : ∀ {a : Addr} {h' : Heap}, (∃ o, s.heap.get? a = some o ∧ H a = none) → Heap.SameBut a s.heap h' → HOk X.prog X.w H h' := fun {a h'} ha hs b ob e => by
    obtain ⟨_, _, hfree⟩ := ha
    refine (I.hok b ob e).stay (fun c w' hc q => (hs.2 c ?_).trans q) (fun _ q => q) fun _ _ q => q
    rintro rfl
    rcases hc with rfl | hc
    · rw [hfree] at e; cases e
    · rw [hfree] at hc; cases hc
  rcases hx with hk | hk
  · refine wpAny_storeName_local hk hn (fun h' hn' hs => ?_) hcls
    obtain ⟨oL, _, _, hoL, _⟩ := id hn
    refine h _ ⟨I.ok, I.os, I.bare, ⟨fun b o e n hb hx => ?_, fun b o e n hb hx => ?_, I.base.free, fun b o e hx => ?_, I.base.tups, I.base.frzs, I.base.tbls⟩, ⟨_, hn', fun j y v' e1 e2 e3 => ?_⟩, fun y c e => ?_, I.free, I.freeC, fun p hp => ?_, tracked ⟨oL, hoL, I.free⟩ hs, by simpa using I.len⟩ ⟨_, hs, .inl rfl⟩
    · exact (hs.2 b (Nat.ne_of_lt (Nat.lt_of_lt_of_le (Heap.lt_size e) I.ok.above))).trans (I.base.keep b o e n hb hx)
    · obtain ⟨sl, e1⟩ := I.base.slot b o e n hb hx
      exact ⟨sl, (hs.2 b (Nat.ne_of_lt (Nat.lt_of_lt_of_le (Heap.lt_size e) I.ok.above))).trans e1⟩
    · obtain ⟨o', e1⟩ := I.base.there b o e hx
      exact ⟨o', (hs.2 b (Nat.ne_of_lt (Nat.lt_of_lt_of_le (Heap.lt_size e) I.ok.above))).trans e1⟩
    · by_cases hj : j = i
      · subst hj
        rw [hi] at e1; cases e1
        rw [List.getElem?_set_self hiσ] at e2
        cases e2
        exact ⟨u, r, .inl ⟨hk, by simp⟩⟩
      · rw [List.getElem?_set_ne (Ne.symm hj)] at e2
        obtain ⟨u', r', q⟩ := hl j y v' e1 e2 e3
        refine ⟨u', r', ?_⟩
        rcases q with ⟨k, e⟩ | ⟨k, c, e, z⟩
        · refine .inl ⟨k, ?_⟩
          have : y ≠ x := fun e => hj (nodup_ix hN e1 (e ▸ hi))
          simp [this, e]
        · exact .inr ⟨k, c, e, z.sameBut hs (cne y c e)⟩
    · obtain ⟨w', z⟩ := I.cell y c e
      exact ⟨w', z.sameBut hs (cne y c e)⟩
    · obtain ⟨e, n, ne, nf, d⟩ := I.pin p hp
      exact ⟨(hs.2 p.1 ne).trans e, n, ne, nf, d⟩
  · have hfn : X.fn x = true := by
      rcases hf with z | z
      · exact z
      · rw [z] at hk; cases hk
    obtain ⟨c, hc⟩ := I.ok.has x (.inl hk)
    obtain ⟨w', z⟩ := I.cell x c hc
    refine wpAny_storeName_cell I.ok.kind hk hc z (fun h' hc' hs => ?_)
    obtain ⟨oc, hoc, hocd⟩ := id z
    refine h { s with heap := h' } ⟨I.ok, I.os, I.bare, ⟨fun b o e n hb hx => ?_, fun b o e n hb hx => ?_, I.base.free, fun b o e hx => ?_, I.base.tups, I.base.frzs, I.base.tbls⟩, ⟨m, hn.sameBut hs (Ne.symm (cne x c hc)), fun j y v' e1 e2 e3 => ?_⟩, fun y c' e => ?_, I.free, I.freeC, fun p hp => ?_, tracked ⟨oc, hoc, I.freeC x c hc⟩ hs, by simpa using I.len⟩ ⟨c, hs, .inr hc⟩
    · exact (hs.2 b (Nat.ne_of_lt (Nat.lt_of_lt_of_le (Heap.lt_size e) (I.ok.cab x c hfn hc)))).trans (I.base.keep b o e n hb hx)
    · obtain ⟨sl, e1⟩ := I.base.slot b o e n hb hx
      exact ⟨sl, (hs.2 b (Nat.ne_of_lt (Nat.lt_of_lt_of_le (Heap.lt_size e) (I.ok.cab x c hfn hc)))).trans e1⟩
    · obtain ⟨o', e1⟩ := I.base.there b o e hx
      exact ⟨o', (hs.2 b (Nat.ne_of_lt (Nat.lt_of_lt_of_le (Heap.lt_size e) (I.ok.cab x c hfn hc)))).trans e1⟩
    · by_cases hj : j = i
      · subst hj
        rw [hi] at e1; cases e1
        rw [List.getElem?_set_self hiσ] at e2
        cases e2
        exact ⟨u, r, .inr ⟨.inl hk, c, hc, hc'⟩⟩
      · rw [List.getElem?_set_ne (Ne.symm hj)] at e2
        obtain ⟨u', r', q⟩ := hl j y v' e1 e2 e3
        refine ⟨u', r', ?_⟩
        rcases q with q | ⟨k, c', e, z'⟩
        · exact .inl q
        · refine .inr ⟨k, c', e, z'.sameBut hs ?_⟩
          rintro rfl
          exact hj (nodup_ix hN e1 (I.ok.inj _ _ _ e hc ▸ hi))
    · by_cases hcc : c' = c
      · subst hcc; exact ⟨_, hc'⟩
      · obtain ⟨w2, z2⟩ := I.cell y c' e
        exact ⟨w2, z2.sameBut hs hcc⟩
    · obtain ⟨e, n, ne, nf, d⟩ := I.pin p hp
      refine ⟨(hs.2 p.1 ?_).trans e, n, ne, nf, d⟩
      intro q
      rw [q, hoc] at e
      have q' : oc = p.2 := Option.some.inj e
      exact d w' (by rw [← q']; exact hocd)
theorem store_ok {M : Model} {A : Around} {E : Value → Shared → Prop} {i : Nat} {x : Str} {v : V} {u : Value} {Q : Unit → Shared → Prop} (I : Inv X pins σ H s) (hN : X.N.Nodup) (hi : X.N[i]? = some x) (hx : Loc X.env.scope x) (r : RelV v u)
    (h : ∀ s', Inv X pins (σ.set i (some v)) H s' → Q () s') (hf : X.fn x = true ∨ X.env.scope.names.lookup x = some .local := by first | exact .inl rfl | exact .inr rfl | assumption) : wpAny M A (storeName X.env x u) Q E s :=
  store_ok2 I hN hi hx r (fun s' I' _ => h s' I') hf
/-- behind a call or a block, the state as it is -/
theorem Inv.call' {s' : Shared} {ch : List Addr} (I : Inv X pins σ H s) (ho : s'.os = s.os) (u : Un (frs X.stack) ch H H' s.heap s'.heap) (hok : HOk X.prog X.w H' s'.heap) (hg : AllBare s'.gens)
    (hch : ∀ b ∈ ch, (b ∈ X.ex ∨ X.s₀.heap.objs.size ≤ b) ∧ b ≠ X.env.locals ∧ (∀ x c, X.env.cells.lookup x = some c → c ≠ b) ∧ ∀ p ∈ X.pn ++ pins, p.1 ≠ b) : Inv X pins σ H' s' := by
  obtain ⟨h', g', d', t', o'⟩ := s'
  have e : o' = s.os := ho
  subst e
  exact I.call (g' := g') (t' := t') (d' := d') u hok hg hch
end

/-! ### the judgements -/
/-- an exception: its class, its own dict's address (where it has one), the abstract heap behind it -/
abbrev XK := Value → Option Addr → Hp → Prop
abbrev St := List (Option V)
abbrev VK := V → Hp → Prop
/-- an expression's reading; a test's; an argument list's -/
abbrev TE := St → Hp → VK → Prop
abbrev TT := St → Hp → (Bool → Hp → Prop) → Prop
abbrev TA := St → Hp → (List V → Hp → Prop) → Prop
/-- what is wanted behind a statement -/
structure Ends where
  nx : St → Hp → Prop
  rt : VK
  bk : St → Hp → Prop := fun _ _ => False
  ct : St → Hp → Prop := fun _ _ => False
abbrev TS := Ends → St → Hp → Prop

def EP (X : Cx) (pins : List (Addr × Obj)) (σ : St) (Q : VK) (u : Value) (s' : Shared) : Prop := ∃ v H', Inv X pins σ H' s' ∧ RelV v u ∧ Q v H'
def TP (X : Cx) (pins : List (Addr × Obj)) (σ : St) (Q : Bool → Hp → Prop) (b : Bool) (s' : Shared) : Prop := ∃ H', Inv X pins σ H' s' ∧ Q b H'
def AP (X : Cx) (pins : List (Addr × Obj)) (σ : St) (Q : List V → Hp → Prop) (us : List Value) (s' : Shared) : Prop := ∃ vs H', Inv X pins σ H' s' ∧ Vals vs us ∧ Q vs H'
def SP (X : Cx) (pins : List (Addr × Obj)) (D : Ends) (f : Flow) (s' : Shared) : Prop :=
  match f with
  | .next => ∃ σ' H', Inv X pins σ' H' s' ∧ D.nx σ' H'
  | .brk => ∃ σ' H', Inv X pins σ' H' s' ∧ D.bk σ' H'
  | .cont => ∃ σ' H', Inv X pins σ' H' s' ∧ D.ct σ' H'
  | .ret u => ∃ v σ' H', Inv X pins σ' H' s' ∧ RelV v u ∧ D.rt v H'

def PE (X : Cx) (e : Expr) (t : TE) : Prop :=
  ∀ (pins : List (Addr × Obj)) (s : Shared) (σ : St) (H : Hp) (Q : VK), Inv X pins σ H s → t σ H Q → wpAny (model X.prog X.w) X.A (eval e X.env) (EP X pins σ Q) X.xe s
def PT (X : Cx) (e : Expr) (t : TT) : Prop :=
  ∀ (pins : List (Addr × Obj)) (s : Shared) (σ : St) (H : Hp) (Q : Bool → Hp → Prop), Inv X pins σ H s → t σ H Q → wpAny (model X.prog X.w) X.A (isTrue e X.env (eval e X.env)) (TP X pins σ Q) X.xe s
/-- a test whatever its 'whole' is (and, or) -/
def PW (X : Cx) (e : Expr) (t : TT) : Prop :=
  ∀ (whole : Sem Value) (pins : List (Addr × Obj)) (s : Shared) (σ : St) (H : Hp) (Q : Bool → Hp → Prop), Inv X pins σ H s → t σ H Q → wpAny (model X.prog X.w) X.A (isTrue e X.env whole) (TP X pins σ Q) X.xe s
theorem PW.pt {X : Cx} {e : Expr} {t : TT} (h : PW X e t) : PT X e t := h _
/-- an argument list (no star), from the left -/
def PA (X : Cx) (es : List Expr) (t : TA) : Prop :=
  ∀ (pos : Pos) (pins : List (Addr × Obj)) (s : Shared) (σ : St) (H : Hp) (Q : List V → Hp → Prop), Inv X pins σ H s → t σ H Q → wpAny (model X.prog X.w) X.A (spliced (backTo pos (starEach es X.env))) (AP X pins σ Q) X.xe s
def PS (X : Cx) (st : Stmt) (t : TS) : Prop :=
  ∀ (pins : List (Addr × Obj)) (s : Shared) (σ : St) (H : Hp) (D : Ends), Inv X pins σ H s → t D σ H → wpAny (model X.prog X.w) X.A (exec st X.env) (SP X pins D) X.xe s
def PSs (X : Cx) (st : List Stmt) (t : TS) : Prop :=
  ∀ (pins : List (Addr × Obj)) (s : Shared) (σ : St) (H : Hp) (D : Ends), Inv X pins σ H s → t D σ H → wpAny (model X.prog X.w) X.A (execs st X.env) (SP X pins D) X.xe s
/-- weaken the end -/
theorem thn {α : Type} {t : Sem α} {Q Q' : α → Shared → Prop} {M : Model} {A : Around} {E : Value → Shared → Prop} {s : Shared} (h : wpAny M A t Q E s) (hQ : ∀ a s, Q a s → Q' a s) : wpAny M A t Q' E s := wpAny_mono h hQ fun _ _ x => x
end L2

namespace L2
open PySem PySem.Spec PyProof.Rows
section
variable {X : Cx}

/-- two expressions in a row -/
theorem bin {a b : Expr} {ta tb : TE} (ha : PE X a ta) (hb : PE X b tb) {pins : List (Addr × Obj)} {s : Shared} {σ : St} {H : Hp} {R : V → V → Hp → Prop} (I : Inv X pins σ H s) (h : ta σ H fun x H1 => tb σ H1 fun y H2 => R x y H2)
    {α : Type} {Q : α → Shared → Prop} {f : Value → Value → Sem α}
    (hf : ∀ v u s2 x y H2, Inv X pins σ H2 s2 → RelV x v → RelV y u → R x y H2 → wpAny (model X.prog X.w) X.A (f v u) Q X.xe s2) :
    wpAny (model X.prog X.w) X.A (eval a X.env) (fun v s₁ => wpAny (model X.prog X.w) X.A (eval b X.env) (fun u s₂ => wpAny (model X.prog X.w) X.A (f v u) Q X.xe s₂) X.xe s₁) X.xe s := by
  refine thn (ha pins s σ H _ I h) fun v s1 ⟨x, H1, I1, r1, q1⟩ => ?_
  refine thn (hb pins s1 σ H1 _ I1 q1) fun u s2 ⟨y, H2, I2, r2, q2⟩ => ?_
  exact hf v u s2 x y H2 I2 r1 r2 q2

/-! ### names and constants -/
inductive VarR (i : Nat) (σ : St) (H : Hp) (Q : VK) : Prop
  | mk (v : V) (h : σ[i]? = some (some v)) (k : Q v H) : VarR i σ H Q
def tVar (i : Nat) : TE := fun σ H Q => VarR i σ H Q
def tC (v : V) : TE := fun _ H Q => Q v H
theorem pe_var {i : Nat} {x : Str} {pos : Pos} (hN : X.N[i]? = some x) (hv : Vis X.env.scope x) (hd : (x == ("__debug__" : Str)) = false := by decide) (hcd : (x == ("__classdict__" : Str)) = false := by decide) : PE X (.Name x pos) (tVar i) := by
  intro pins s σ H Q I h
  obtain ⟨v, e, h⟩ := h
  obtain ⟨m, hn, hl⟩ := I.loc
  obtain ⟨u, r, l⟩ := hl i x v hN e hv
  have fin : EP X pins σ Q u s := ⟨v, H, I, r, h⟩
  rcases l with ⟨hk, hm⟩ | ⟨hk, c, hc, hcell⟩
  · exact wpAny_Name (wpAny_loadName_local I.ok.kind hk hn hm fin) hd
  · rcases hk with hk | hk
    · exact wpAny_Name (wpAny_loadName_cell I.ok.kind hk hc hcell fin) hd
    · exact wpAny_Name (wpAny_loadName_free I.ok.kind hk hc hcell fin hcd) hd
theorem pe_int {i j pos} : PE X (.Constant (.int i) j pos) (tC (.int i)) := fun _ _ _ H _ I h => wpAny_Constant_int ⟨.int i, H, I.tok _, ⟨_, rfl⟩, h⟩
theorem pe_bl {b j pos} : PE X (.Constant (.bool b) j pos) (tC (.bl b)) := fun _ _ _ H _ I h => Constant_bool ⟨.bl b, H, I, rfl, h⟩
theorem pe_non {j pos} : PE X (.Constant .none j pos) (tC .non) := fun _ _ _ H _ I h => Constant_none ⟨.non, H, I, rfl, h⟩
theorem pe_str {x j pos} : PE X (.Constant (.str x) j pos) (tC (.str x)) := fun _ _ _ H _ I h => Calls.Constant_str ⟨.str x, H, I.tok _, ⟨_, rfl⟩, h⟩

/-- a global name of the def -/
def Gl (X : Cx) (x : Str) : Prop := X.env.kindOf x = some .globalImplicit
theorem ld_glob {E : Value → Shared → Prop} {pins : List (Addr × Obj)} {s : Shared} {σ : St} {H : Hp} {x : Str} {u : Value} {pos : Pos} {Q : Value → Shared → Prop} (I : Inv X pins σ H s) (hg : Gl X x) (hm : X.mg x = some u) (h : Q u s)
    (hd : (x == ("__debug__" : Str)) = false := by decide) : wpAny (model X.prog X.w) X.A (eval (.Name x pos) X.env) Q E s :=
  Calls.Name_function_global I.ok.kind hg (Calls.loadGlobal_global (by rw [I.ok.glob]; exact I.mod.glob.keeps I.bk) hm h) hd
theorem ld_blt {E : Value → Shared → Prop} {pins : List (Addr × Obj)} {s : Shared} {σ : St} {H : Hp} {x : Str} {u : Value} {pos : Pos} {Q : Value → Shared → Prop} (I : Inv X pins σ H s) (hg : Gl X x) (hm : X.mg x = none) (hv : bootBuiltins x = some u) (h : Q u s)
    (hn : x ≠ "__name__" := by decide) (hd : (x == ("__debug__" : Str)) = false := by decide) : wpAny (model X.prog X.w) X.A (eval (.Name x pos) X.env) Q E s := by
  obtain ⟨mb, h1, h2⟩ := I.mod.blt
  exact Calls.Name_function_global I.ok.kind hg (Calls.loadGlobal_builtin (by rw [I.ok.glob]; exact I.mod.glob.keeps I.bk) hm (by rw [I.ok.blt]; exact h1.keeps I.bk) ((h2 x hn).trans hv) h) hd
/-- a module's constant, a class, a function, as a value -/
theorem pe_glob {x : Str} {v : V} {u : Value} {pos : Pos} (hg : Gl X x) (hm : X.mg x = some u) (r : RelV v u) (hd : (x == ("__debug__" : Str)) = false := by decide) : PE X (.Name x pos) (tC v) :=
  fun _ _ _ H _ I h => ld_glob I hg hm ⟨v, H, I, r, h⟩ hd
theorem pe_bltn {x : Str} {v : V} {u : Value} {pos : Pos} (hg : Gl X x) (hm : X.mg x = none) (hv : bootBuiltins x = some u) (r : RelV v u) (hn : x ≠ "__name__" := by decide) (hd : (x == ("__debug__" : Str)) = false := by decide) : PE X (.Name x pos) (tC v) :=
  fun _ _ _ H _ I h => ld_blt I hg hm hv ⟨v, H, I, r, h⟩ hn hd

/-! ### arithmetic -/
variable {a b : Expr} {ta tb : TE} {pos : Pos}
/-! ### comparisons -/
def PC (X : Cx) (op : CmpOp) (a b : Expr) (t : TE) : Prop :=
  ∀ (pins : List (Addr × Obj)) (s : Shared) (σ : St) (H : Hp) (Q : VK), Inv X pins σ H s → t σ H Q →
    wpAny (model X.prog X.w) X.A (eval a X.env) (fun v s₁ => wpAny (model X.prog X.w) X.A (eval b X.env) (fun u s₂ => wpAny (model X.prog X.w) X.A (compareOp op v u) (EP X pins σ Q) X.xe s₂) X.xe s₁) X.xe s
theorem nobehind (b : Expr) {op : CmpOp} (h : op ≠ .In) (h2 : op ≠ .NotIn) : behindInMarks op b = false := by
  have e1 : (op == CmpOp.In) = false := by cases op <;> first | rfl | exact absurd rfl h
  have e2 : (op == CmpOp.NotIn) = false := by cases op <;> first | rfl | exact absurd rfl h2
  cases b <;> simp [behindInMarks, e1, e2]
/-- a comparison as a value, as a test -/
inductive BoolR (x : V) (H : Hp) (Q : Bool → Hp → Prop) : Prop
  | mk (c : Bool) (h : x = .bl c) (k : Q c H) : BoolR x H Q
def tB (t : TE) : TT := fun σ H Q => t σ H fun x H1 => BoolR x H1 Q
theorem pt_cmp {op : CmpOp} {t : TE} (h : PC X op a b t) (h1 : behindInMarks op b = false := by first | exact nobehind _ (by decide) (by decide) | rfl) : PT X (.Compare a [op] [b] pos) (tB t) := by
  intro pins s σ H Q I hw
  refine wpAny_isTrue_Compare1 (thn (h pins s σ H _ I hw) fun v s1 h1 => thn h1 fun u s2 h2 => thn h2 fun c s3 ⟨x, H1, I1, r1, q1⟩ => ?_) h1
  obtain ⟨d, rfl, q⟩ := q1
  cases r1
  exact wpAny_truthy_bool ⟨H1, I1, q⟩
/-- an expression whose value is a bool, as a test -/
theorem pt_val {e : Expr} {t : TE} (h : PE X e t) (he : ∀ whole, isTrue e X.env whole = (do let v ← whole; standAt e.pos; holding [v] (truthy v)) := by intro _; rfl) : PT X e (tB t) := by
  intro pins s σ H Q I hw
  refine isTrue_plain (thn (h pins s σ H _ I hw) fun v s1 ⟨x, H1, I1, r1, q1⟩ => ?_) (he _)
  obtain ⟨d, rfl, q⟩ := q1
  cases r1
  exact wpAny_truthy_bool ⟨H1, I1, q⟩

/-! ### and, or, not -/
variable {tA tB' : TT} {rest : List Expr}
def tAnd (t u : TT) : TT := fun σ H Q => t σ H fun c H1 => if c = true then u σ H1 Q else Q false H1
def tOr (t u : TT) : TT := fun σ H Q => t σ H fun c H1 => if c = true then Q true H1 else u σ H1 Q
def tNot (t : TT) : TT := fun σ H Q => t σ H fun c H1 => Q (!c) H1
theorem pw_and1 (ha : PT X a tA) : PW X (.BoolOp .And [a] pos) tA := by
  intro wh pins s σ H Q I h
  refine isTrue_and (thn (ha pins s σ H Q I h) fun c s1 e => ?_)
  cases c with
  | true => exact isTrue_and_nil e
  | false => exact e
theorem pw_or1 (ha : PT X a tA) : PW X (.BoolOp .Or [a] pos) tA := by
  intro wh pins s σ H Q I h
  refine isTrue_or (thn (ha pins s σ H Q I h) fun c s1 e => ?_)
  cases c with
  | false => exact isTrue_or_nil e
  | true => exact e
theorem pw_and (ha : PT X a tA) (hb : PW X (.BoolOp .And (b :: rest) pos) tB') : PW X (.BoolOp .And (a :: b :: rest) pos) (tAnd tA tB') := by
  intro wh pins s σ H Q I h
  refine isTrue_and (thn (ha pins s σ H _ I h) fun c s1 ⟨H1, I1, q1⟩ => ?_)
  cases c with
  | true => exact hb wh pins s1 σ H1 Q I1 q1
  | false => exact ⟨H1, I1, q1⟩
theorem pw_or (ha : PT X a tA) (hb : PW X (.BoolOp .Or (b :: rest) pos) tB') : PW X (.BoolOp .Or (a :: b :: rest) pos) (tOr tA tB') := by
  intro wh pins s σ H Q I h
  refine isTrue_or (thn (ha pins s σ H _ I h) fun c s1 ⟨H1, I1, q1⟩ => ?_)
  cases c with
  | true => exact ⟨H1, I1, q1⟩
  | false => exact hb wh pins s1 σ H1 Q I1 q1
theorem pt_not (ha : PT X a tA) : PT X (.UnaryOp .Not a pos) (tNot tA) := by
  intro pins s σ H Q I h
  exact isTrue_not (ha pins s σ H (fun c H1 => Q (!c) H1) I h)
/-- .. as values (bools) -/
def tAndV (ta tb : TE) : TE := fun σ H Q => ta σ H fun x H1 => ∃ c, x = .bl c ∧ if c = true then tb σ H1 Q else Q (.bl false) H1
def tNotV (ta : TE) : TE := fun σ H Q => ta σ H fun x H1 => ∃ c, x = .bl c ∧ Q (.bl (!c)) H1
theorem pe_one {op} {t : TE} (h : PE X a t) : PE X (.BoolOp op [a] pos) t := fun pins s σ H Q I hw => BoolOp_one (h pins s σ H Q I hw)
theorem pe_and (ha : PE X a ta) (hb : PE X (.BoolOp .And (b :: rest) pos) tb) : PE X (.BoolOp .And (a :: b :: rest) pos) (tAndV ta tb) := by
  intro pins s σ H Q I h
  refine BoolOp_and (thn (ha pins s σ H _ I h) fun v s1 ⟨x, H1, I1, r1, q1⟩ => ?_)
  obtain ⟨c, rfl, q1⟩ := q1
  cases r1
  refine wpAny_truthy_bool ?_
  cases c with
  | true => exact hb pins s1 σ H1 Q I1 q1
  | false => exact ⟨.bl false, H1, I1, rfl, q1⟩
theorem pe_not (ha : PE X a ta) : PE X (.UnaryOp .Not a pos) (tNotV ta) := by
  intro pins s σ H Q I h
  refine UnaryOp_ (thn (ha pins s σ H _ I h) fun v s1 ⟨x, H1, I1, r1, q1⟩ => ?_)
  obtain ⟨c, rfl, q1⟩ := q1
  cases r1
  exact not_of (wpAny_truthy_bool ⟨.bl (!c), H1, I1, rfl, q1⟩)
/-- a if t else b -/
def tIf (t : TT) (ta tb : TE) : TE := fun σ H Q => t σ H fun c H1 => if c = true then ta σ H1 Q else tb σ H1 Q
theorem pe_ifExp {c : Expr} (hc : PT X c tA) (ha : PE X a ta) (hb : PE X b tb) : PE X (.IfExp c a b pos) (tIf tA ta tb) := by
  intro pins s σ H Q I h
  refine wpAny_IfExp (thn (hc pins s σ H _ I h) fun d s1 ⟨H1, I1, q1⟩ => ?_)
  cases d with
  | true => exact ha pins s1 σ H1 Q I1 q1
  | false => exact hb pins s1 σ H1 Q I1 q1
end
end L2

namespace L2
open PySem PySem.Spec PyProof.Rows

/-! ### a list, a tuple that is read: tracked, frozen, or an object of the module -/
def SqL (K : PySem.W.Frag) (H : Hp) (a : Addr) (xs : List V) : Prop :=
  Rd H a (.lst xs) ∨
    ∃ (o : Obj) (its : Array Value) (n : Nat), K.lookup a = some o ∧ o.cls = .type "list" ∧ o.dict = none ∧ o.data = .seq its n ∧ its.size ≤ sizeLine ∧ Vals xs its.toList
def SqT (K : PySem.W.Frag) (H : Hp) (a : Addr) (xs : List V) : Prop :=
  Rd H a (.tup xs) ∨
    ∃ (o : Obj) (its : Array Value) (n : Nat), K.lookup a = some o ∧ o.cls = .type "tuple" ∧ o.data = .seq its n ∧ its.size ≤ sizeLine ∧ Vals xs its.toList
def absV : Value → Option V
  | .none => some .non
  | .bool b => some (.bl b)
  | .int i _ => some (.int i)
  | .str x _ => some (.str x)
  | .bytes b _ => some (.byt b)
  | .float b _ => some (.flt b)
  | .ref a => some (.ref a)
  | .type n => some (.ty n)
  | _ => none
theorem RelV.abs {x : V} {u : Value} (r : RelV x u) : absV u = some x := by
  cases x with
  | non => cases r; rfl
  | bl _ => cases r; rfl
  | int _ => obtain ⟨t, rfl⟩ := r; rfl
  | str _ => obtain ⟨t, rfl⟩ := r; rfl
  | byt _ => obtain ⟨t, rfl⟩ := r; rfl
  | flt _ => obtain ⟨t, rfl⟩ := r; rfl
  | ref _ => cases r; rfl
  | ty _ => cases r; rfl
theorem RelV.inj {x y : V} {u : Value} (r : RelV x u) (q : RelV y u) : x = y := Option.some.inj (r.abs.symm.trans q.abs)
theorem Vals.inj : ∀ {xs ys : List V} {us : List Value}, Vals xs us → Vals ys us → xs = ys
  | _, _, _, .nil, .nil => rfl
  | _, _, _, .cons r t, .cons r' t' => by rw [r.inj r', Vals.inj t t']
section
variable {X : Cx} {pins : List (Addr × Obj)} {σ : St} {H : Hp} {s : Shared} {a : Addr} {xs ys : List V}
theorem SqL.of {K : PySem.W.Frag} (h : H a = some (.lst xs)) : SqL K H a xs := .inl (.inl h)
theorem SqT.of {K : PySem.W.Frag} (h : H a = some (.tup xs)) : SqT K H a xs := .inl (.inl h)
theorem Inv.list (I : Inv X pins σ H s) (h : SqL X.K H a xs) : ∃ its : List Value, Vals xs its ∧ PlainL s.heap a its.toArray ∧ xs.length ≤ sizeLine := by
  rcases h with h | ⟨o, its, n, hk, hc, hd, hs, hz, r⟩
  · obtain ⟨z, its, n, r, e⟩ := h.ok I.hok
    exact ⟨its, r, ⟨_, n, e, rfl, rfl, rfl⟩, z⟩
  · refine ⟨its.toList, r, ⟨o, n, I.kIn a o hk, hc, hd, by simpa using hs⟩, ?_⟩
    have e := r.length
    simp only [Array.length_toList] at e
    omega
theorem Inv.tuple (I : Inv X pins σ H s) (h : SqT X.K H a xs) : ∃ its : List Value, Vals xs its ∧ IsTup s.heap a its.toArray ∧ xs.length ≤ sizeLine := by
  rcases h with h | ⟨o, its, n, hk, hc, hs, hz, r⟩
  · obtain ⟨z, its, r, p⟩ := h.ok I.hok
    exact ⟨its, r, p, z⟩
  · refine ⟨its.toList, r, ⟨o, I.kIn a o hk, hc, n, by simpa using hs⟩, ?_⟩
    have e := r.length
    simp only [Array.length_toList] at e
    omega
theorem Inv.list_inj (I : Inv X pins σ H s) (h : SqL X.K H a xs) (h' : SqL X.K H a ys) : xs = ys := by
  obtain ⟨its, r, ⟨o, n, e, _, _, d⟩, _⟩ := I.list h
  obtain ⟨its', r', ⟨o', n', e', _, _, d'⟩, _⟩ := I.list h'
  rw [e] at e'; cases e'
  rw [d] at d'
  injection d' with d1 _
  have : its = its' := by simpa using congrArg Array.toList d1
  subst this
  exact r.inj r'
end

/-! ### another wish about exceptions -/
abbrev Cx.wish (X : Cx) (E : Value → Shared → Prop) : Cx := { X with xe := E }
/-- no exception leaves -/
abbrev Cx.nox (X : Cx) : Cx := X.wish fun _ _ => False
theorem Cx.Ok.wish {X : Cx} (ok : X.Ok) (E : Value → Shared → Prop) : (X.wish E).Ok :=
  ⟨ok.mod, ok.kind, ok.glob, ok.blt, ok.above, ok.inj, ok.has, ok.cab, ok.hd, ok.frames, ok.stk, ok.exf, ok.bs, ok.bsz, ok.noex, ok.exfs, ok.funs, ok.frf⟩
theorem Cx.Ok.unwish {X : Cx} {E : Value → Shared → Prop} (ok : (X.wish E).Ok) : X.Ok :=
  ⟨ok.mod, ok.kind, ok.glob, ok.blt, ok.above, ok.inj, ok.has, ok.cab, ok.hd, ok.frames, ok.stk, ok.exf, ok.bs, ok.bsz, ok.noex, ok.exfs, ok.funs, ok.frf⟩
section
variable {X : Cx} {pins : List (Addr × Obj)} {σ : St} {H : Hp} {s : Shared} {E : Value → Shared → Prop}
theorem Inv.wish (I : Inv X pins σ H s) (E : Value → Shared → Prop) : Inv (X.wish E) pins σ H s := ⟨I.ok.wish E, I.os, I.bare, I.base, I.loc, I.cell, I.free, I.freeC, I.pin, I.hok, I.len⟩
theorem Inv.unwish (I : Inv (X.wish E) pins σ H s) : Inv X pins σ H s := ⟨I.ok.unwish, I.os, I.bare, I.base, I.loc, I.cell, I.free, I.freeC, I.pin, I.hok, I.len⟩
theorem SP.unwish {D : Ends} {f : Flow} {s' : Shared} (h : SP (X.wish E) pins D f s') : SP X pins D f s' := by
  cases f with
  | next => obtain ⟨σ', H', I, q⟩ := h; exact ⟨σ', H', I.unwish, q⟩
  | brk => obtain ⟨σ', H', I, q⟩ := h; exact ⟨σ', H', I.unwish, q⟩
  | cont => obtain ⟨σ', H', I, q⟩ := h; exact ⟨σ', H', I.unwish, q⟩
  | ret u => obtain ⟨v, σ', H', I, r, q⟩ := h; exact ⟨v, σ', H', I.unwish, r, q⟩
theorem PSs.nox {st : List Stmt} {t : TS} (h : PSs X.nox st t) : PSs X st t := fun pins s σ H D I hw =>
  wpAny_mono (h pins s σ H D (I.wish _) hw) (fun _ _ q => q.unwish) fun _ _ z => False.elim z
end

/-! ### blocks and small statements -/
section
variable {X : Cx} {st : Stmt} {rest : List Stmt} {t u : TS} {e : Expr} {te : TE} {pos : Pos}
def tNext : TS := fun D σ H => D.nx σ H
def tSeq (t u : TS) : TS := fun D σ H => t { D with nx := u D } σ H
theorem pss_nil : PSs X [] tNext := fun _ _ σ H _ I h => wpAny_execs_nil ⟨σ, H, I, h⟩
theorem pss_cons (h1 : PS X st t) (h2 : PSs X rest u) : PSs X (st :: rest) (tSeq t u) := by
  intro pins s σ H D I h
  refine wpAny_execs_cons (thn (h1 pins s σ H { D with nx := u D } I h) fun f s1 q => ?_)
  cases f with
  | next =>
    obtain ⟨σ', H', I', q⟩ := q
    exact h2 pins s1 σ' H' D I' q
  | ret v => exact q
  | brk => exact q
  | cont => exact q
theorem pss_one (h1 : PS X st t) : PSs X [st] t := by
  intro pins s σ H D I h
  refine wpAny_execs_cons (thn (h1 pins s σ H D I h) fun f s1 q => ?_)
  cases f with
  | next => exact wpAny_execs_nil q
  | ret v => exact q
  | brk => exact q
  | cont => exact q
/-- in a def's body nothing is shown -/
theorem Inv.quiet {pins : List (Addr × Obj)} {σ : St} {H : Hp} {s : Shared} (I : Inv X pins σ H s) : interactive X.env = false := by simp [interactive, I.ok.kind]
/-- an expression whose value is dropped -/
def tDrop (te : TE) : TS := fun D σ H => te σ H fun _ H1 => D.nx σ H1
theorem ps_expr (he : PE X e te) (hs : swapsWith e none pos.line X.env = pure false := by rfl) : PS X (.Expr e pos) (tDrop te) := by
  intro pins s σ H D I h
  exact wpAny_Expr_any (thn (he pins s σ H _ I h) fun v s1 ⟨x, H1, I1, r1, q1⟩ => ⟨σ, H1, I1, q1⟩) I.quiet hs
def tRet (te : TE) : TS := fun D σ H => te σ H D.rt
theorem ps_ret (he : PE X e te) : PS X (.Return (some e) pos) (tRet te) := by
  intro pins s σ H D I h
  exact wpAny_Return_some (thn (he pins s σ H _ I h) fun v s1 ⟨x, H1, I1, r1, q1⟩ => ⟨x, σ, H1, I1, r1, q1⟩)
def tIfS (c : TT) (t u : TS) : TS := fun D σ H => c σ H fun b H1 => if b = true then t D σ H1 else u D σ H1
theorem ps_if {c : Expr} {a b : List Stmt} {tc : TT} (hc : PT X c tc) (ha : PSs X a t) (hb : PSs X b u) : PS X (.If c a b pos) (tIfS tc t u) := by
  intro pins s σ H D I h
  refine wpAny_If (thn (hc pins s σ H _ I h) fun d s1 ⟨H1, I1, q1⟩ => ?_)
  cases d with
  | true => exact ha pins s1 σ H1 D I1 q1
  | false => exact hb pins s1 σ H1 D I1 q1
/-- code that the proof never comes to -/
def tNever : TS := fun _ _ _ => False
theorem ps_never : PS X st tNever := fun _ _ _ _ _ _ h => h.elim
theorem pss_never {sts : List Stmt} : PSs X sts tNever := fun _ _ _ _ _ _ h => h.elim
end

/-! ### targets -/
abbrev TG := V → St → Hp → (St → Hp → Prop) → Prop
abbrev TGs := List V → St → Hp → (St → Hp → Prop) → Prop
def PG (X : Cx) (target : Expr) (t : TG) : Prop :=
  ∀ (pins : List (Addr × Obj)) (s : Shared) (σ : St) (H : Hp) (v : V) (u : Value) (Q : St → Hp → Prop), Inv X pins σ H s → RelV v u → t v σ H Q →
    wpAny (model X.prog X.w) X.A (assign target X.env u) (fun _ s' => ∃ σ' H', Inv X pins σ' H' s' ∧ Q σ' H') X.xe s
/-- several targets, one after another -/
def PGs (X : Cx) (ts : List Expr) (t : TGs) : Prop :=
  ∀ (pins : List (Addr × Obj)) (s : Shared) (σ : St) (H : Hp) (vs : List V) (us : List Value) (Q : St → Hp → Prop), Inv X pins σ H s → Vals vs us → t vs σ H Q →
    wpAny (model X.prog X.w) X.A (assignInOrder ((assignEach ts X.env).map (·.2)) us) (fun _ s' => ∃ σ' H', Inv X pins σ' H' s' ∧ Q σ' H') X.xe s
section
variable {X : Cx} {pos : Pos}
def gName (i : Nat) : TG := fun v σ H Q => Q (σ.set i (some v)) H
theorem pg_name {i : Nat} {x : Str} (hN : X.N.Nodup) (hi : X.N[i]? = some x) (hx : Loc X.env.scope x) (hf : X.fn x = true ∨ X.env.scope.names.lookup x = some .local := by first | exact .inl rfl | exact .inr rfl | assumption) : PG X (.Name x pos) (gName i) := by
  intro pins s σ H v u Q I r h
  exact wpAny_assign_Name (store_ok I hN hi hx r (fun s' I' => ⟨_, H, I', h⟩) hf)
def gNil : TGs := fun vs σ H Q => vs = [] ∧ Q σ H
def gCons (t : TG) (u : TGs) : TGs := fun vs σ H Q => ∃ v r, vs = v :: r ∧ t v σ H fun σ' H' => u r σ' H' Q
theorem pgs_nil : PGs X [] gNil := by
  intro pins s σ H vs us Q I r h
  obtain ⟨e, h⟩ := h
  subst e
  cases r
  exact assignInOrder_nil ⟨σ, H, I, h⟩
theorem pgs_cons {e : Expr} {es : List Expr} {t : TG} {u : TGs} (h1 : PG X e t) (h2 : PGs X es u)
    (hs : (assignEach (e :: es) X.env).map (·.2) = assign e X.env :: (assignEach es X.env).map (·.2) := by rfl) : PGs X (e :: es) (gCons t u) := by
  intro pins s σ H vs us Q I r h
  obtain ⟨v, vr, e1, h⟩ := h
  subst e1
  cases r with
  | cons r rr =>
    rw [hs]
    refine assignInOrder_cons (thn (h1 pins s σ H _ _ _ I r h) fun _ s1 ⟨σ1, H1, I1, q1⟩ => ?_)
    exact h2 pins s1 σ1 H1 _ _ Q I1 rr q1
/-- (a, b, ..) = a tuple of that length -/
def gTup (K : PySem.W.Frag) (n : Nat) (t : TGs) : TG := fun v σ H Q => ∃ a xs, v = .ref a ∧ SqT K H a xs ∧ xs.length = n ∧ t xs σ H Q
theorem pg_tup {es : List Expr} {k : Nat} {t : TGs} {n : Nat} (hc : X.calm = true) (h : PGs X es t)
    (hn : (assignEach es X.env).length = n := by rfl) (hst : (assignEach es X.env).findIdx? (·.1) = none := by rfl) : PG X (.Tuple es k pos) (gTup X.K n t) := by
  intro pins s σ H v u Q I r hw
  obtain ⟨a, xs, e1, hq, hl, hw⟩ := hw
  subst e1
  cases r
  obtain ⟨its, rv, ht, hz⟩ := I.tuple hq
  refine assign_Tuple_tuple (I.ok.hd hc) ht (by simp [hn, ← hl, rv.length]) hst fun h' hx => ?_
  have I1 : Inv X pins σ H { s with heap := h' } := I.kept (t' := s.toks) fun b o e => hx b o (Nat.ne_of_lt (Heap.lt_size e)) e
  exact h pins _ σ H xs _ Q I1 (by simpa using rv) hw
/-- target = value -/
def tAsg (te : TE) (g : TG) : TS := fun D σ H => te σ H fun x H1 => g x σ H1 D.nx
theorem ps_asg {tg e : Expr} {te : TE} {g : TG} (he : PE X e te) (hg : PG X tg g) (hs : swapsWithSole [tg] e pos.line X.env = pure false := by rfl) (hw : swappedStores [tg] e X.env = pure none := by rfl)
    (h1 : (assignEach [tg] X.env).map (·.2) = [assign tg X.env] := by rfl) : PS X (.Assign [tg] e pos) (tAsg te g) := by
  intro pins s σ H D I h
  refine wpAny_Assign_stores (thn (he pins s σ H _ I h) fun v s1 ⟨x, H1, I1, r1, q1⟩ => ?_) hs hw
  rw [h1]
  exact thn (hg pins s1 σ H1 x v _ I1 r1 q1) fun _ s2 q => q
/-- name = value -/
theorem ps_set {i : Nat} {x : Str} {e : Expr} {te : TE} {pos' : Pos} (hN : X.N.Nodup) (hi : X.N[i]? = some x) (hx : Loc X.env.scope x) (he : PE X e te) (hs : swapsWith e (some (.Name x pos')) pos.line X.env = pure false := by rfl) (hf : X.fn x = true ∨ X.env.scope.names.lookup x = some .local := by first | exact .inl rfl | exact .inr rfl | assumption) :
    PS X (.Assign [.Name x pos'] e pos) (tAsg te (gName i)) := by
  intro pins s σ H D I h
  refine wpAny_Assign_Name (thn (he pins s σ H _ I h) fun v s1 ⟨y, H1, I1, r1, q1⟩ => ?_) hs
  exact store_ok I1 hN hi hx r1 (fun s2 I2 => ⟨_, H1, I2, q1⟩) hf
end

/-! ### while -/
section
variable {X : Cx} {pos : Pos}
/-- the invariant W with its measure -/
def tWhile (c : TT) (tb : TS) : TS := fun D σ H => ∃ W : Nat → St → Hp → Prop, (∃ m, W m σ H) ∧ ∀ m σ H, W m σ H →
  c σ H fun b H1 => if b = true then ∃ N : St → Hp → Prop, (∀ σ' H', N σ' H' → ∃ m', m' < m ∧ W m' σ' H') ∧ tb { D with nx := N, ct := N, bk := D.nx } σ H1 else D.nx σ H1
theorem ps_while {c : Expr} {body : List Stmt} {tc : TT} {tb : TS} (hp : PassesOwn (model X.prog X.w) X.A X.env X.xe) (hc : PT X c tc) (hb : PSs X body tb) : PS X (.While c body [] pos) (tWhile tc tb) := by
  intro pins s σ H D I h
  obtain ⟨W, ⟨m0, w0⟩, turn⟩ := h
  refine wpAny_While (codeAny_whileLoop (fun n s' => ∃ σ' H', Inv X pins σ' H' s' ∧ W n σ' H') ?_ m0 ⟨σ, H, I, w0⟩)
  rintro n s1 ⟨σ1, H1, I1, w1⟩
  refine wpAny_passesOwn hp (thn (hc pins s1 σ1 H1 _ I1 (turn n σ1 H1 w1)) fun b s2 ⟨H2, I2, q2⟩ => ?_)
  cases b with
  | true =>
    obtain ⟨N, hN, q2⟩ := q2
    rw [if_pos rfl]
    refine wpAny_passesOwn hp (thn (hb pins s2 σ1 H2 _ I2 q2) fun f s3 q3 => ?_)
    cases f with
    | next =>
      obtain ⟨σ3, H3, I3, n3⟩ := q3
      obtain ⟨m', hm, w3⟩ := hN σ3 H3 n3
      exact ⟨m', hm, σ3, H3, I3, w3⟩
    | cont =>
      obtain ⟨σ3, H3, I3, n3⟩ := q3
      obtain ⟨m', hm, w3⟩ := hN σ3 H3 n3
      exact ⟨m', hm, σ3, H3, I3, w3⟩
    | brk => exact q3
    | ret v => exact q3
  | false =>
    rw [if_neg Bool.false_ne_true]
    exact wpAny_execs_nil ⟨σ1, H2, I2, q2⟩
end

/-! ### what a loop or a comprehension walks -/
/-- at turn i: it yields x (the heap may grow), or it stops -/
structure It where
  go : Nat → Hp → Prop
  yld : Nat → Hp → V → Hp → Prop
  stop : Nat → Hp → Prop
/-- the iterator's own objects may turn: they are not the frame's, not pinned, younger than the entry (or a comprehension's own) -/
def FpOk (X : Cx) (pins : List (Addr × Obj)) (H : Hp) (b : Addr) : Prop :=
  H b = none ∧ b ≠ X.env.locals ∧ b ∉ X.fs ∧ (b ∈ X.ex ∨ X.s₀.heap.objs.size ≤ b) ∧ (∀ x c, X.env.cells.lookup x = some c → c ≠ b) ∧ ∀ p ∈ X.pn ++ pins, p.1 ≠ b
theorem Inv.fpOk {X : Cx} {pins : List (Addr × Obj)} {σ : St} {H H' : Hp} {s : Shared} {b : Addr} (I : Inv X pins σ H s) (hb : s.heap.objs.size ≤ b) (hn : H' b = none) : FpOk X pins H' b := by
  refine ⟨hn, Nat.ne_of_gt (Nat.lt_of_lt_of_le I.lt hb), I.nofs hb, .inr (Nat.le_trans I.sz hb), fun x c e z => ?_, fun p hp z => ?_⟩
  · obtain ⟨v, q⟩ := I.cell x c e
    exact absurd (Nat.lt_of_lt_of_le q.lt (by rw [z]; exact hb)) (Nat.lt_irrefl _)
  · exact absurd (Nat.lt_of_lt_of_le (Heap.lt_size (I.pin p hp).1) (by rw [z]; exact hb)) (Nat.lt_irrefl _)
structure Turn (P : Program) (w : World) (K : PySem.W.Frag) (tg : Expr) (J : It) (fp : List Addr) (it : Addr) (tn : Nat → Heap → Prop) : Prop where
  mem : it ∈ fp
  obj : ∀ i h, tn i h → ∀ b ∈ fp, ∃ o, h.get? b = some o ∧ ∀ v, o.data ≠ .cell v
  keep : ∀ i h h', tn i h → (∀ b ∈ fp, ∀ o, h.get? b = some o → h'.get? b = some o) → tn i h'
  item : ∀ (X : Cx), X.prog = P → X.w = w → X.K = K → X.calm = true → ∀ (i : Nat) (pins : List (Addr × Obj)) (s : Shared) (σ : St) (H : Hp) (E : Value → Shared → Prop), Inv X pins σ H s → (∀ b ∈ fp, FpOk X pins H b) → tn i s.heap → J.go i H →
    wpAny (model P w) X.A (pyNext (.ref it)) (fun r s1 => ∃ u, r = some u ∧
      wpAny (model P w) X.A (letOwnedTupleGo tg (.ref it) u) (fun _ s2 => ∃ x H', Inv X pins σ H' s2 ∧ RelV x u ∧ J.yld i H x H' ∧ tn (i + 1) s2.heap ∧ ∀ b ∈ fp, H' b = none) E s1) E s
  done : ∀ (X : Cx), X.prog = P → X.w = w → X.K = K → X.calm = true → ∀ (i : Nat) (pins : List (Addr × Obj)) (s : Shared) (σ : St) (H : Hp) (E : Value → Shared → Prop), Inv X pins σ H s → (∀ b ∈ fp, FpOk X pins H b) → tn i s.heap → J.stop i H →
    wpAny (model P w) X.A (pyNext (.ref it)) (fun r s1 => r = none ∧ Inv X pins σ H s1) E s
  self : ∀ (A : Around) (i : Nat) (s : Shared) (Q : Value → Shared → Prop) (E : Value → Shared → Prop), tn i s.heap → Q (.ref it) s → wpAny (model P w) A (pyIter (.ref it)) Q E s
abbrev TI := St → Hp → (It → Hp → Prop) → Prop
/-- an iterator has come -/
def PIE (X : Cx) (pins : List (Addr × Obj)) (σ : St) (tg : Expr) (R : It → Hp → Prop) (itv : Value) (s2 : Shared) : Prop :=
  ∃ (it : Addr) (fp : List Addr) (tn : Nat → Heap → Prop) (J : It) (H' : Hp), itv = .ref it ∧ Inv X pins σ H' s2 ∧ Turn X.prog X.w X.K tg J fp it tn ∧ tn 0 s2.heap ∧ (∀ b ∈ fp, FpOk X pins H' b) ∧ R J H'
def PI (X : Cx) (tg iter : Expr) (wi : TI) : Prop :=
  ∀ (pins : List (Addr × Obj)) (s : Shared) (σ : St) (H : Hp) (R : It → Hp → Prop), Inv X pins σ H s → wi σ H R →
    wpAny (model X.prog X.w) X.A (eval iter X.env) (fun v s1 => wpAny (model X.prog X.w) X.A (pyIter v) (PIE X pins σ tg R) X.xe s1) X.xe s

/-- the step ahead of the store is nothing for an iterator that keeps no tuple -/
theorem go_of {M : Model} {A : Around} {E : Value → Shared → Prop} {s : Shared} {tg : Expr} {it : Addr} {u : Value} {o : Obj} {n : String} {vs : Array Value} {Q : Unit → Shared → Prop} (ho : s.heap.get? it = some o) (hc : o.cls = .type n) (hd : o.data = .fields vs)
    (hn : ["enumerate", "zip", "dict_itemiterator", "dict_reverseitemiterator", "odict_iterator", "itertools.zip_longest", "itertools.pairwise"].contains n = false) (hQ : Q () s) : wpAny M A (letOwnedTupleGo tg (.ref it) u) Q E s := by
  unfold letOwnedTupleGo
  cases tg <;> first
    | exact wpAny_pure hQ
    | (cases u <;> first
        | exact wpAny_pure hQ
        | (refine wpAny_bind (wpAny_load ho ?_)
           rw [hc, hd]
           show wpAny M A (if (["enumerate", "zip", "dict_itemiterator", "dict_reverseitemiterator", "odict_iterator", "itertools.zip_longest", "itertools.pairwise"].contains n && vs[0]? == some (rawInt _)) = true then _ else _) Q E s
           rw [if_neg (by intro h; rw [hn, Bool.false_and] at h; cases h)]
           exact wpAny_pure hQ))

/-- the list at a, as it stands at each turn (a loop may append to it) -/
def Itl (K : PySem.W.Frag) (a : Addr) : It :=
  ⟨fun i H => ∃ xs x, SqL K H a xs ∧ xs[i]? = some x, fun i H x H' => H' = H ∧ ∀ xs, SqL K H a xs → xs[i]? = some x, fun i H => ∃ xs, SqL K H a xs ∧ xs.length ≤ i⟩
/-- lo, lo + 1, .. (n of them) -/
def Itr (lo : Int) (n : Nat) : It := ⟨fun i _ => i < n, fun i H x H' => H' = H ∧ x = .int (lo + i), fun i _ => n ≤ i⟩
theorem turn_list {P : Program} {w : World} {K : PySem.W.Frag} {tg : Expr} (a it : Addr) : Turn P w K tg (Itl K a) [it] it (fun i h => h.IsListIter it a i) where
  mem := by simp
  obj := fun i h st b hb => by
    have e : b = it := by simpa using hb
    subst e
    obtain ⟨o, e, c, d⟩ := st
    exact ⟨o, e, fun v z => by rw [d] at z; cases z⟩
  keep := fun i h h' st k => st.at fun o e => k it (by simp) o e
  item := by
    intro X hP hw hK hc i pins s σ H E I hf st hg
    subst hP hw hK
    obtain ⟨xs, x, hq, hx⟩ := hg
    obtain ⟨its, rv, p, hz⟩ := I.list hq
    obtain ⟨u, hu, ru⟩ := rv.get hx
    obtain ⟨f0, f1, f2, f3, f4, f5⟩ := hf it (by simp)
    refine wpAny_pyNext_list_item st p.isList (x := u) (by simpa using hu) fun h' st' sb => ?_
    have I1 : Inv X pins σ H { s with heap := h' } := I.turned (t' := s.toks) (fun b o hb e => (sb.2 b hb).trans e) f0 f1 f3 f4 f5
    obtain ⟨o, e, c, d⟩ := id st'
    exact ⟨u, rfl, go_of (s := { s with heap := h' }) e c d (by decide) ⟨x, H, I1, ru, ⟨rfl, fun ys hy => by rw [I.list_inj hy hq]; exact hx⟩, st', fun b hb => (hf b hb).1⟩⟩
  done := by
    intro X hP hw hK hc i pins s σ H E I hf st hg
    subst hP hw hK
    obtain ⟨xs, hq, hx⟩ := hg
    obtain ⟨its, rv, p, hz⟩ := I.list hq
    obtain ⟨f0, f1, f2, f3, f4, f5⟩ := hf it (by simp)
    have hl := rv.length
    exact wpAny_pyNext_list_end (I.ok.hd hc) st p.isList (by simp; omega) fun h' eb => ⟨rfl, I.turned (t' := s.toks) (fun b o hb e => eb b o hb e) f0 f1 f3 f4 f5⟩
  self := fun _ _ _ _ _ st h => wpAny_pyIter_listiter st h
theorem turn_range {P : Program} {w : World} {K : PySem.W.Frag} {tg : Expr} (it : Addr) (lo : Int) (n : Nat) : Turn P w K tg (Itr lo n) [it] it (fun i h => IsRangeIter h it (lo + (i : Nat) * 1) ((n : Int) - (i : Nat)) 1) where
  mem := by simp
  obj := fun i h st b hb => by
    have e : b = it := by simpa using hb
    subst e
    exact ⟨_, st, fun v z => by
      have z' : Data.fields _ = Data.cell v := z
      cases z'⟩
  keep := fun i h h' st k => k it (by simp) _ st
  item := by
    intro X hP hw hK hc i pins s σ H E I hf st hg
    subst hP hw hK
    obtain ⟨f0, f1, f2, f3, f4, f5⟩ := hf it (by simp)
    have W := Walks.range (prog := X.prog) (w := X.w) (I.ok.hd hc) it lo 1 n
    refine W.item i s _ _ hg st fun v h' tk hv st' kk => ?_
    obtain ⟨t, rfl⟩ := hv
    have I1 : Inv X pins σ H { s with heap := h', toks := tk } := I.turned (fun b o hb e => kk b o (by simpa using hb) e) f0 f1 f3 f4 f5
    refine ⟨_, rfl, go_of (s := { s with heap := h', toks := tk }) (n := "range_iterator") st' rfl rfl (by decide) ⟨.int (lo + i), H, I1, ⟨t, ?_⟩, ⟨rfl, rfl⟩, st', fun b hb => (hf b hb).1⟩⟩
    rw [Int.mul_one]
  done := by
    intro X hP hw hK hc i pins s σ H E I hf st hg
    subst hP hw hK
    obtain ⟨f0, f1, f2, f3, f4, f5⟩ := hf it (by simp)
    exact wpAny_pyNext_range_end (I.ok.hd hc) st (by have : n ≤ i := hg; omega) fun h' eb => ⟨rfl, I.turned (t' := s.toks) (fun b o hb e => eb b o hb e) f0 f1 f3 f4 f5⟩
  self := fun _ _ _ _ _ st h => wpAny_pyIter_rangeiter st h
end L2

namespace L2
open PySem PySem.Spec PyProof.Rows
section
variable {X : Cx} {tg : Expr}
inductive ItlR (K : PySem.W.Frag) (x : V) (H : Hp) (R : It → Hp → Prop) : Prop
  | mk (a : Addr) (h : x = .ref a) (h2 : ∃ xs, SqL K H a xs) (k : R (Itl K a) H) : ItlR K x H R
def iList (K : PySem.W.Frag) (tl : TE) : TI := fun σ H R => tl σ H fun x H1 => ItlR K x H1 R
theorem pi_list {l : Expr} {tl : TE} (hl : PE X l tl) : PI X tg l (iList X.K tl) := by
  intro pins s σ H R I h
  refine thn (hl pins s σ H _ I h) fun v s1 ⟨x, H1, I1, r1, q1⟩ => ?_
  obtain ⟨a, e, ⟨xs, hq⟩, q⟩ := q1
  subst e
  cases r1
  obtain ⟨its, rv, p, hz⟩ := I1.list hq
  refine wpAny_pyIter_list p.isList ?_
  refine ⟨s1.heap.objs.size, [s1.heap.objs.size], _, _, H1, rfl, I1.kept (t' := s1.toks) fun b o e => Heap.get?_push_of_some _ e, turn_list a _, ⟨_, Heap.get?_push_size _ rfl, rfl, rfl⟩, fun b hb => ?_, q⟩
  have e : b = s1.heap.objs.size := by simpa using hb
  subst e
  exact I1.fpOk (Nat.le_refl _) (I1.hok.fresh (Nat.le_refl _))
/-- a range object just made, walked -/
theorem range_it {pins : List (Addr × Obj)} {σ : St} {H : Hp} {s : Shared} {R : It → Hp → Prop} {E : Value → Shared → Prop} {lo hi : Int} {t u v : Tok} {tk : Nat} (I : Inv X pins σ H s) (h1 : -(2 ^ 62) ≤ lo) (h2 : lo < 2 ^ 62) (h3 : -(2 ^ 62) ≤ hi) (h4 : hi < 2 ^ 62)
    (q : R (Itr lo (hi - lo).toNat) H) : wpAny (model X.prog X.w) X.A (pyIter (.ref s.heap.objs.size)) (PIE X pins σ tg R) E { s with heap := s.heap.push { cls := .type "range", data := .fields #[.int lo t, .int hi u, .int 1 v] }, toks := tk } := by
  refine wpAny_pyIter_range (IsRange.new ..) (small_one h1 h2 h3 h4) ?_
  have I1 : Inv X pins σ H { s with heap := s.heap.push { cls := .type "range", data := .fields #[.int lo t, .int hi u, .int 1 v] }, toks := tk } := I.kept fun b o e => Heap.get?_push_of_some _ e
  refine ⟨(s.heap.push { cls := .type "range", data := .fields #[.int lo t, .int hi u, .int 1 v] }).objs.size, [(s.heap.push { cls := .type "range", data := .fields #[.int lo t, .int hi u, .int 1 v] }).objs.size], _, _, H, rfl,
    I1.kept (t' := tk) fun b o e => Heap.get?_push_of_some _ e, turn_range _ lo (hi - lo).toNat, ?_, fun b hb => ?_, q⟩
  · have e1 : lo + ((0 : Nat) : Int) * 1 = lo := by simp
    have e2 : (((hi - lo).toNat : Nat) : Int) - ((0 : Nat) : Int) = Builtin.Range.rangeSize lo hi 1 := by rw [rangeSize_one]; split <;> omega
    show IsRangeIter _ _ (lo + ((0 : Nat) : Int) * 1) ((((hi - lo).toNat : Nat) : Int) - ((0 : Nat) : Int)) 1
    rw [e1, e2]
    exact Heap.get?_push_size _ rfl
  · have e : b = (s.heap.push { cls := .type "range", data := .fields #[.int lo t, .int hi u, .int 1 v] }).objs.size := by simpa using hb
    subst e
    exact I1.fpOk (Nat.le_refl _) (I1.hok.fresh (Nat.le_refl _))
def iRng1 (ta : TA) : TI := fun σ H R => ta σ H fun vs H1 => ∃ j : Int, vs = [.int j] ∧ -(2 ^ 62) ≤ j ∧ j < 2 ^ 62 ∧ R (Itr 0 j.toNat) H1
theorem pi_range1 {a : Expr} {ta : TA} {p pos : Pos} (hg : Gl X "range") (hm : X.mg "range" = none) (ha : PA X [a] ta) (hs : starEach [a] X.env = [(false, eval a X.env)] := by rfl) : PI X tg (.Call (.Name "range" p) [a] [] pos) (iRng1 ta) := by
  intro pins s σ H R I h
  refine Call_ (ld_blt I hg hm boot_range (PyProof.Rows.callWith_type1 (thn (ha pos pins s σ H _ I h) fun us s1 ⟨vs, H1, I1, r1, q1⟩ => ?_) hs rfl))
  obtain ⟨j, e, q1, q2, q⟩ := q1
  subst e
  cases r1 with
  | cons r rr =>
    cases rr
    obtain ⟨t, rfl⟩ := r
    exact call_range_1 (range_it I1 (by omega) (by omega) q1 q2 (by simpa using q))
/-! ### for -/
/-- W: the invariant by the turn and a measure; N: what the body is to reach -/
def tFor (wi : TI) (g : TG) (tb : TS) : TS := fun D σ H => wi σ H fun J H1 => ∃ W : Nat → Nat → St → Hp → Prop, (∃ m, W 0 m σ H1) ∧ ∀ i m σ H, W i m σ H →
  (J.stop i H ∧ D.nx σ H) ∨ (J.go i H ∧ ∃ N : St → Hp → Prop, (∀ σ' H', N σ' H' → ∃ m', m' < m ∧ W (i + 1) m' σ' H') ∧ ∀ x H', J.yld i H x H' → g x σ H' fun σ2 H2 => tb { D with nx := N, ct := N, bk := D.nx } σ2 H2)
/-- the records at fp as they stand -/
def pinsAt (fp : List Addr) (h : Heap) : List (Addr × Obj) := fp.filterMap fun b => (h.get? b).map fun o => (b, o)
theorem mem_pinsAt {fp : List Addr} {h : Heap} {b : Addr} {o : Obj} (hb : b ∈ fp) (e : h.get? b = some o) : (b, o) ∈ pinsAt fp h := List.mem_filterMap.mpr ⟨b, hb, by rw [e]; rfl⟩
theorem of_pinsAt {fp : List Addr} {h : Heap} {p : Addr × Obj} (hp : p ∈ pinsAt fp h) : p.1 ∈ fp ∧ h.get? p.1 = some p.2 := by
  obtain ⟨b, hb, e⟩ := List.mem_filterMap.mp hp
  cases q : h.get? b with
  | none => rw [q] at e; cases e
  | some o =>
    rw [q] at e
    have e' : (b, o) = p := Option.some.inj e
    subst e'
    exact ⟨hb, q⟩
theorem Inv.pinned {pins : List (Addr × Obj)} {σ : St} {H : Hp} {s : Shared} {fp : List Addr} (I : Inv X pins σ H s) (hf : ∀ b ∈ fp, FpOk X pins H b) (ho : ∀ b ∈ fp, ∃ o, s.heap.get? b = some o ∧ ∀ v, o.data ≠ .cell v) : Inv X (pins ++ pinsAt fp s.heap) σ H s :=
  I.pins_of fun p hp => (List.mem_append.mp hp).elim (fun z => I.pin p (List.mem_append_right _ z)) fun z => by
    obtain ⟨hb, e⟩ := of_pinsAt z
    obtain ⟨f0, f1, f2, _⟩ := hf p.1 hb
    obtain ⟨o, e', d⟩ := ho p.1 hb
    rw [e] at e'; cases e'
    exact ⟨e, f0, f1, f2, d⟩
theorem Inv.unpinned {pins pl : List (Addr × Obj)} {σ : St} {H : Hp} {s : Shared} (I : Inv X (pins ++ pl) σ H s) : Inv X pins σ H s := I.pins_of fun p hp => I.pin p (List.mem_append_right _ (List.mem_append_left _ hp))
theorem ps_for {iter : Expr} {body : List Stmt} {wi : TI} {g : TG} {tb : TS} {pos : Pos} (hp : PassesOwn (model X.prog X.w) X.A X.env X.xe) (hc : X.calm = true) (hi : PI X tg iter wi) (hg : PG X tg g) (hb : PSs X body tb)
    (hs : ∀ x, foldedSetIterable iter X.env x = pure x := by intro _; rfl) : PS X (.For tg iter body [] pos) (tFor wi g tb) := by
  intro pins s σ H D I h
  refine wpAny_For (thn (hi pins s σ H _ I h) fun v s1 h1 => thn h1 fun itv s2 h2 => ?_) hs
  obtain ⟨it, fp, tn, J, H2, e, I2, T, st2, f2, W, ⟨m0, w0⟩, turn⟩ := h2
  subst e
  -- what stays true of the iterator's objects through the loop
  have stat : ∀ {H' : Hp}, (∀ b ∈ fp, H' b = none) → ∀ b ∈ fp, FpOk X pins H' b := fun hn b hb => ⟨hn b hb, (f2 b hb).2⟩
  refine codeAny_forLoop_any (fun n s' => ∃ i σ' H', Inv X pins σ' H' s' ∧ tn i s'.heap ∧ (∀ b ∈ fp, H' b = none) ∧ W i n σ' H') ?_ m0 ⟨0, σ, H2, I2, st2, fun b hb => (f2 b hb).1, w0⟩
  rintro n s3 ⟨i, σ3, H3, I3, st3, fr3, w3⟩
  rcases turn i n σ3 H3 w3 with ⟨stop, qn⟩ | ⟨go, N, hN, step⟩
  · refine wpAny_passesOwn hp (thn (T.done X rfl rfl rfl hc i pins s3 σ3 H3 X.xe I3 (stat fr3) st3 stop) fun r s4 ⟨hr, I4⟩ => ?_)
    subst hr
    exact wpAny_execs_nil ⟨σ3, H3, I4, qn⟩
  · refine wpAny_passesOwn hp (thn (T.item X rfl rfl rfl hc i pins s3 σ3 H3 X.xe I3 (stat fr3) st3 go) fun r s4 ⟨u, hr, h4⟩ => ?_)
    subst hr
    refine wpAny_passesOwn hp (thn h4 fun _ s5 ⟨x, H5, I5, r5, y5, st5, fr5⟩ => ?_)
    have I5' := I5.pinned (stat fr5) (T.obj _ _ st5)
    refine wpAny_passesOwn hp (thn (hg _ s5 σ3 H5 x u _ I5' r5 (step x H5 y5)) fun _ s6 ⟨σ6, H6, I6, q6⟩ => ?_)
    refine wpAny_passesOwn hp (thn (hb _ s6 σ6 H6 _ I6 q6) fun f s7 q7 => ?_)
    have again : ∀ {σ7 : St} {H7 : Hp}, Inv X (pins ++ pinsAt fp s5.heap) σ7 H7 s7 → N σ7 H7 → ∃ m, m < n ∧ ∃ i σ' H', Inv X pins σ' H' s7 ∧ tn i s7.heap ∧ (∀ b ∈ fp, H' b = none) ∧ W i m σ' H' := fun {σ7 H7} I7 n7 => by
      obtain ⟨m', hm, w7⟩ := hN σ7 H7 n7
      refine ⟨m', hm, i + 1, σ7, H7, I7.unpinned, T.keep _ _ _ st5 fun b hb o e => (I7.pin (b, o) (List.mem_append_right _ (List.mem_append_right _ (mem_pinsAt hb e)))).1, fun b hb => ?_, w7⟩
      obtain ⟨o, e, d⟩ := T.obj _ _ st5 b hb
      exact (I7.pin (b, o) (List.mem_append_right _ (List.mem_append_right _ (mem_pinsAt hb e)))).2.1
    cases f with
    | next => obtain ⟨σ7, H7, I7, n7⟩ := q7; exact again I7 n7
    | cont => obtain ⟨σ7, H7, I7, n7⟩ := q7; exact again I7 n7
    | brk => obtain ⟨σ7, H7, I7, q7⟩ := q7; exact ⟨σ7, H7, I7.unpinned, q7⟩
    | ret v => obtain ⟨x7, σ7, H7, I7, r7, q7⟩ := q7; exact ⟨x7, σ7, H7, I7.unpinned, r7, q7⟩
end

/-! ### the forms one uses -/
/-- over a list that the body leaves as it is -/
theorem for_list {K : PySem.W.Frag} {a : Addr} {xs : List V} {g : TG} {tb : TS} {D : Ends} {σ : St} {H : Hp} (Pv : Nat → St → Hp → Prop) (h0 : Pv 0 σ H) (hl : ∀ i σ H, i ≤ xs.length → Pv i σ H → SqL K H a xs)
    (hs : ∀ i x σ H, xs[i]? = some x → Pv i σ H → g x σ H fun σ2 H2 => tb { D with nx := Pv (i + 1), ct := Pv (i + 1), bk := D.nx } σ2 H2) (hd : ∀ σ H, Pv xs.length σ H → D.nx σ H) :
    ∃ W : Nat → Nat → St → Hp → Prop, (∃ m, W 0 m σ H) ∧ ∀ i m σ H, W i m σ H →
      ((Itl K a).stop i H ∧ D.nx σ H) ∨ ((Itl K a).go i H ∧ ∃ N : St → Hp → Prop, (∀ σ' H', N σ' H' → ∃ m', m' < m ∧ W (i + 1) m' σ' H') ∧ ∀ x H', (Itl K a).yld i H x H' → g x σ H' fun σ2 H2 => tb { D with nx := N, ct := N, bk := D.nx } σ2 H2) := by
  refine ⟨fun i m σ H => m = xs.length - i ∧ i ≤ xs.length ∧ Pv i σ H, ⟨xs.length, by simp, Nat.zero_le _, h0⟩, ?_⟩
  rintro i m σ H ⟨rfl, hi, p⟩
  have q := hl i σ H hi p
  by_cases hlt : i < xs.length
  · refine .inr ⟨⟨xs, xs[i], q, by simp [hlt]⟩, Pv (i + 1), fun σ' H' p' => ⟨xs.length - (i + 1), by omega, rfl, hlt, p'⟩, fun x H' y => ?_⟩
    obtain ⟨e, y⟩ := y
    subst e
    exact hs i x σ _ (y xs q) p
  · have e : i = xs.length := by omega
    subst e
    exact .inl ⟨⟨xs, q, Nat.le_refl _⟩, hd σ H p⟩
end L2

namespace L2
open PySem PySem.Spec PyProof.Rows

abbrev R2 := V → V → Hp → VK → Prop
/-- a two-place operation on values: f is binaryOp op, inplaceOp op or compareOp op -/
def OpR (X : Cx) (f : Value → Value → Sem Value) (r : R2) : Prop :=
  ∀ (pins : List (Addr × Obj)) (s : Shared) (σ : St) (H : Hp) (x y : V) (v u : Value) (Q : VK), Inv X pins σ H s → RelV x v → RelV y u → r x y H Q →
    wpAny (model X.prog X.w) X.A (f v u) (EP X pins σ Q) X.xe s
/-- a one-place operation -/
def UnR (X : Cx) (f : Value → Sem Value) (r : V → Hp → VK → Prop) : Prop :=
  ∀ (pins : List (Addr × Obj)) (s : Shared) (σ : St) (H : Hp) (x : V) (v : Value) (Q : VK), Inv X pins σ H s → RelV x v → r x H Q →
    wpAny (model X.prog X.w) X.A (f v) (EP X pins σ Q) X.xe s
/-- a call of a value that is known (a builtin, a type) with values -/
def CallR (X : Cx) (f : Value) (r : List V → Hp → VK → Prop) : Prop :=
  ∀ (pins : List (Addr × Obj)) (s : Shared) (σ : St) (H : Hp) (xs : List V) (us : List Value) (Q : VK), Inv X pins σ H s → Vals xs us → r xs H Q →
    wpAny (model X.prog X.w) X.A (call f us) (EP X pins σ Q) X.xe s
/-- a value's truth -/
def TruR (X : Cx) (r : V → Hp → (Bool → Hp → Prop) → Prop) : Prop :=
  ∀ (pins : List (Addr × Obj)) (s : Shared) (σ : St) (H : Hp) (x : V) (v : Value) (Q : Bool → Hp → Prop), Inv X pins σ H s → RelV x v → r x H Q →
    wpAny (model X.prog X.w) X.A (truthy v) (TP X pins σ Q) X.xe s

def tOp (r : R2) (ta tb : TE) : TE := fun σ H Q => ta σ H fun x H1 => tb σ H1 fun y H2 => r x y H2 Q
def tUn (r : V → Hp → VK → Prop) (ta : TE) : TE := fun σ H Q => ta σ H fun x H1 => r x H1 Q
/-- ints in, under C, and a value out -/
inductive rI_R (C : Int → Int → Prop) (g : Int → Int → V) (x : V) (y : V) (H : Hp) (Q : VK) : Prop
  | mk (i : _) (j : _) (h0 : x = .int i) (h1 : y = .int j) (h2 : C i j) (h3 : Q (g i j) H) : rI_R C g x y H Q
def rI (C : Int → Int → Prop) (g : Int → Int → V) : R2 := fun x y H Q => rI_R C g x y H Q
inductive rI0_R (g : Int → Int → V) (x : V) (y : V) (H : Hp) (Q : VK) : Prop
  | mk (i : _) (j : _) (h0 : x = .int i) (h1 : y = .int j) (h2 : Q (g i j) H) : rI0_R g x y H Q
def rI0 (g : Int → Int → V) : R2 := fun x y H Q => rI0_R g x y H Q
inductive rU_R (g : Int → V) (x : V) (H : Hp) (Q : VK) : Prop
  | mk (i : _) (h0 : x = .int i) (h1 : Q (g i) H) : rU_R g x H Q
def rU (g : Int → V) : V → Hp → VK → Prop := fun x H Q => rU_R g x H Q
section
variable {X : Cx} {a b c : Expr} {ta tb tc : TE} {pos : Pos}

theorem binT (ha : PE X a ta) (hb : PE X b tb) {pins : List (Addr × Obj)} {s : Shared} {σ : St} {H : Hp} {R : V → V → Hp → Prop} (I : Inv X pins σ H s)
    (h : ta σ H fun x H1 => tb σ H1 fun y H2 => R x y H2) {Q : Value → Shared → Prop} {f : Value → Value → Sem Value}
    (hf : ∀ v u s2 x y H2, Inv X pins σ H2 s2 → RelV x v → RelV y u → R x y H2 → wpAny (model X.prog X.w) X.A (f v u) Q X.xe s2) :
    wpAny (model X.prog X.w) X.A (eval a X.env) (fun v s₁ => wpAny (model X.prog X.w) X.A (eval b X.env) (fun u s₂ => wpAny (model X.prog X.w) X.A (f v u) Q X.xe s₂) X.xe s₁) X.xe s := by
  refine thn (ha pins s σ H _ I h) fun v s1 ⟨x, H1, I1, r1, q1⟩ => ?_
  refine thn (hb pins s1 σ H1 _ I1 q1) fun u s2 ⟨y, H2, I2, r2, q2⟩ => ?_
  exact hf v u s2 x y H2 I2 r1 r2 q2

theorem pe_op {op : Operator} {r : R2} (ho : OpR X (binaryOp op) r) (ha : PE X a ta) (hb : PE X b tb) : PE X (.BinOp a op b pos) (tOp r ta tb) := by
  intro pins s σ H Q I h
  exact wpAny_BinOp (binT ha hb I h fun v u s2 x y H2 I2 rx ry q => ho pins s2 σ H2 x y v u Q I2 rx ry q)
theorem pe_un {op : UnaryOp} {r : V → Hp → VK → Prop} (ho : UnR X (unaryOp op) r) (ha : PE X a ta) : PE X (.UnaryOp op a pos) (tUn r ta) := by
  intro pins s σ H Q I h
  exact UnaryOp_ (thn (ha pins s σ H _ I h) fun v s1 ⟨x, H1, I1, r1, q1⟩ => ho pins s1 σ H1 x v Q I1 r1 q1)
/-! ### ints -/
theorem opI {f : Value → Value → Sem Value} {C : Int → Int → Prop} {g : Int → Int → Int}
    (rule : ∀ (i j : Int) (t u : Tok) (s : Shared) (Q : Value → Shared → Prop) (E : Value → Shared → Prop), C i j → Q (.int (g i j) s.toks) { s with toks := s.toks + 1 } → wpAny (model X.prog X.w) X.A (f (.int i t) (.int j u)) Q E s) :
    OpR X f (rI C fun i j => .int (g i j)) := by
  intro pins s σ H x y v u Q I rx ry h
  obtain ⟨i, j, rfl, rfl, hc, q⟩ := h
  obtain ⟨t, rfl⟩ := rx
  obtain ⟨t', rfl⟩ := ry
  exact rule i j t t' s _ _ hc ⟨.int (g i j), H, I.tok _, ⟨_, rfl⟩, q⟩
theorem opI0 {f : Value → Value → Sem Value} {g : Int → Int → Int}
    (rule : ∀ (i j : Int) (t u : Tok) (s : Shared) (Q : Value → Shared → Prop) (E : Value → Shared → Prop), Q (.int (g i j) s.toks) { s with toks := s.toks + 1 } → wpAny (model X.prog X.w) X.A (f (.int i t) (.int j u)) Q E s) :
    OpR X f (rI0 fun i j => .int (g i j)) := by
  intro pins s σ H x y v u Q I rx ry h
  obtain ⟨i, j, rfl, rfl, q⟩ := h
  obtain ⟨t, rfl⟩ := rx
  obtain ⟨t', rfl⟩ := ry
  exact rule i j t t' s _ _ ⟨.int (g i j), H, I.tok _, ⟨_, rfl⟩, q⟩
theorem opB0 {f : Value → Value → Sem Value} {g : Int → Int → Bool}
    (rule : ∀ (i j : Int) (t u : Tok) (s : Shared) (Q : Value → Shared → Prop) (E : Value → Shared → Prop), Q (.bool (g i j)) s → wpAny (model X.prog X.w) X.A (f (.int i t) (.int j u)) Q E s) :
    OpR X f (rI0 fun i j => .bl (g i j)) := by
  intro pins s σ H x y v u Q I rx ry h
  obtain ⟨i, j, rfl, rfl, q⟩ := h
  obtain ⟨t, rfl⟩ := rx
  obtain ⟨t', rfl⟩ := ry
  exact rule i j t t' s _ _ ⟨.bl (g i j), H, I, rfl, q⟩

def CDiv (i j : Int) : Prop := 0 < j ∧ j < 1073741824
def CPow (i j : Int) : Prop := 0 ≤ j ∧ j ≤ 1000000 ∧ i.natAbs < 2 ^ 64
def CMul (i j : Int) : Prop := (-(2 ^ 64) < i ∧ i < 2 ^ 64) ∨ (-(2 ^ 64) < j ∧ j < 2 ^ 64)
theorem CMul.ok {i j : Int} (h : CMul i j) : IntMulOk i j := by
  rcases h with ⟨h1, h2⟩ | ⟨h1, h2⟩
  · exact .of_left (intBits_le_64 h1 h2)
  · exact .of_right (intBits_le_64 h1 h2)
theorem op_add : OpR X (binaryOp .Add) (rI0 fun i j => .int (i + j)) := opI0 fun _ _ _ _ _ _ _ q => add_int q
theorem op_sub : OpR X (binaryOp .Sub) (rI0 fun i j => .int (i - j)) := opI0 fun _ _ _ _ _ _ _ q => sub_int q
theorem op_mul : OpR X (binaryOp .Mult) (rI CMul fun i j => .int (i * j)) := opI fun _ _ _ _ _ _ _ hc q => mul_int q hc.ok
/-- // by a positive divisor -/
theorem op_fdiv : OpR X (binaryOp .FloorDiv) (rI CDiv fun i j => .int (i / j)) := opI fun i j _ _ _ _ _ hc q => by
  have h1 : (0 : Int) < j := hc.1
  have h2 : j < 1073741824 := hc.2
  exact floordiv_int (by omega) (by rw [Int.fdiv_eq_ediv_of_nonneg i (by omega)]; exact q) (.inl (PyProof.noPylong_small (by omega)))
/-- % by a positive divisor of any size -/
theorem op_mod : OpR X (binaryOp .Mod) (rI (fun _ j => 0 < j) fun i j => .int (i % j)) := opI fun i j _ _ _ _ _ hc q => by
  have h1 : (0 : Int) < j := hc
  exact mod_int' (by omega) (by rw [Int.fmod_eq_emod_of_nonneg i (by omega)]; exact q)
theorem op_pow : OpR X (binaryOp .Pow) (rI CPow fun i j => .int (i ^ j.toNat)) := opI fun _ _ _ _ _ _ _ hc q => pow_int_small hc.1 hc.2.1 hc.2.2 q
theorem unI {f : Value → Sem Value} {g : Int → Int}
    (rule : ∀ (i : Int) (t : Tok) (s : Shared) (Q : Value → Shared → Prop) (E : Value → Shared → Prop), Q (.int (g i) s.toks) { s with toks := s.toks + 1 } → wpAny (model X.prog X.w) X.A (f (.int i t)) Q E s) :
    UnR X f (rU fun i => .int (g i)) := by
  intro pins s σ H x v Q I rx h
  obtain ⟨i, rfl, q⟩ := h
  obtain ⟨t, rfl⟩ := rx
  exact rule i t s _ _ ⟨.int (g i), H, I.tok _, ⟨_, rfl⟩, q⟩
theorem un_neg : UnR X (unaryOp .USub) (rU fun i => .int (-i)) := unI fun _ _ _ _ _ q => neg_int q
/-! ### bools among ints: n += (a < b) -/
end

/-! ### comparisons -/
/-- the scalars that == tells apart as data does -/
def scal : V → V → Bool
  | .non, .non => true | .non, .int _ => true | .int _, .non => true | .non, .bl _ => true | .bl _, .non => true | .non, .str _ => true | .str _, .non => true
  | .int _, .int _ => true | .bl _, .bl _ => true | .str _, .str _ => true | .byt _, .byt _ => true
  | .int _, .str _ => true | .str _, .int _ => true | .bl _, .str _ => true | .str _, .bl _ => true
  | _, _ => false
inductive rEq_R (x y : V) (H : Hp) (Q : VK) : Prop
  | mk (h : scal x y = true) (k : Q (.bl (decide (x = y))) H) : rEq_R x y H Q
inductive rNe_R (x y : V) (H : Hp) (Q : VK) : Prop
  | mk (h : scal x y = true) (k : Q (.bl (!decide (x = y))) H) : rNe_R x y H Q
def rEq : R2 := fun x y H Q => rEq_R x y H Q
def rNe : R2 := fun x y H Q => rNe_R x y H Q

theorem dec_int {i j : Int} : decide (V.int i = V.int j) = (i == j) := by
  rw [Bool.eq_iff_iff]
  simp
theorem dec_bl {i j : Bool} : decide (V.bl i = V.bl j) = (i == j) := by
  rw [Bool.eq_iff_iff]
  simp
theorem dec_str {i j : Str} : decide (V.str i = V.str j) = (i == j) := by
  rw [Bool.eq_iff_iff]
  simp
theorem dec_byt {i j : Array UInt8} : decide (V.byt i = V.byt j) = (i.toList == j.toList) := by
  rw [Bool.eq_iff_iff]
  cases i
  cases j
  simp

section
variable {X : Cx} {a b c : Expr} {ta tb tc : TE} {pos : Pos}
theorem fin_bl {pins : List (Addr × Obj)} {σ : St} {H : Hp} {s : Shared} {Q : VK} {k k' : Bool} (I : Inv X pins σ H s) (q : Q (.bl k) H) (e : k = k') : EP X pins σ Q (.bool k') s := by
  subst e
  exact ⟨.bl k, H, I, rfl, q⟩
theorem op_eq : OpR X (compareOp .Eq) rEq := by
  intro pins s σ H x y v u Q I rx ry h
  obtain ⟨hs, q⟩ := h
  cases x with
  | non =>
    cases rx
    cases y with
    | non => cases ry; exact PySem.EqNone.eq_none_none (fin_bl I q (by simp))
    | bl j => cases ry; exact PySem.EqNone.eq_none_bool (fin_bl I q (by simp))
    | int j => obtain ⟨t', rfl⟩ := ry; exact PySem.EqNone.eq_none_int (fin_bl I q (by simp))
    | str j => obtain ⟨t', rfl⟩ := ry; exact PySem.EqNone.eq_none_str (fin_bl I q (by simp))
    | _ => exact absurd (show false = true from hs) Bool.false_ne_true
  | bl i =>
    cases rx
    cases y with
    | non => cases ry; exact PySem.EqNone.eq_bool_none (fin_bl I q (by simp))
    | bl j => cases ry; exact eq_bool (fin_bl I q dec_bl)
    | str j => obtain ⟨t', rfl⟩ := ry; exact PySem.EqMixed.eq_bool_str (fin_bl I q (by simp))
    | _ => exact absurd (show false = true from hs) Bool.false_ne_true
  | int i =>
    obtain ⟨t, rfl⟩ := rx
    cases y with
    | non => cases ry; exact PySem.EqNone.eq_int_none (fin_bl I q (by simp))
    | int j => obtain ⟨t', rfl⟩ := ry; exact eq_int (fin_bl I q dec_int)
    | str j => obtain ⟨t', rfl⟩ := ry; exact PySem.EqMixed.eq_int_str (fin_bl I q (by simp))
    | _ => exact absurd (show false = true from hs) Bool.false_ne_true
  | str i =>
    obtain ⟨t, rfl⟩ := rx
    cases y with
    | non => cases ry; exact PySem.EqNone.eq_str_none (fin_bl I q (by simp))
    | bl j => cases ry; exact PySem.EqMixed.eq_str_bool (fin_bl I q (by simp))
    | int j => obtain ⟨t', rfl⟩ := ry; exact PySem.EqMixed.eq_str_int (fin_bl I q (by simp))
    | str j => obtain ⟨t', rfl⟩ := ry; exact eq_str (fin_bl I q dec_str)
    | _ => exact absurd (show false = true from hs) Bool.false_ne_true
  | byt i =>
    obtain ⟨t, rfl⟩ := rx
    cases y with
    | byt j => obtain ⟨t', rfl⟩ := ry; exact PySem.W.eq_bytes (fin_bl I q dec_byt)
    | _ => exact absurd (show false = true from hs) Bool.false_ne_true
  | _ => cases y <;> exact absurd (show false = true from hs) Bool.false_ne_true
theorem op_ne : OpR X (compareOp .NotEq) rNe := by
  intro pins s σ H x y v u Q I rx ry h
  obtain ⟨hs, q⟩ := h
  cases x with
  | non =>
    cases rx
    cases y with
    | non => cases ry; exact PySem.EqNone.ne_none_none (fin_bl I q (by simp))
    | bl j => cases ry; exact PySem.EqNone.ne_none_bool (fin_bl I q (by simp))
    | int j => obtain ⟨t', rfl⟩ := ry; exact PySem.EqNone.ne_none_int (fin_bl I q (by simp))
    | str j => obtain ⟨t', rfl⟩ := ry; exact PySem.EqNone.ne_none_str (fin_bl I q (by simp))
    | _ => exact absurd (show false = true from hs) Bool.false_ne_true
  | bl i =>
    cases rx
    cases y with
    | non => cases ry; exact PySem.EqNone.ne_bool_none (fin_bl I q (by simp))
    | bl j => cases ry; exact ne_bool (fin_bl I q (congrArg not dec_bl))
    | str j => obtain ⟨t', rfl⟩ := ry; exact PySem.EqMixed.ne_bool_str (fin_bl I q (by simp))
    | _ => exact absurd (show false = true from hs) Bool.false_ne_true
  | int i =>
    obtain ⟨t, rfl⟩ := rx
    cases y with
    | non => cases ry; exact PySem.EqNone.ne_int_none (fin_bl I q (by simp))
    | int j => obtain ⟨t', rfl⟩ := ry; exact ne_int (fin_bl I q (congrArg not dec_int))
    | str j => obtain ⟨t', rfl⟩ := ry; exact PySem.EqMixed.ne_int_str (fin_bl I q (by simp))
    | _ => exact absurd (show false = true from hs) Bool.false_ne_true
  | str i =>
    obtain ⟨t, rfl⟩ := rx
    cases y with
    | non => cases ry; exact PySem.EqNone.ne_str_none (fin_bl I q (by simp))
    | bl j => cases ry; exact PySem.EqMixed.ne_str_bool (fin_bl I q (by simp))
    | int j => obtain ⟨t', rfl⟩ := ry; exact PySem.EqMixed.ne_str_int (fin_bl I q (by simp))
    | str j => obtain ⟨t', rfl⟩ := ry; exact ne_str (fin_bl I q (congrArg not dec_str))
    | _ => exact absurd (show false = true from hs) Bool.false_ne_true
  | byt i =>
    obtain ⟨t, rfl⟩ := rx
    cases y with
    | byt j => obtain ⟨t', rfl⟩ := ry; exact PySem.W.ne_bytes (fin_bl I q (congrArg not dec_byt))
    | _ => exact absurd (show false = true from hs) Bool.false_ne_true
  | _ => cases y <;> exact absurd (show false = true from hs) Bool.false_ne_true

theorem op_lt : OpR X (compareOp .Lt) (rI0 fun i j => .bl (decide (i < j))) := opB0 fun _ _ _ _ _ _ _ q => lt_int q
theorem op_le : OpR X (compareOp .LtE) (rI0 fun i j => .bl (decide (i ≤ j))) := opB0 fun _ _ _ _ _ _ _ q => le_int q
theorem op_gt : OpR X (compareOp .Gt) (rI0 fun i j => .bl (decide (j < i))) := opB0 fun _ _ _ _ _ _ _ q => gt_int q
/-- the one string within the other -/
theorem op_in_str : OpR X (compareOp .In) (fun x y H Q => ∃ i j, x = .str i ∧ y = .str j ∧ Q (.bl (!(Builtin.Str.occurrences j i 0 j.length 1).isEmpty)) H) := by
  intro pins s σ H x y v u Q I rx ry h
  obtain ⟨i, j, rfl, rfl, q⟩ := h
  obtain ⟨t, rfl⟩ := rx
  obtain ⟨t', rfl⟩ := ry
  exact in_str (fin_bl I q rfl)

theorem nomark (b : Expr) {op : CmpOp} (h : op ≠ .In := by decide) (h2 : op ≠ .NotIn := by decide) : behindInMarks op b = false := by
  have e1 : (op == CmpOp.In) = false := by cases op <;> first | rfl | exact absurd rfl h
  have e2 : (op == CmpOp.NotIn) = false := by cases op <;> first | rfl | exact absurd rfl h2
  cases b <;> simp [behindInMarks, e1, e2]
/-- a comparison as a value; hm: nomark b, or (for in, not in) by with_unfolding_all rfl -/
theorem pe_cmpR {op : CmpOp} {r : R2} (ho : OpR X (compareOp op) r) (ha : PE X a ta) (hb : PE X b tb) (hm : behindInMarks op b = false) : PE X (.Compare a [op] [b] pos) (tOp r ta tb) := by
  intro pins s σ H Q I h
  exact wpAny_Compare1 (binT ha hb I h fun v u s2 x y H2 I2 rx ry q => ho pins s2 σ H2 x y v u Q I2 rx ry q) hm
/-- a reading of a value as a test -/
def tTest (t : TE) : TT := fun σ H Q => t σ H fun x H' => BoolR x H' Q
theorem pt_cmpR {op : CmpOp} {r : R2} (ho : OpR X (compareOp op) r) (ha : PE X a ta) (hb : PE X b tb) (hm : behindInMarks op b = false) : PT X (.Compare a [op] [b] pos) (tTest (tOp r ta tb)) := by
  intro pins s σ H Q I h
  refine wpAny_isTrue_Compare1 (thn (ha pins s σ H _ I h) fun v s1 ⟨x, H1, I1, r1, q1⟩ => thn (hb pins s1 σ H1 _ I1 q1) fun u s2 ⟨y, H2, I2, r2, q2⟩ =>
    thn (ho pins s2 σ H2 x y v u _ I2 r1 r2 q2) fun c s3 ⟨z, H3, I3, r3, k, e, q3⟩ => ?_) hm
  subst e
  cases r3
  exact wpAny_truthy_bool ⟨H3, I3, q3⟩
/-- a op1 b op2 c -/
def tChain (r r' : R2) (ta tb tc : TE) : TE := fun σ H Q => ta σ H fun x H1 => tb σ H1 fun y H2 => r x y H2 fun z H3 => ∃ k, z = .bl k ∧
  (if k = true then tc σ H3 fun w' H4 => r' y w' H4 Q else Q (.bl false) H3)
theorem pe_chain {op op' : CmpOp} {r r' : R2} (ho : OpR X (compareOp op) r) (ho' : OpR X (compareOp op') r') (ha : PE X a ta) (hb : PE X b tb) (hc : PE X c tc)
    (hm : lastMarks [op, op'] [b, c] = false := by with_unfolding_all rfl) : PE X (.Compare a [op, op'] [b, c] pos) (tChain r r' ta tb tc) := by
  intro pins s σ H Q I h
  refine Compare_chain (thn (ha pins s σ H _ I h) fun v s1 ⟨x, H1, I1, r1, q1⟩ => chain_link (thn (hb pins s1 σ H1 _ I1 q1) fun u s2 ⟨y, H2, I2, r2, q2⟩ =>
    thn (ho pins s2 σ H2 x y v u _ I2 r1 r2 q2) fun d s3 ⟨z, H3, I3, r3, k, e, q3⟩ => ?_)) hm
  subst e
  cases r3
  refine wpAny_truthy_bool ?_
  cases k with
  | false => exact ite_ff ⟨.bl false, H3, I3, rfl, q3⟩
  | true => exact ite_tt (chain_last (thn (hc pins s3 σ H3 _ I3 q3) fun w' s4 ⟨z', H4, I4, r4, q4⟩ => ho' pins s4 σ H4 y z' u w' Q I4 r2 r4 q4))
theorem pt_chain {op op' : CmpOp} {r r' : R2} (ho : OpR X (compareOp op) r) (ho' : OpR X (compareOp op') r') (ha : PE X a ta) (hb : PE X b tb) (hc : PE X c tc)
    (hm : lastMarks [op, op'] [b, c] = false := by with_unfolding_all rfl) : PT X (.Compare a [op, op'] [b, c] pos) (tTest (tChain r r' ta tb tc)) := by
  intro pins s σ H Q I h
  refine isTrue_chain (thn (ha pins s σ H _ I h) fun v s1 ⟨x, H1, I1, r1, q1⟩ => test_link (thn (hb pins s1 σ H1 _ I1 q1) fun u s2 ⟨y, H2, I2, r2, q2⟩ =>
    thn (ho pins s2 σ H2 x y v u _ I2 r1 r2 q2) fun d s3 ⟨z, H3, I3, r3, k, e, q3⟩ => ?_)) hm
  subst e
  cases r3
  refine wpAny_truthy_bool ?_
  cases k with
  | false =>
    obtain ⟨k', e', q'⟩ := q3
    cases e'
    exact ite_ff ⟨H3, I3, q'⟩
  | true =>
    refine ite_tt (test_last (thn (hc pins s3 σ H3 _ I3 q3) fun w' s4 ⟨z', H4, I4, r4, q4⟩ => thn (ho' pins s4 σ H4 y z' u w' _ I4 r2 r4 q4) fun d' s5 ⟨z2, H5, I5, r5, k2, e2, q5⟩ => ?_))
    subst e2
    cases r5
    exact wpAny_truthy_bool ⟨H5, I5, q5⟩

/-! ### truth -/
/-- a value's truth by the abstract heap -/
def TruV (K : PySem.W.Frag) (x : V) (H : Hp) (k : Bool) : Prop :=
  match x with
  | .non => k = false
  | .bl b => k = b
  | .int i => k = (i != 0)
  | .str y => y.length ≤ sizeLine ∧ k = ((y.length : Int) != 0)
  | .byt y => y.size ≤ sizeLine ∧ k = ((y.size : Int) != 0)
  | .ref p => (∃ xs, SqL K H p xs ∧ k = !xs.isEmpty) ∨ (∃ xs, SqT K H p xs ∧ k = !xs.isEmpty) ∨ ∃ kvs, H p = some (.dK kvs) ∧ k = !kvs.isEmpty
  | _ => False
theorem isEmpty_kv {κ : Type} {kvs : List (κ × V)} {vs : List (κ × Value)} (r : KV kvs vs) : (!vs.isEmpty) = !kvs.isEmpty := by
  cases r <;> rfl
theorem isEmpty_of {xs : List V} {its : List Value} (r : Vals xs its) : (!its.toArray.isEmpty) = !xs.isEmpty := by
  cases r <;> simp
theorem line63 : (sizeLine : Nat) < 2 ^ 63 := by rw [sizeLine_eq]; decide
theorem tru_ok : TruR X (fun x H Q => ∃ k, TruV X.K x H k ∧ Q k H) := by
  intro pins s σ H x v Q I rx h
  obtain ⟨k, e, q⟩ := h
  have hl := line63
  have hs : sizeLine = 16777216 := sizeLine_eq
  cases x with
  | non =>
    cases rx
    have e' : k = false := e
    subst e'
    exact truthy_none ⟨H, I, q⟩
  | bl b =>
    cases rx
    have e' : k = b := e
    subst e'
    exact wpAny_truthy_bool ⟨H, I, q⟩
  | int i =>
    obtain ⟨t, rfl⟩ := rx
    have e' : k = (i != 0) := e
    subst e'
    exact PySem.P.truthy_int ⟨H, I, q⟩
  | str y =>
    obtain ⟨t, rfl⟩ := rx
    obtain ⟨hy, e'⟩ : y.length ≤ sizeLine ∧ k = ((y.length : Int) != 0) := e
    subst e'
    exact PySem.P.truthy_str (by omega) ⟨H, I.tok _, q⟩
  | byt y =>
    obtain ⟨t, rfl⟩ := rx
    obtain ⟨hy, e'⟩ : y.size ≤ sizeLine ∧ k = ((y.size : Int) != 0) := e
    subst e'
    exact PySem.W.truthy_bytes (by omega) ⟨H, I.tok _, q⟩
  | ref p =>
    cases rx
    have e' : (∃ xs, SqL X.K H p xs ∧ k = !xs.isEmpty) ∨ (∃ xs, SqT X.K H p xs ∧ k = !xs.isEmpty) ∨ ∃ kvs, H p = some (.dK kvs) ∧ k = !kvs.isEmpty := e
    rcases e' with ⟨xs, hx, e'⟩ | ⟨xs, hx, e'⟩ | ⟨kvs, hx, e'⟩
    · subst e'
      obtain ⟨its, r, pl, hz⟩ := I.list hx
      have hlen := r.length
      exact wpAny_truthy_list pl.isList (by simp only [List.size_toArray]; omega) ⟨H, I.tok _, by rw [isEmpty_of r]; exact q⟩
    · subst e'
      obtain ⟨its, r, pl, hz⟩ := I.tuple hx
      have hlen := r.length
      exact truthy_tuple pl (by simp only [List.size_toArray]; omega) ⟨H, I.tok _, by rw [isEmpty_of r]; exact q⟩
    · subst e'
      obtain ⟨hz, hS, vs, r, m⟩ : kvs.length ≤ sizeLine ∧ (p == sysModules) = false ∧ ∃ vs, KV kvs vs ∧ s.heap.DictOf (mixKind X.prog X.w) p vs := I.hok p _ hx
      have hlen : kvs.length = vs.length := Paired.length r
      exact wpAny_truthy_dict hS m (by omega) ⟨H, I.tok _, by rw [isEmpty_kv r]; exact q⟩
  | _ => exact (show False from e).elim
/-- any expression whose test is its value's truth (a name, a call, a subscript, a field ..: he by fun _ => rfl) -/
theorem pt_truth (ha : PE X a ta) (he : ∀ whole, isTrue a X.env whole = (do let v ← whole; standAt a.pos; holding [v] (truthy v))) :
    PT X a (fun σ H Q => ta σ H fun x H' => ∃ k, TruV X.K x H' k ∧ Q k H') := by
  intro pins s σ H Q I h
  exact isTrue_plain (thn (ha pins s σ H _ I h) fun v s1 ⟨x, H1, I1, r1, q1⟩ => tru_ok pins s1 σ H1 x v Q I1 r1 q1) (he _)

/-! ### strs and bytes -/
/-! ### scalar builtins, by CallR -/
theorem vals1 {x : V} {us : List Value} (r : Vals [x] us) : ∃ u, us = [u] ∧ RelV x u := by
  cases r with
  | cons r1 r2 => cases r2; exact ⟨_, rfl, r1⟩
theorem vals2 {x y : V} {us : List Value} (r : Vals [x, y] us) : ∃ u w', us = [u, w'] ∧ RelV x u ∧ RelV y w' := by
  cases r with
  | cons r1 r2 =>
    cases r2 with
    | cons r3 r4 => cases r4; exact ⟨_, _, rfl, r1, r3⟩
theorem call_int1 : CallR X (.type "int") (fun xs H Q => (∃ i, xs = [.int i] ∧ Q (.int i) H) ∨ ∃ k, xs = [.bl k] ∧ Q (.int (if k then 1 else 0)) H) := by
  intro pins s σ H xs us Q I r h
  rcases h with ⟨i, rfl, q⟩ | ⟨k, rfl, q⟩
  · obtain ⟨u, rfl, t, rfl⟩ := vals1 r
    exact call_int_int ⟨.int i, H, I, ⟨_, rfl⟩, q⟩
  · obtain ⟨u, rfl, r1⟩ := vals1 r
    cases r1
    exact call_int_bool ⟨.int (if k then 1 else 0), H, I.tok _, ⟨_, rfl⟩, q⟩
end
end L2

namespace L2
open PySem PySem.Spec PyProof.Rows

/-! ### an instance, its attributes a map -/
structure ObjM (h : Heap) (x dx C : Addr) (mA : Str → Option Value) : Prop where
  obj : h.get? x = some (PySem.W.instObj C dx)
  ns : h.Ns1 dx mA
  ne : dx ≠ x

theorem lookIn_ns {h : Heap} {dx : Addr} {mA : Str → Option Value} (n : h.Ns1 dx mA) : ∃ od, h.get? dx = some od ∧ ∀ name, PySem.W.lookIn name od = some (mA name) := by
  obtain ⟨o, es, ep, ho, hd, hk, _, hm⟩ := n
  refine ⟨o, ho, fun name => ?_⟩
  have e := hm name
  unfold nsFind findBy at e
  rw [← Array.find?_toList] at e
  unfold PySem.W.lookIn
  rw [hd]
  dsimp only
  split
  · rename_i y q
    rw [q] at e
    exact congrArg some e
  · rename_i q
    rw [q] at e
    have a : es.toList.any (·.refKey) = false := by
      rw [List.any_eq_false]
      intro y hy
      obtain ⟨z, t, hkey⟩ := hk y (Array.mem_toList_iff.mp hy)
      simp [DictEntry.refKey, hkey]
    have a' : ¬ es.toList.any (·.refKey) = true := by rw [a]; exact Bool.false_ne_true
    rw [if_neg a']
    exact congrArg some e

theorem ObjM.look {h : Heap} {x dx C : Addr} {mA : Str → Option Value} (I : ObjM h x dx C mA) : ∃ od, PySem.W.InstAt h x (PySem.W.instObj C dx) C (some od) ∧ ∀ name, PySem.W.lookIn name od = some (mA name) :=
  let ⟨od, ho, hl⟩ := lookIn_ns I.ns
  ⟨od, ⟨I.obj, rfl, rfl, ho⟩, hl⟩

section
variable {prog : Program} {w : World} {A : Around} {E : Value → Shared → Prop} {s : Shared} {K : PySem.W.Frag} {x dx C f : Addr} {mA : Str → Option Value} {name : Str} {v : Value}

theorem set_map {ns : List Str} {Q : Unit → Shared → Prop} (X : K.In s.heap) (I : ObjM s.heap x dx C mA)
    (hs : PySem.W.findIn K (.ref C) "__setattr__" = some (some (.builtin "object.__setattr__"))) (hp : PySem.W.plainOver K C = true) (ht : PySem.W.takerIn K C name = some none) (hh : PySem.W.hasDictIn K C = true)
    (hw : PySem.Within mA ns) (hsz : ns.length ≤ sizeLine)
    (h : ∀ h', ObjM h' x dx C (fun y => if y = name then some v else mA y) → Heap.SameBut dx s.heap h' → Q () { s with heap := h', toks := s.toks + 2 }) :
    wpAny (model prog w) A (setAttr (.ref x) name v) Q E s := by
  obtain ⟨od, J, hl⟩ := I.look
  refine PySem.W.set_plain X J hs (PySem.W.osa_open (s := { s with toks := s.toks + 1 }) (r := none) X J hp ht fun b => ?_)
  obtain ⟨cd, hc, hd'⟩ := PySem.W.any_some hh
  have hx : s.heap.get? x = some ⟨.ref C, some dx, .plain, #[]⟩ := I.obj
  refine wpAny_bind (wpAny_pure (wpAny_bind (wpAny_bind (wpAny_loadPart hx (wpAny_bind (PySem.W.Looks.here (s := { s with toks := s.toks + 1 }) (PySem.W.looks_clsIn X hc) ?_))))))
  rw [hd']
  refine wpAny_pure (a := some dx) (wpAny_bind (wpAny_pure (wpAny_bind ?_)))
  refine wpAny_nsSet1 (s := { s with toks := s.toks + 1 }) I.ns fun h' hn2 hs2 => ?_
  obtain ⟨oD, esD, epD, hoD, hdD, hcD⟩ := hn2.count (PySem.Within.cons name v hw)
  refine wpAny_bind (wpAny_lookBehind hoD (by rw [hdD]; exact pastItsLine_dict (Nat.le_trans hcD (by rw [List.length_cons]; omega))) ?_)
  exact wpAny_pure (h _ ⟨(hs2.2 _ (Ne.symm I.ne)).trans I.obj, hn2, I.ne⟩ hs2)

/-- C(..): the dict at the heap's end, the instance behind it; then its __init__ -/
theorem make_map {R : Result → Shared → Prop} {vs : List Value} {kw : List (Str × Value)} (X : K.In s.heap) (hm : PySem.W.makesIn K C = true)
    (hi : PySem.W.findIn K (.ref C) "__init__" = some (some (.ref f))) (hf : PySem.W.typeIn K (.ref f) = some (.type "function"))
    (h : codeAny (model prog w) (A.under (.builtin "type.__call__" ⟨.ref C :: vs, kw⟩)) (.call (.ref f) ⟨.ref (s.heap.objs.size + 1) :: vs, kw⟩) (PySem.W.InitBack (s.heap.objs.size + 1) R)
      { s with heap := (s.heap.push PySem.W.emptyDict).push (PySem.W.instObj C s.heap.objs.size) }) :
    codeAny (model prog w) A (.call (.ref C) ⟨vs, kw⟩) R s := by
  obtain ⟨hh, g, d, t, os⟩ := s
  exact PySem.W.make_core (PySem.W.makes_of X hm) (PySem.W.looks_findIn X hi) (fun self => PySem.W.bind_fn X self hf) (.inl rfl) h
end

/-! ### the attributes as a list of pairs -/
def putF (f : Str) (v : V) : List (Str × V) → List (Str × V)
  | [] => [(f, v)]
  | (g, x) :: r => if g = f then (g, v) :: r else (g, x) :: putF f v r
theorem lookup_putF (f g : Str) (v : V) : ∀ fs : List (Str × V), (putF f v fs).lookup g = if g = f then some v else fs.lookup g
  | [] => by
    show List.lookup g [(f, v)] = _
    by_cases h : g = f
    · have hb : (g == f) = true := beq_iff_eq.mpr h
      simp only [List.lookup, hb, if_pos h]
    · have hb : (g == f) = false := beq_eq_false_iff_ne.mpr h
      simp only [List.lookup, hb, if_neg h]
  | (k, x) :: r => by
    have ih := lookup_putF f g v r
    rw [show putF f v ((k, x) :: r) = (if k = f then (k, v) :: r else (k, x) :: putF f v r) from rfl]
    by_cases hk : k = f
    · rw [if_pos hk]
      by_cases h : g = k
      · have hb : (g == k) = true := beq_iff_eq.mpr h
        simp only [List.lookup, hb, if_pos (h.trans hk)]
      · have hb : (g == k) = false := beq_eq_false_iff_ne.mpr h
        simp only [List.lookup, hb, if_neg (fun e : g = f => h (e.trans hk.symm))]
    · rw [if_neg hk]
      by_cases h : g = k
      · have hb : (g == k) = true := beq_iff_eq.mpr h
        simp only [List.lookup, hb, if_neg (fun e : g = f => hk (h.symm.trans e))]
      · have hb : (g == k) = false := beq_eq_false_iff_ne.mpr h
        simp only [List.lookup, hb]
        exact ih
theorem keys_putF (f : Str) (v : V) : ∀ fs : List (Str × V), f ∈ (putF f v fs).map (·.1) ∧ ∀ g, g ∈ fs.map (·.1) → g ∈ (putF f v fs).map (·.1)
  | [] => ⟨by simp [putF], fun g h => by simp at h⟩
  | (k, x) :: r => by
    obtain ⟨i1, i2⟩ := keys_putF f v r
    rw [show putF f v ((k, x) :: r) = (if k = f then (k, v) :: r else (k, x) :: putF f v r) from rfl]
    by_cases hk : k = f
    · rw [if_pos hk]
      subst hk
      exact ⟨by simp, fun g h => by simpa using h⟩
    · rw [if_neg hk]
      refine ⟨?_, fun g h => ?_⟩
      · rw [List.map_cons]
        exact List.mem_cons_of_mem _ i1
      · rw [List.map_cons] at h ⊢
        rcases List.mem_cons.mp h with e | e
        · exact List.mem_cons.mpr (.inl e)
        · exact List.mem_cons_of_mem _ (i2 g e)
theorem length_putF (f : Str) (v : V) : ∀ fs : List (Str × V), (putF f v fs).length ≤ fs.length + 1
  | [] => by simp [putF]
  | (k, x) :: r => by
    have ih := length_putF f v r
    rw [show putF f v ((k, x) :: r) = (if k = f then (k, v) :: r else (k, x) :: putF f v r) from rfl]
    by_cases hk : k = f
    · rw [if_pos hk, List.length_cons, List.length_cons]; omega
    · rw [if_neg hk, List.length_cons, List.length_cons]; omega

section
variable {P : Program} {w : World} {H H' : Hp} {h h' : Heap} {a C dx : Addr} {fs fs' : List (Str × V)}
theorem ins_get (hok : HOk P w H h) (e : H a = some (.ins C dx fs)) : ∃ mA, ObjM h a dx C mA ∧ (∀ f, RelO (fs.lookup f) (mA f)) ∧ PySem.Within mA (fs.map (·.1)) ∧ fs.length ≤ 1000 ∧ H dx = some (.own a) := by
  obtain ⟨d, z, ne, ob, mA, n, r, q⟩ := (show ObjOk P w H h a (.ins C dx fs) from hok a _ e)
  exact ⟨mA, ⟨ob, n, ne⟩, r, q, z, d⟩
end

/-! ### what of the text a class must have -/
structure Cls (K : PySem.W.Frag) (C : Addr) : Prop where
  pg : PySem.W.plainGet K C Str.empty = true
  hd : PySem.W.hasDictIn K C = true
  po : PySem.W.plainOver K C = true
  sa : PySem.W.findIn K (.ref C) "__setattr__" = some (some (.builtin "object.__setattr__"))
theorem Cls.get {K : PySem.W.Frag} {C : Addr} (c : Cls K C) (f : Str) : PySem.W.plainGet K C f = true := c.pg
/-- no class of it has the name -/
def NoAttr (K : PySem.W.Frag) (C : Addr) (f : Str) : Prop := PySem.W.findIn K (.ref C) f = some none
theorem NoAttr.taker {K : PySem.W.Frag} {C : Addr} {f : Str} (n : NoAttr K C f) : PySem.W.takerIn K C f = some none := by
  unfold PySem.W.takerIn
  rw [show PySem.W.findIn K (.ref C) f = some none from n]
  rfl
/-- a method: a plain def of the class or of one above it -/
structure Meth (K : PySem.W.Frag) (C : Addr) (m : Str) (f : Addr) : Prop where
  at_ : PySem.W.findIn K (.ref C) m = some (some (.ref f))
  fn : PySem.W.isFn K (.ref f) = true
  kp : PySem.W.keepIn K (.ref f) = true

section
variable {X : Cx} {pins : List (Addr × Obj)} {σ : St} {H : Hp} {s : Shared} {a C dx : Addr} {fs : List (Str × V)} {f : Str} {v : V} {A : Around} {E : Value → Shared → Prop}

theorem setattr_ok {y : V} {u : Value} {Q : Unit → Shared → Prop} (I : Inv X pins σ H s) (e : H a = some (.ins C dx fs)) (c : Cls X.K C) (n : NoAttr X.K C f) (hl : fs.length < 1000) (ry : RelV y u)
    (h : ∀ s', Inv X pins σ (upd H a (.ins C dx (putF f y fs))) s' → Q () s') : wpAny (model X.prog X.w) A (setAttr (.ref a) f u) Q E s := by
  obtain ⟨mA, O, r, wi, _, ho⟩ := ins_get I.hok e
  have hz : (fs.map (·.1)).length ≤ sizeLine := by rw [List.length_map, sizeLine_eq]; omega
  refine set_map I.kIn O c.sa c.po n.taker c.hd wi hz fun h' O' sb => h _ ?_
  have hd : ∃ o, h'.get? dx = some o := let ⟨o, _, _, e', _⟩ := O'.ns; ⟨o, e'⟩
  refine I.write (x := a) (e := dx) (by rw [e]; exact True.intro) (.inr ho) (fun b q hb z => (sb.2 b hb).trans z) hd ?_
  refine ⟨by rw [upd_ne O.ne]; exact ho, ?_, O.ne, O'.obj, _, O'.ns, fun g => ?_, fun g hg => ?_⟩
  · have := length_putF f y fs; omega
  · show RelO ((putF f y fs).lookup g) (if g = f then some u else mA g)
    rw [lookup_putF]
    by_cases q : g = f
    · rw [if_pos q, if_pos q]; exact ry
    · rw [if_neg q, if_neg q]; exact r g
  · by_cases q : g = f
    · rw [q]; exact (keys_putF f y fs).1
    · refine (keys_putF f y fs).2 g (wi g fun z => hg ?_)
      show (if g = f then some u else mA g) = none
      rw [if_neg q]; exact z

/-- a new instance, tracked, without attributes -/
theorem Inv.made (I : Inv X pins σ H s) : Inv X pins σ (upd (upd H s.heap.objs.size (.own (s.heap.objs.size + 1))) (s.heap.objs.size + 1) (.ins C s.heap.objs.size []))
    { s with heap := (s.heap.push PySem.W.emptyDict).push (PySem.W.instObj C s.heap.objs.size) } := by
  have e1 : (s.heap.push PySem.W.emptyDict).get? s.heap.objs.size = some PySem.W.emptyDict := Heap.get?_push_size s.heap rfl
  have e2 : ((s.heap.push PySem.W.emptyDict).push (PySem.W.instObj C s.heap.objs.size)).get? (s.heap.objs.size + 1) = some (PySem.W.instObj C s.heap.objs.size) := by
    have := Heap.get?_push_size (s.heap.push PySem.W.emptyDict) (o := PySem.W.instObj C s.heap.objs.size) rfl
    rwa [Heap.size_push] at this
  have e3 : (s.heap.push PySem.W.emptyDict).Ns s.heap.objs.size (fun _ => none) := ⟨PySem.W.emptyDict, #[], _, e1, rfl, (fun e he => absurd he (by simp)), fun _ => rfl⟩
  have I1 := I.laid (a := s.heap.objs.size) (o := .own (s.heap.objs.size + 1)) (h' := s.heap.push PySem.W.emptyDict) (t' := s.toks) (fun b u q => Heap.get?_push_of_some _ q) (Nat.le_refl _) ⟨_, e1⟩
  refine I1.laid (a := s.heap.objs.size + 1) (o := .ins C s.heap.objs.size []) (t' := s.toks) (fun b u q => Heap.get?_push_of_some _ q) (Nat.le_of_eq (Heap.size_push _ _)) ?_
  have ne : s.heap.objs.size ≠ s.heap.objs.size + 1 := Nat.ne_of_lt (Nat.lt_succ_self _)
  refine ⟨by rw [upd_ne ne, upd_same], Nat.zero_le _, ne, e2, fun _ => none, (Heap.Ns1.of_empty e3).at fun o q => Heap.get?_push_of_some _ q, fun _ => True.intro, fun y hy => absurd rfl hy⟩

end

/-! ### readings and rules -/
/-- e.f = value -/
def sFld (K : PySem.W.Frag) (ta tv : TE) (f : Str) : TS := fun D σ H => tv σ H fun y H1 => ta σ H1 fun x H2 => ∃ a C dx fs, x = .ref a ∧ H2 a = some (.ins C dx fs) ∧ Cls K C ∧ NoAttr K C f ∧ fs.length < 1000 ∧
  D.nx σ (upd H2 a (.ins C dx (putF f y fs)))
section
variable {X : Cx} {o e value : Expr} {f : Str} {pos pos' tpos : Pos} {ta tv : TE}
theorem ps_fld (ha : PE X o ta) (hv : PE X value tv) (hs : swapsWith value (some (.Attribute o f pos')) pos.line X.env = pure false) : PS X (.Assign [.Attribute o f pos'] value pos) (sFld X.K ta tv f) := by
  intro pins s σ H D I h
  refine plainObj_wpAny_Assign_Attribute (thn (hv pins s σ H _ I h) fun u s1 ⟨y, H1, I1, ry, q⟩ => thn (ha pins s1 σ H1 _ I1 q) fun ov s2 ⟨x, H2, I2, rx, a, C, dx, fs, ex, ea, c, n, l, q2⟩ => ?_) hs
  subst ex
  obtain rfl : ov = Value.ref a := rx
  exact setattr_ok I2 ea c n l ry fun s3 I3 => ⟨σ, _, I3, q2⟩
end

/-! ### isinstance -/
section
variable {X : Cx} {pins : List (Addr × Obj)} {σ : St} {H : Hp} {s : Shared} {A : Around} {E : Value → Shared → Prop} {Q : Value → Shared → Prop} {c : Value} {b : Bool}
/-- the type of a value, as the fragment's deciders take it; for an instance its class -/
inductive TyOf (K : PySem.W.Frag) (H : Hp) : V → Value → Prop where
  | non : TyOf K H .non (.type "NoneType")
  | bl (x : Bool) : TyOf K H (.bl x) (.type "bool")
  | int (i : Int) : TyOf K H (.int i) (.type "int")
  | str (x : Str) : TyOf K H (.str x) (.type "str")
  | flt (x : UInt64) : TyOf K H (.flt x) (.type "float")
  | lst {a : Addr} {xs : List V} (e : H a = some (.lst xs)) : TyOf K H (.ref a) (.type "list")
  | frz {a : Addr} {o : Obj} {xs : List V} (e : H a = some (.frz o (.lst xs))) : TyOf K H (.ref a) (.type "list")
  | tup {a : Addr} {xs : List V} (e : H a = some (.tup xs)) : TyOf K H (.ref a) (.type "tuple")
  | dK {a : Addr} {kvs : List (Key × V)} (e : H a = some (.dK kvs)) : TyOf K H (.ref a) (.type "dict")
  | dT {a : Addr} {kvs : List (List Key × V)} (e : H a = some (.dT kvs)) : TyOf K H (.ref a) (.type "dict")
  | ins {a C dx : Addr} {fs : List (Str × V)} (e : H a = some (.ins C dx fs)) (cl : Cls K C) (ha : PySem.W.findIn K (.ref C) "__class__" = some (some (.builtin "object.__class__")))
      (hn : PySem.W.specialIn K (.builtin "object.__class__") "__get__" = some (some (.builtin "getset_descriptor.__get__"))) (htk : PySem.W.takesIn K (.builtin "object.__class__") = some true)
      (hm : PySem.W.mroIn K C (.type "object") = some true) : TyOf K H (.ref a) (.ref C)
/-- isinstance(x, c) for one class c, a built-in or an own one: kitOne's answer -/
theorem isinst_ok {x : V} {u t : Value} (I : Inv X pins σ H s) (rx : RelV x u) (ty : TyOf X.K H x t) (e : PySem.W.kitOne X.K t c = some b) (h : ∀ tk, Q (.bool b) { s with toks := tk }) :
    wpAny (model X.prog X.w) A (call (.builtin "isinstance") [u, c]) Q E s := by
  cases ty with
  | non => cases (show u = Value.none from rx); exact PySem.W.kia_one PySem.W.kitx_none I.kIn True.intro e (fun z => nomatch z) h
  | bl y => cases (show u = Value.bool y from rx); exact PySem.W.kia_one PySem.W.kitx_bool I.kIn True.intro e (fun z => nomatch z) h
  | int i => obtain ⟨t, q⟩ := (show ∃ t, u = Value.int i t from rx); cases q; exact PySem.W.kia_one PySem.W.kitx_int I.kIn True.intro e (fun z => nomatch z) h
  | str y => obtain ⟨t, q⟩ := (show ∃ t, u = Value.str y t from rx); cases q; exact PySem.W.kia_one PySem.W.kitx_str I.kIn True.intro e (fun z => nomatch z) h
  | flt y => obtain ⟨t, q⟩ := (show ∃ t, u = Value.float y t from rx); cases q; exact PySem.W.kia_one PySem.W.kitx_float I.kIn True.intro e (fun z => nomatch z) h
  | @lst a xs ea =>
    cases (show u = Value.ref a from rx)
    obtain ⟨_, _, n, _, h1⟩ := (show ObjOk X.prog X.w H s.heap a (.lst xs) from I.hok a _ ea)
    exact PySem.W.kia_one PySem.W.kitx_list I.kIn ⟨_, h1, rfl⟩ e (fun z => nomatch z) h
  | @frz a ob xs ea =>
    cases (show u = Value.ref a from rx)
    obtain ⟨_, _, _, n, _, h1⟩ := (show ObjOk X.prog X.w H s.heap a (.frz ob (.lst xs)) from I.hok a _ ea)
    exact PySem.W.kia_one PySem.W.kitx_list I.kIn ⟨_, h1, rfl⟩ e (fun z => nomatch z) h
  | @tup a xs ea =>
    cases (show u = Value.ref a from rx)
    obtain ⟨_, _, _, p⟩ := (show ObjOk X.prog X.w H s.heap a (.tup xs) from I.hok a _ ea)
    obtain ⟨o, h1, h2, _⟩ := p
    exact PySem.W.kia_one PySem.W.kitx_tuple I.kIn ⟨o, h1, h2⟩ e (fun z => nomatch z) h
  | @dK a kvs ea =>
    cases (show u = Value.ref a from rx)
    obtain ⟨_, _, vs, _, p⟩ := (show ObjOk X.prog X.w H s.heap a (.dK kvs) from I.hok a _ ea)
    obtain ⟨o, es, ep, h1, h2, _⟩ := p
    exact PySem.W.kia_one PySem.W.kitx_dict I.kIn ⟨o, h1, h2.1⟩ e (fun z => nomatch z) h
  | @dT a kvs ea =>
    cases (show u = Value.ref a from rx)
    obtain ⟨_, _, xs, _, o, es, ep, h1, h2, _⟩ := (show ObjOk X.prog X.w H s.heap a (.dT kvs) from I.hok a _ ea)
    exact PySem.W.kia_one PySem.W.kitx_dict I.kIn ⟨o, h1, h2.1⟩ e (fun z => nomatch z) h
  | @ins a C dx fs ea cl ha hn htk hm =>
    cases (show u = Value.ref a from rx)
    obtain ⟨mA, O, _⟩ := ins_get I.hok ea
    obtain ⟨od, J, _⟩ := O.look
    exact PySem.W.kia_one (PySem.W.kitx_own (cl.get _) cl.hd ha hn htk hm) I.kIn J e (fun z => nomatch z) h
end
end L2

namespace L2
open PySem PySem.Spec PyProof.Rows

/-! ### room -/
structure Room (k : Nat) (A : Around) : Prop where
  hd : A.handled = none
  dp : A.depth + 3 * k + 5 < recursionLimit
  un : A.units + 16 * k + 200 < cLine
theorem Room.mono {j k : Nat} {A : Around} (r : Room k A) (h : j ≤ k) : Room j A := ⟨r.hd, by have := r.dp; omega, by have := r.un; omega⟩
theorem Room.deeper {k : Nat} {A : Around} (r : Room (k + 1) A) (env : Env) : Room k (A.deeper env) :=
  ⟨r.hd, by have := r.dp; show A.depth + 1 + 3 * k + 5 < _; omega, by have := r.un; show A.units + 3 + 16 * k + 200 < _; omega⟩
theorem make_depth {A : Around} {C : Addr} {us : List Value} {kw : List (Str × Value)} : (A.under (.builtin "type.__call__" ⟨.ref C :: us, kw⟩)).depth = A.depth + 1 := by
  first | rfl | simp [Around.under, Code.weight, Code.isCreation, Code.isGuard, Code.isCaller, Code.frames, Code.isFrame, guardIds]
theorem make_units {A : Around} {C : Addr} {us : List Value} {kw : List (Str × Value)} : (A.under (.builtin "type.__call__" ⟨.ref C :: us, kw⟩)).units = A.units + 1 := by
  first | rfl | simp [Around.under, Code.cUnits, Code.frames, Code.isFrame]
theorem Room.make {k : Nat} {A : Around} (r : Room (k + 1) A) (C : Addr) (us : List Value) (kw : List (Str × Value)) : Room k (A.under (.builtin "type.__call__" ⟨.ref C :: us, kw⟩)) :=
  ⟨r.hd, by have := r.dp; rw [make_depth]; omega, by have := r.un; rw [make_units]; omega⟩
theorem Room.depth {k : Nat} {A : Around} (r : Room k A) : A.depth < recursionLimit := by have := r.dp; omega
theorem Room.units {k : Nat} {A : Around} (r : Room k A) : A.units + 64 < cLine := by have := r.un; omega
/-! ### argument lists and displays -/
def tNil : TA := fun _ H Q => Q [] H
def tCons (ta : TE) (tr : TA) : TA := fun σ H Q => ta σ H fun x H1 => tr σ H1 fun xs H2 => Q (x :: xs) H2
section
variable {X : Cx} {e : Expr} {es : List Expr} {te : TE} {t : TA} {pos : Pos}
theorem pa_nil : PA X [] tNil := fun _ _ _ _ H Q I h => Calls.spliced_nil ⟨[], H, I, .nil, h⟩
theorem pa_cons (ha : PE X e te) (hr : PA X es t) (hs : starEach (e :: es) X.env = (false, eval e X.env) :: starEach es X.env := by rfl) : PA X (e :: es) (tCons te t) := by
  intro pos pins s σ H Q I h
  rw [hs]
  show wpAny _ _ (spliced ((false, eval e X.env) :: backTo pos (starEach es X.env))) _ _ s
  refine Calls.spliced_cons (thn (ha pins s σ H _ I h) fun u s1 ⟨x, H1, I1, r1, q1⟩ => ?_)
  exact thn (hr pos pins s1 σ H1 _ I1 q1) fun us s2 ⟨xs, H2, I2, r2, q2⟩ => ⟨x :: xs, H2, I2, .cons r1 r2, q2⟩

/-- a tuple, a list of written items -/
inductive NewR (xs : List V) (o : HO) (H : Hp) (Q : VK) : Prop
  | mk (z : xs.length ≤ sizeLine) (k : ∀ p, H p = none → Q (.ref p) (upd H p o)) : NewR xs o H Q
def tTup (t : TA) : TE := fun σ H Q => t σ H fun xs H1 => NewR xs (.tup xs) H1 Q
def tLst (t : TA) : TE := fun σ H Q => t σ H fun xs H1 => NewR xs (.lst xs) H1 Q
theorem pe_tup {x1} (h : PA X es t) : PE X (.Tuple es x1 pos) (tTup t) := by
  intro pins s σ H Q I hq
  refine wpAny_Tuple_spliced (thn (h pos pins s σ H _ I hq) fun us s1 ⟨xs, H1, I1, r, z, q⟩ => ⟨by rw [← r.length]; exact z, ?_⟩)
  have hf : H1 s1.heap.objs.size = none := I1.hok.fresh (Nat.le_refl _)
  refine ⟨.ref s1.heap.objs.size, upd H1 s1.heap.objs.size (.tup xs), I1.laid (t' := s1.toks) (fun b u e => Heap.get?_push_of_some _ e) (Nat.le_refl _) ?_, rfl, q _ hf⟩
  exact ⟨z, us, r, ⟨_, Heap.get?_push_size _ rfl, rfl, _, rfl⟩⟩
theorem pe_lst (h : PA X es t) : PE X (.List es pos) (tLst t) := by
  intro pins s σ H Q I hq
  refine wpAny_List_spliced (thn (h pos pins s σ H _ I hq) fun us s1 ⟨xs, H1, I1, r, z, q⟩ => ⟨by rw [← r.length]; exact z, ?_⟩)
  have hf : H1 s1.heap.objs.size = none := I1.hok.fresh (Nat.le_refl _)
  refine ⟨.ref s1.heap.objs.size, upd H1 s1.heap.objs.size (.lst xs), I1.laid (t' := s1.toks) (fun b u e => Heap.get?_push_of_some _ e) (Nat.le_refl _) ?_, rfl, q _ hf⟩
  exact ⟨z, us, 0, r, Heap.get?_push_size _ rfl⟩
end

/-! ### what a def promises -/
/-- a def's promise: the bound arguments in the parameters' order, the heap, the wanted end, the wanted exception -/
abbrev Sp := List V → Hp → VK → XK → Prop
/-- how an exception lies behind a call (file 08 gives it): the callers' frames, abstract heap and state ahead of the call, the wish, the exception, the state -/
abbrev CXT := List Env → Hp → Shared → XK → Value → Shared → Prop

/-- the state at a call -/
structure Env0 (P : Program) (w : World) (K : PySem.W.Frag) (mg : Str → Option Value) (base : Heap) (A : Around) (outer : List Env) (s : Shared) (H : Hp) : Prop where
  frames : A.frames = some outer
  mod : Mod K mg base
  bs : ∀ b o, base.get? b = some o → s.heap.get? b = some o ∧ H b = none
  bsz : base.objs.size ≤ s.heap.objs.size
  funs : s.heap.FunFrames base outer
  frf : ∀ b ∈ frs outer, H b = none
  hok : HOk P w H s.heap
  bare : AllBare s.gens
/-- a call's end -/
def CE (outer : List Env) (P : Program) (w : World) (H : Hp) (s : Shared) (Q : VK) (u : Value) (s' : Shared) : Prop :=
  ∃ v H', s'.os = s.os ∧ AllBare s'.gens ∧ Un (frs outer) [] H H' s.heap s'.heap ∧ HOk P w H' s'.heap ∧ RelV v u ∧ Q v H'
def CR (CX : CXT) (outer : List Env) (P : Program) (w : World) (H : Hp) (s : Shared) (Q : VK) (E : XK) (r : Result) (s' : Shared) : Prop :=
  match r with
  | .ok (.ret u) => CE outer P w H s Q u s'
  | .ok _ => False
  | .error e => CX outer H s E e s'
structure FnOk (P : Program) (w : World) (K : PySem.W.Frag) (mg : Str → Option Value) (base : Heap) (CX : CXT) (k : Nat) (f : Addr) (fd : FuncData) (ps : List Str) (sp : Sp) : Prop where
  len : ∀ vs H Q E, sp vs H Q E → vs.length = ps.length
  run : ∀ (A : Around) (outer : List Env) (s : Shared) (H : Hp) (args : Args) (us : List Value) (vs : List V) (Q : VK) (E : XK), Room k A → Env0 P w K mg base A outer s H → BindsTo s fd args (ps.zip us) → Vals vs us → sp vs H Q E →
    codeAny (model P w) A (.call (.ref f) args) (CR CX outer P w H s Q E) s
theorem Env0.make {P : Program} {w : World} {K : PySem.W.Frag} {mg : Str → Option Value} {base : Heap} {A : Around} {outer : List Env} {s : Shared} {H : Hp} (e : Env0 P w K mg base A outer s H) (C : Addr) (us : List Value) (kw : List (Str × Value)) :
    Env0 P w K mg base (A.under (.builtin "type.__call__" ⟨.ref C :: us, kw⟩)) outer s H := ⟨by first | exact e.frames | (simpa [Around.under, Code.envs, Code.isFrame, pushEnvs] using e.frames), e.mod, e.bs, e.bsz, e.funs, e.frf, e.hok, e.bare⟩
section
variable {X : Cx} {pins : List (Addr × Obj)} {σ : St} {H : Hp} {s s' : Shared}
/-- from a body: what a callee wants -/
theorem Inv.env0 (I : Inv X pins σ H s) : Env0 X.prog X.w X.K X.mg X.base X.A X.stack s H :=
  ⟨I.ok.frames, I.ok.mod, I.bs, Nat.le_trans I.ok.bsz I.sz, I.stack, I.stkFree, I.hok, I.bare⟩
/-- behind a call -/
theorem Inv.after {Q : VK} {u : Value} (I : Inv X pins σ H s) (h : CE X.stack X.prog X.w H s Q u s') : EP X pins σ Q u s' := by
  obtain ⟨v, H', os, bare, un, hok, r, q⟩ := h
  obtain ⟨hh, g, d, t, os'⟩ := s'
  obtain rfl : os' = s.os := os
  exact ⟨v, H', I.call (h' := hh) (g' := g) (d' := d) (t' := t) (ch := []) un hok bare (fun b z => absurd z (by simp)), r, q⟩
end

/-! ### calls -/
/-- f(..): the written arguments, then the defaults dvs; E: what is wanted of an exception -/
def tCall (sp : Sp) (dvs : List V) (E : XK) (t : TA) : TE := fun σ H Q => t σ H fun vs H1 => sp (vs ++ dvs) H1 Q E
/-- C(..): a new instance and its dict, then __init__ -/
def tMake (C : Addr) (sp : Sp) (dvs : List V) (E : XK) (t : TA) : TE := fun σ H Q => t σ H fun vs H1 => ∀ x dx, H1 x = none → H1 dx = none → dx ≠ x →
  sp (.ref x :: (vs ++ dvs)) (upd (upd H1 dx (.own x)) x (.ins C dx [])) (fun v H2 => v = .non ∧ Q (.ref x) H2) E

/-- how the parameters are bound: us the positional arguments, kw the keywords' values by name, ds the defaults that fill up -/
def Binds (K : PySem.W.Frag) (fd : FuncData) (ps : List Str) (ds : List Value) : Prop :=
  ∀ (s : Shared) (us : List Value), K.In s.heap → (us ++ ds).length = ps.length → BindsTo s fd ⟨us, []⟩ (ps.zip (us ++ ds))
/-- every parameter is given -/
theorem Binds.all {K : PySem.W.Frag} {fd : FuncData} {ps : List Str} (h : ∀ us : List Value, us.length = ps.length → bindArgs fd ⟨us, []⟩ = pure (ps.zip us)) : Binds K fd ps [] := fun s us _ hl => by
  rw [List.append_nil] at hl ⊢
  exact .of_eq (h us hl)

/-- an exception of a callee reaches what this body wants of exceptions -/
def Passes (CX : CXT) (X : Cx) (E : XK) : Prop := ∀ (pins : List (Addr × Obj)) (σ : St) (H : Hp) (s : Shared) (e : Value) (s' : Shared), Inv X pins σ H s → CX X.stack H s E e s' → X.xe e s'

section
variable {X : Cx} {CX : CXT} {k : Nat} {f C : Addr} {fd : FuncData} {ps : List Str} {sp : Sp} {dvs : List V} {ds : List Value} {E : XK} {x m : Str} {p pos apos : Pos} {e o : Expr} {es : List Expr} {ta : TE} {t : TA}

/-- the callee runs -/
theorem run_fn {pins : List (Addr × Obj)} {σ : St} {H : Hp} {s : Shared} {Q : VK} {us : List Value} {vs : List V} (F : FnOk X.prog X.w X.K X.mg X.base CX k f fd ps sp) (hr : Room k X.A) (hb : Binds X.K fd ps ds) (hd : Vals dvs ds) (hx : Passes CX X E)
    (I : Inv X pins σ H s) (r : Vals vs us) (h : sp (vs ++ dvs) H Q E) : wpAny (model X.prog X.w) X.A (call (.ref f) us) (EP X pins σ Q) X.xe s := by
  have r2 : Vals (vs ++ dvs) (us ++ ds) := r.append hd
  have hl : (us ++ ds).length = ps.length := by rw [← r2.length]; exact F.len _ _ _ _ h
  refine wpAny_call (codeAny_mono (F.run X.A X.stack s H ⟨us, []⟩ (us ++ ds) (vs ++ dvs) Q E hr I.env0 (hb s us I.kIn hl) r2 h) fun r s' hq => ?_)
  cases r with
  | error e => exact hx pins σ H s e s' I hq
  | ok fl =>
    cases fl with
    | ret u => exact I.after hq
    | next => exact False.elim hq
    | brk => exact False.elim hq
    | cont => exact False.elim hq

theorem pe_call (F : FnOk X.prog X.w X.K X.mg X.base CX k f fd ps sp) (hr : Room k X.A) (hg : Gl X x) (hm : X.mg x = some (.ref f)) (hk : PySem.W.keepIn X.K (.ref f) = true) (hb : Binds X.K fd ps ds) (hd : Vals dvs ds) (hx : Passes CX X E)
    (ha : PA X (e :: es) t) (hdb : (x == ("__debug__" : Str)) = false := by decide) (he : starEach (e :: es) X.env = (false, eval e X.env) :: starEach es X.env := by rfl) (hpl : (backTo pos (starEach es X.env)).any (·.1) = false := by rfl) :
    PE X (.Call (.Name x p) (e :: es) [] pos) (tCall sp dvs E t) := by
  intro pins s σ H Q I h
  refine wpAny_Call_Name_kw (ld_glob I hg hm ?_ hdb)
  refine PySem.W.callWith_K (h₀ := X.base) I.ok.mod.kin hk (thn (ha pos pins s σ H _ I h) fun us s1 ⟨vs, H1, I1, r, q⟩ => ⟨I1.kIn, ?_⟩) he hpl
  exact run_fn F hr hb hd hx I1 r q
/-- what a class must have to be made -/
structure Mk (K : PySem.W.Frag) (C f : Addr) : Prop where
  makes : PySem.W.makesIn K C = true
  init : PySem.W.findIn K (.ref C) "__init__" = some (some (.ref f))
  fn : PySem.W.isFn K (.ref f) = true
  kp : PySem.W.keepIn K (.ref C) = true

theorem run_make {pins : List (Addr × Obj)} {σ : St} {H : Hp} {s : Shared} {Q : VK} {us : List Value} {vs : List V} (M : Mk X.K C f) (F : FnOk X.prog X.w X.K X.mg X.base CX k f fd ps sp) (hr : Room (k + 1) X.A) (hb : Binds X.K fd ps ds) (hd : Vals dvs ds)
    (hx : Passes CX X E) (I : Inv X pins σ H s) (r : Vals vs us)
    (h : ∀ x dx, H x = none → H dx = none → dx ≠ x → sp (.ref x :: (vs ++ dvs)) (upd (upd H dx (.own x)) x (.ins C dx [])) (fun v H2 => v = .non ∧ Q (.ref x) H2) E) :
    wpAny (model X.prog X.w) X.A (call (.ref C) us) (EP X pins σ Q) X.xe s := by
  have hq := h (s.heap.objs.size + 1) s.heap.objs.size (I.hok.fresh (Nat.le_succ _)) (I.hok.fresh (Nat.le_refl _)) (Nat.ne_of_lt (Nat.lt_succ_self _))
  have I2 := Inv.made (C := C) I
  have r2 : Vals (V.ref (s.heap.objs.size + 1) :: (vs ++ dvs)) (Value.ref (s.heap.objs.size + 1) :: (us ++ ds)) := .cons rfl (r.append hd)
  have hl : (Value.ref (s.heap.objs.size + 1) :: us ++ ds).length = ps.length := by
    have e := r2.length
    rw [F.len _ _ _ _ hq] at e
    exact e.symm
  refine wpAny_call (make_map (f := f) I.kIn M.makes M.init (beq_iff_eq.mp M.fn) (codeAny_mono (F.run _ X.stack _ _ ⟨Value.ref (s.heap.objs.size + 1) :: us, []⟩ (Value.ref (s.heap.objs.size + 1) :: (us ++ ds)) _ _ E (hr.make C us [])
    (I2.env0.make C us []) (hb _ (Value.ref (s.heap.objs.size + 1) :: us) I2.kIn hl) r2 hq) fun r s' hq' => ?_))
  cases r with
  | error e => exact hx pins σ _ _ e s' I2 hq'
  | ok fl =>
    cases fl with
    | ret u =>
      obtain ⟨v, H', I3, rv, ev, q3⟩ := I2.after hq'
      subst ev
      exact ⟨rv, ⟨V.ref (s.heap.objs.size + 1), H', I3, rfl, q3⟩⟩
    | next => exact False.elim hq'
    | brk => exact False.elim hq'
    | cont => exact False.elim hq'
theorem pe_make (M : Mk X.K C f) (F : FnOk X.prog X.w X.K X.mg X.base CX k f fd ps sp) (hr : Room (k + 1) X.A) (hg : Gl X x) (hm : X.mg x = some (.ref C)) (hb : Binds X.K fd ps ds) (hd : Vals dvs ds) (hx : Passes CX X E)
    (ha : PA X (e :: es) t) (hdb : (x == ("__debug__" : Str)) = false := by decide) (he : starEach (e :: es) X.env = (false, eval e X.env) :: starEach es X.env := by rfl) (hpl : (backTo pos (starEach es X.env)).any (·.1) = false := by rfl) :
    PE X (.Call (.Name x p) (e :: es) [] pos) (tMake C sp dvs E t) := by
  intro pins s σ H Q I h
  refine wpAny_Call_Name_kw (ld_glob I hg hm ?_ hdb)
  refine PySem.W.callWith_K (h₀ := X.base) I.ok.mod.kin M.kp (thn (ha pos pins s σ H _ I h) fun us s1 ⟨vs, H1, I1, r, q⟩ => ⟨I1.kIn, ?_⟩) he hpl
  exact run_make M F hr hb hd hx I1 r q
end

/-! ### keywords -/
section
variable {X : Cx} {CX : CXT} {k : Nat} {f C : Addr} {fd : FuncData} {ps ks : List Str} {sp : Sp} {E : XK} {x m : Str} {p pos apos kpos : Pos} {e o : Expr} {es : List Expr} {kws : List Keyword} {te ta : TE} {t tk : TA} {nm : Option Str}
variable {g : List Value → List Value → List Value} {gV : List V → List V → List V}
end

/-! ### a def's body keeps its promise -/
/-- names: the parameters first -/
structure FnScope (N P : List Str) (sc : Scope) : Prop where
  kind : sc.kind = .function
  co : sc.isCoroutine = false
  gen : sc.isGenerator = false
  nd : N.Nodup
  pre : N.take P.length = P
  par : ∀ x ∈ P, sc.names.lookup x = some .local ∨ sc.names.lookup x = some .cell
  nofree : ∀ y ∈ sc.names, y.2 ≠ .free

theorem bindL_out {kindOf : Str → Option NameKind} {x : Str} : ∀ {binds : List (Str × Value)} {m : Str → Option Value}, (∀ v, (x, v) ∉ binds) → bindL kindOf binds m x = m x
  | [], _, _ => rfl
  | (n, v) :: r, m, h => by
    unfold bindL
    rw [bindL_out fun w hw => h w (List.mem_cons_of_mem _ hw)]
    split
    · have : x ≠ n := by rintro rfl; exact h v List.mem_cons_self
      simp [this]
    · rfl
theorem bindC_out {kindOf : Str → Option NameKind} {x : Str} : ∀ {binds : List (Str × Value)} {m : Str → Option Value}, (∀ v, (x, v) ∉ binds) → bindC kindOf binds m x = m x
  | [], _, _ => rfl
  | (n, v) :: r, m, h => by
    unfold bindC
    rw [bindC_out fun w hw => h w (List.mem_cons_of_mem _ hw)]
    split
    · rfl
    · have : x ≠ n := by rintro rfl; exact h v List.mem_cons_self
      simp [this]
theorem bindL_get {kindOf : Str → Option NameKind} {x : Str} {v : Value} : ∀ {P : List Str} {vs : List Value} {i : Nat} {m : Str → Option Value}, P.Nodup → P[i]? = some x → vs[i]? = some v → kindOf x = some .local →
    bindL kindOf (P.zip vs) m x = some v
  | [], _, _, _, _, h, _, _ => by simp at h
  | _ :: _, [], _, _, _, _, h, _ => by simp at h
  | p :: P, w :: vs, 0, m, nd, h1, h2, hk => by
    simp at h1 h2; subst h1; subst h2
    show bindL kindOf ((p, w) :: P.zip vs) m p = _
    unfold bindL
    rw [bindL_out fun v hv => (List.nodup_cons.mp nd).1 (List.of_mem_zip hv).1, if_pos hk]
    simp
  | p :: P, w :: vs, i + 1, m, nd, h1, h2, hk => by
    show bindL kindOf ((p, w) :: P.zip vs) m x = _
    unfold bindL
    exact bindL_get (i := i) (List.nodup_cons.mp nd).2 (by simpa using h1) (by simpa using h2) hk
theorem bindC_get {kindOf : Str → Option NameKind} {x : Str} {v : Value} : ∀ {P : List Str} {vs : List Value} {i : Nat} {m : Str → Option Value}, P.Nodup → P[i]? = some x → vs[i]? = some v → kindOf x ≠ some .local →
    bindC kindOf (P.zip vs) m x = some v
  | [], _, _, _, _, h, _, _ => by simp at h
  | _ :: _, [], _, _, _, _, h, _ => by simp at h
  | p :: P, w :: vs, 0, m, nd, h1, h2, hk => by
    simp at h1 h2; subst h1; subst h2
    show bindC kindOf ((p, w) :: P.zip vs) m p = _
    unfold bindC
    rw [bindC_out fun v hv => (List.nodup_cons.mp nd).1 (List.of_mem_zip hv).1, if_neg hk]
    simp
  | p :: P, w :: vs, i + 1, m, nd, h1, h2, hk => by
    show bindC kindOf ((p, w) :: P.zip vs) m x = _
    unfold bindC
    exact bindC_get (i := i) (List.nodup_cons.mp nd).2 (by simpa using h1) (by simpa using h2) hk

/-- the names' values at the entry -/
def start (N : List Str) (vs : List V) : St := vs.map some ++ List.replicate (N.length - vs.length) none

/-- the context of a def's body, at its entry; an exception leaves the frame, then lies as CX says -/
def cxOf (CX : CXT) (P : Program) (w : World) (K : PySem.W.Frag) (mg : Str → Option Value) (base : Heap) (N : List Str) (qual : Str) (scope : Scope) (f : Addr) (cd : Value) (A : Around) (outer : List Env) (s : Shared) (H : Hp) (E : XK) : Cx where
  prog := P
  w := w
  K := K
  mg := mg
  base := base
  A := A.deeper (envOfC qual scope s.heap.objs.size f cd)
  N := N
  s₀ := s
  H₀ := H
  env := envOfC qual scope s.heap.objs.size f cd
  outer := outer
  stack := envOfC qual scope s.heap.objs.size f cd :: outer
  ex := []
  calm := true
  fn := fun _ => true
  pn := []
  xe := fun e s' => wpAny (model P w) (A.deeper (envOfC qual scope s.heap.objs.size f cd)) (leaving (envOfC qual scope s.heap.objs.size f cd) e) (fun _ s'' => CX outer H s E e s'') (fun e' s'' => CX outer H s E e' s'') s'

theorem cell_has {sc : Scope} {n : Nat} {x : Str} (h : sc.names.lookup x = some .cell) : ∃ c, (cellsFrom n sc.names []).lookup x = some c := by
  have q := PySem.W.cellsFrom_some sc.names n [] (.inl h)
  exact Option.isSome_iff_exists.mp q

theorem inv_start {CX : CXT} {P : Program} {w : World} {K : PySem.W.Frag} {mg : Str → Option Value} {base : Heap} {N ps : List Str} {qual : Str} {scope : Scope} {f : Addr} {cd : Value} {A : Around} {outer : List Env} {s s1 : Shared} {H : Hp} {E : XK} {us : List Value} {vs : List V}
    (S : FnScope N ps scope) (hd : A.handled = none) (e0 : Env0 P w K mg base A outer s H) (hl : vs.length = ps.length) (r : Vals vs us)
    (x : InCallC s s.heap.objs.size (bindL (envOfC qual scope s.heap.objs.size f cd).kindOf (ps.zip us) fun _ => none) (cellsFrom (s.heap.objs.size + 1) scope.names []) (bindC (envOfC qual scope s.heap.objs.size f cd).kindOf (ps.zip us) fun _ => none) s1) :
    Inv (cxOf CX P w K mg base N qual scope f cd A outer s H E) [] (start N vs) H s1 := by
  have hpl : ps.length ≤ N.length := by have := congrArg List.length S.pre; rw [List.length_take] at this; omega
  obtain ⟨h1, tk, rfl, hk⟩ := x.done
  have noA : ∀ b : Addr, b ∉ (cxOf CX P w K mg base N qual scope f cd A outer s H E).ex := fun b z => absurd (show b ∈ ([] : List Addr) from z) (by simp)
  refine ⟨⟨e0.mod, S.kind, rfl, rfl, Nat.le_refl _, fun y z c h1 h2 => ?_, fun y hy => ?_, fun y c _ h => ?_, fun _ => hd, Around.frames_deeper e0.frames, .inr ⟨rfl, rfl⟩, fun b z => absurd z (noA b), e0.bs, e0.bsz, fun b _ _ => noA b, fun b z => absurd z (noA b), e0.funs, e0.frf⟩,
    rfl, e0.bare, Un.kept hk, ⟨_, x.toInCall.ns, fun i y v h1 h2 h3 => ?_⟩, fun y c h => ⟨_, x.cell y c h⟩, e0.hok.fresh (Nat.le_refl _), fun y c h => ?_, fun p hp => absurd (show p ∈ ([] : List (Addr × Obj)) from hp) (by simp), e0.hok.kept hk, ?_⟩
  · exact name_of_addr x.apart (PySem.mem_of_lookup h1) (PySem.mem_of_lookup h2)
  · have hy : scope.names.lookup y = some .cell ∨ scope.names.lookup y = some .free := hy
    rcases hy with hy | hy
    · exact cell_has hy
    · exact absurd rfl (S.nofree _ (PySem.mem_of_lookup hy))
  · exact Nat.le_of_lt (x.above y c (PySem.mem_of_lookup h))
  · have hi : i < vs.length := by
      unfold start at h2
      by_cases hi : i < vs.length
      · exact hi
      · rw [List.getElem?_append_right (by simpa using hi)] at h2
        rw [List.getElem?_replicate] at h2
        split at h2 <;> cases h2
    have ha : vs[i]? = some v := by
      unfold start at h2
      rw [List.getElem?_append_left (by simpa using hi), List.getElem?_map] at h2
      cases e : vs[i]? with
      | none => rw [e] at h2; cases h2
      | some a => rw [e] at h2; cases h2; rfl
    obtain ⟨u, hu, rv⟩ := r.get ha
    have hp : ps[i]? = some y := by
      rw [← S.pre, List.getElem?_take_of_lt (by omega)]; exact h1
    have ndP : ps.Nodup := by rw [← S.pre]; exact S.nd.sublist (List.take_sublist _ _)
    refine ⟨u, rv, ?_⟩
    rcases S.par y (List.mem_of_getElem? hp) with k | k
    · exact .inl ⟨k, bindL_get ndP hp hu k⟩
    · obtain ⟨c, e⟩ := cell_has (n := s.heap.objs.size + 1) k
      refine .inr ⟨.inl k, c, e, ?_⟩
      have q := x.cell y c e
      rw [bindC_get ndP hp hu (by show scope.names.lookup y ≠ _; rw [k]; decide)] at q
      exact q
  · exact e0.hok.fresh (Nat.le_of_lt (x.above y c (PySem.mem_of_lookup h)))
  · unfold start
    show _ = N.length
    rw [List.length_append, List.length_map, List.length_replicate]
    omega

/-- THE RULE: a def (or a method) of the text, by its body. The body's reading t is chosen for each entry; it is run at the parameters' values -/
theorem fn_of {CX : CXT} {P : Program} {w : World} {K : PySem.W.Frag} {mg : Str → Option Value} {base : Heap} {k : Nat} {f : Addr} {name qual : Str} {params : Arguments} {body : List Stmt} {scope : Scope} {dV kV doc pm cdv ct oc : Value} {an od : Option Addr}
    {osl : Array (Option Value)} {N ps : List Str} {sp : Sp} (lk : K.lookup f = some ⟨oc, od, .func (PySem.W.fnOf name qual params body scope dV kV doc pm an cdv ct), osl⟩) (hcd : PySem.W.codeIn K cdv qual = true) (S : FnScope N ps scope)
    (len : ∀ vs H Q E, sp vs H Q E → vs.length = ps.length)
    (hbody : ∀ (A : Around) (outer : List Env) (s : Shared) (H : Hp) (vs : List V) (Q : VK) (E : XK), Room k (A.deeper (envOfC qual scope s.heap.objs.size f cdv)) → sp vs H Q E →
      ∃ t, PSs (cxOf CX P w K mg base N qual scope f cdv A outer s H E) body t ∧ t { nx := fun _ H' => Q .non H', rt := Q } (start N vs) H) :
    FnOk P w K mg base CX (k + 1) f (PySem.W.fnOf name qual params body scope dV kV doc pm an cdv ct) ps sp := by
  refine ⟨len, fun A outer s H args us vs Q E hr e0 hb r hsp => ?_⟩
  have hl := len _ _ _ _ hsp
  have KX : K.In s.heap := e0.mod.kin.keeps fun b o e => (e0.bs b o e).1
  have lim : s.heap.NoLimit := e0.mod.nolimit.keeps fun b o e => (e0.bs b o e).1
  have hkind : ∀ y ∈ ps.zip us, scope.names.lookup y.1 = some .local ∨ (scope.names.lookup y.1 = some .cell ∧ ((cellsFrom (s.heap.objs.size + 1) scope.names []).lookup y.1).isSome = true) := fun ⟨n, v⟩ hy => by
    rcases S.par n (List.of_mem_zip hy).1 with q | q
    · exact .inl q
    · exact .inr ⟨q, PySem.W.cellsFrom_some _ _ _ (.inl q)⟩
  refine codeAny_call_function hr.depth (KX _ _ lk) rfl S.co S.gen rfl (PySem.W.codeRec_of KX hcd) (hb _ _ _ _ ?_)
  refine wpAny_newFunctionEnv_cells S.kind hkind fun env he s1 x => ?_
  subst he
  refine ⟨lim.keeps x.toInCall.keep, codeAny_func ?_⟩
  obtain ⟨t, ht, hq⟩ := hbody A outer s H vs Q E (hr.deeper _) hsp
  have I : Inv (cxOf CX P w K mg base N qual scope f cdv A outer s H E) [] (start N vs) H s1 := inv_start S hr.hd e0 hl r x
  refine wpAny_mono (ht [] s1 (start N vs) H _ I hq) (fun fl s' hs => ?_) fun e s' hs => hs
  have fin : ∀ {σ' : St} {H' : Hp} {v : V} {u : Value}, Inv (cxOf CX P w K mg base N qual scope f cdv A outer s H E) [] σ' H' s' → RelV v u → Q v H' → CE outer P w H s Q u s' :=
    fun {σ' H' v u} J rv q => ⟨v, H', J.os, J.bare, J.base, J.hok, rv, q⟩
  cases fl with
  | ret u =>
    obtain ⟨v, σ', H', J, rv, q⟩ := hs
    exact fin J rv q
  | next =>
    obtain ⟨σ', H', J, q⟩ := hs
    exact fin (v := V.non) (u := Value.none) J rfl q
  | brk =>
    obtain ⟨_, _, _, q⟩ := hs
    exact False.elim q
  | cont =>
    obtain ⟨_, _, _, q⟩ := hs
    exact False.elim q
end L2

namespace L2
open PySem PySem.Spec PyProof.Rows
section
variable {X : Cx} {x : Str} {p pos : Pos} {e : Expr} {es : List Expr} {t : TA} {id T : String} {r : List V → Hp → VK → Prop}

def tCB (r : List V → Hp → VK → Prop) (t : TA) : TE := fun σ H Q => t σ H fun vs H1 => r vs H1 Q
/-- f(e, ..), f a built-in function -/
theorem pe_callB (hc : CallR X (.builtin id) r) (hg : Gl X x) (hm : X.mg x = none) (hv : bootBuiltins x = some (.builtin id)) (ha : PA X (e :: es) t) (hn : x ≠ "__name__" := by decide) (hdb : (x == ("__debug__" : Str)) = false := by decide)
    (he : starEach (e :: es) X.env = (false, eval e X.env) :: starEach es X.env := by rfl) (hpl : (backTo pos (starEach es X.env)).any (·.1) = false := by rfl) : PE X (.Call (.Name x p) (e :: es) [] pos) (tCB r t) := by
  intro pins s σ H Q I h
  refine wpAny_Call_Name_kw (ld_blt I hg hm hv ?_ hn hdb)
  exact PyProof.Rows.callWith_builtin1 (thn (ha pos pins s σ H _ I h) fun us s1 ⟨vs, H1, I1, r1, q1⟩ => hc pins s1 σ H1 vs us Q I1 r1 q1) he hpl
/-- T(e, ..), T a built-in type -/
theorem pe_callTy (hc : CallR X (.type T) r) (hg : Gl X x) (hm : X.mg x = none) (hv : bootBuiltins x = some (.type T)) (ha : PA X (e :: es) t) (hn : x ≠ "__name__" := by decide) (hdb : (x == ("__debug__" : Str)) = false := by decide)
    (he : starEach (e :: es) X.env = (false, eval e X.env) :: starEach es X.env := by rfl) (hpl : (backTo pos (starEach es X.env)).any (·.1) = false := by rfl) : PE X (.Call (.Name x p) (e :: es) [] pos) (tCB r t) := by
  intro pins s σ H Q I h
  refine wpAny_Call_Name_kw (ld_blt I hg hm hv ?_ hn hdb)
  exact PyProof.Rows.callWith_type1 (thn (ha pos pins s σ H _ I h) fun us s1 ⟨vs, H1, I1, r1, q1⟩ => hc pins s1 σ H1 vs us Q I1 r1 q1) he hpl
end
end L2

namespace HT
open PySem PyProof.Rows

section
open PySem.SeqAt
open PySem.AutoSeq1 (wpAny_loadPart')
open PySem.MeetsSeq PySem.MeetsSeq2 PySem.MeetsSeq3

end

section
variable {prog : Program} {w : World} {A : Around} {E : Value → Shared → Prop} {s : Shared}

/-! ### t[a:b], not the whole -/
/-- a slice's bound as a place among n (d where it is left out) -/
def sIx (n d : Nat) : Option Int → Nat
  | none => d
  | some v => if v < 0 then (v + (n : Int)).toNat else min v.toNat n
theorem sIx_none (n d : Nat) : sIx n d none = d := rfl
theorem sIx_nat (n d k : Nat) : sIx n d (some (k : Int)) = min k n := by
  show (if (k : Int) < 0 then ((k : Int) + (n : Int)).toNat else min (k : Int).toNat n) = min k n
  rw [if_neg (by omega), Int.toNat_natCast]
theorem sIx_le (n d : Nat) (hd : d ≤ n) (o : Option Int) : sIx n d o ≤ n := by
  cases o with
  | none => exact hd
  | some v =>
    show (if v < 0 then (v + (n : Int)).toNat else min v.toNat n) ≤ n
    by_cases hv : v < 0
    · rw [if_pos hv]; omega
    · rw [if_neg hv]; exact Nat.min_le_right _ _
theorem clip_eq (v : Int) (n d : Nat) : (if v < 0 then max (v + (n : Int)) 0 else min v (n : Int)) = ((sIx n d (some v) : Nat) : Int) := by
  show (if v < 0 then max (v + (n : Int)) 0 else min v (n : Int)) = (((if v < 0 then (v + (n : Int)).toNat else min v.toNat n) : Nat) : Int)
  by_cases hv : v < 0
  · simp only [if_pos hv]; omega
  · simp only [if_neg hv]; omega
theorem adjust_gen (lo hi : Option Int) (n : Nat) : Builtin.Slice.sliceAdjust lo hi 1 (n : Int) = (((sIx n 0 lo : Nat) : Int), ((sIx n n hi : Nat) : Int)) := by
  have h1 : ¬ ((1 : Int) < 0) := by omega
  unfold Builtin.Slice.sliceAdjust
  simp only [h1, if_false]
  refine Prod.ext ?_ ?_
  · cases lo with
    | none => rfl
    | some v => exact clip_eq v n 0
  · cases hi with
    | none => rfl
    | some v => exact clip_eq v n n
theorem places_gen (i j : Nat) : Builtin.Slice.slicePlaces (i : Int) (j : Int) 1 = j - i := by
  unfold Builtin.Slice.slicePlaces
  have h1 : (1 : Int) > 0 := by omega
  simp only [h1, if_true, Int.ediv_one]
  split <;> omega
theorem slicePart_ {v : Value} {o : Option Int} {Q : Option Int → Shared → Prop} (p : IsPart v o) (h : Q o s) : wpAny (model prog w) A (Builtin.Slice.slicePartIndex v) Q E s := by
  cases p with
  | none => exact slicePart_none h
  | int i t => exact slicePart_int h
theorem sliceApplied_gen {sl : Addr} {vl vu : Value} {lo hi : Option Int} {n : Nat} {Q : Int × Int × Nat → Shared → Prop} (hs : s.heap.IsSliceOf sl vl vu .none) (pl : IsPart vl lo) (pu : IsPart vu hi)
    (h : Q (((sIx n 0 lo : Nat) : Int), 1, sIx n n hi - sIx n 0 lo) s) : wpAny (model prog w) A (Builtin.Slice.sliceApplied (.ref sl) (pure (n : Int))) Q E s := by
  obtain ⟨os, hos, hcs, hds⟩ := id hs
  unfold Builtin.Slice.sliceApplied Builtin.Slice.sliceFields
  refine wpAny_bind (wpAny_bind (wpAny_field hos hds (x := vl) rfl (wpAny_bind (wpAny_field hos hds (x := vu) rfl (wpAny_bind (wpAny_field hos hds (x := .none) rfl (wpAny_pure ?_)))))))
  refine wpAny_bind (slicePart_none ?_)
  show wpAny _ _ (if ((1 : Int) == 0) = true then _ else _) _ _ s
  rw [if_neg (by decide)]
  refine wpAny_bind (slicePart_ pl (wpAny_bind (slicePart_ pu (wpAny_bind (wpAny_pure ?_)))))
  show wpAny _ _ (match Builtin.Slice.sliceAdjust lo hi 1 (n : Int) with | (lo, hi) => pure (lo, (1 : Int), Builtin.Slice.slicePlaces lo hi 1)) _ _ s
  rw [adjust_gen lo hi n]
  show wpAny _ _ (pure (((sIx n 0 lo : Nat) : Int), (1 : Int), Builtin.Slice.slicePlaces ((sIx n 0 lo : Nat) : Int) ((sIx n n hi : Nat) : Int) 1)) _ _ s
  rw [places_gen]
  exact wpAny_pure h
theorem pick_gen (xs : Array Value) (i k : Nat) : ((List.range k).filterMap fun (m : Nat) => xs[((i : Int) + (m : Int) * 1).toNat]?).toArray = ((xs.toList.drop i).take k).toArray := by
  have e : (fun (m : Nat) => xs[((i : Int) + (m : Int) * 1).toNat]?) = fun m => xs[i + m]? := by
    funext m
    have : ((i : Int) + (m : Int) * 1).toNat = i + m := by omega
    rw [this]
  rw [e]
  have := pick_run xs i k
  rw [List.filterMap_map] at this
  have e2 : ((fun x => xs[x]?) ∘ fun x => i + x) = fun m => xs[i + m]? := rfl
  rw [e2] at this
  rw [this]

theorem getItem_tuple_cut {t sl : Addr} {items : Array Value} {vl vu : Value} {lo hi : Option Int} {Q : Value → Shared → Prop} (ht : IsTup s.heap t items) (hs : s.heap.IsSliceOf sl vl vu .none) (pl : IsPart vl lo) (pu : IsPart vu hi)
    (hw : ¬ (sIx items.size 0 lo = 0 ∧ sIx items.size items.size hi = items.size))
    (h : Q (.ref s.heap.objs.size) { s with heap := s.heap.push { cls := .type "tuple", data := .seq ((items.toList.drop (sIx items.size 0 lo)).take (sIx items.size items.size hi - sIx items.size 0 lo)).toArray } })
    (hsz : items.size ≤ sizeLine) : wpAny (model prog w) A (getItem (.ref t) (.ref sl)) Q E s := by
  have htake : sizeOk (.seq ((items.toList.drop (sIx items.size 0 lo)).take (sIx items.size items.size hi - sIx items.size 0 lo)).toArray) := by
    show ((items.toList.drop (sIx items.size 0 lo)).take (sIx items.size items.size hi - sIx items.size 0 lo)).toArray.size ≤ sizeLine
    rw [List.size_toArray, List.length_take, List.length_drop, Array.length_toList]
    omega
  have hj : sIx items.size items.size hi ≤ items.size := sIx_le _ _ (Nat.le_refl _) hi
  obtain ⟨os, hos, hcs, hds⟩ := id hs
  have hTs : s.TypeIs (.ref sl) "slice" := ⟨os, hos, hcs⟩
  unfold getItem
  try with_reducible refine wpAny_holding ?_
  first | refine wpAny_bind (wpAny_pure ?_) | skip
  refine wpAny_bind (wpAny_sequenceKey ht.typeIs (by decide) ?_)
  refine wpAny_bind (wpAny_callSpecial?_slot (name := Str.ofString "__getitem__") ht.typeIs PyProof.Rows.slot_tuple_getitem
    (wpAny_call_entry PyProof.Rows.slot_tuple_getitem ht.typeIs entry_tuple_getitem ?_ (args_tuple_getitem _ _)))
  show wpAny _ _ (Builtin.Tuple.tupleItemsOf (.ref t) >>= _) _ _ s
  refine wpAny_bind (tupleItemsOf_ ht ?_)
  refine wpAny_bind (wpAny_typeOf hTs ?_)
  rw [if_pos (by decide)]
  refine wpAny_bind (sliceApplied_gen hs pl pu ?_)
  have hno : ¬ ((((sIx items.size 0 lo : Nat) : Int) == 0 && (1 : Int) == 1 && (sIx items.size items.size hi - sIx items.size 0 lo) == items.size) = true) := by
    intro q
    rw [Bool.and_eq_true, Bool.and_eq_true] at q
    have q1 : ((sIx items.size 0 lo : Nat) : Int) = 0 := eq_of_beq q.1.1
    have q2 : sIx items.size items.size hi - sIx items.size 0 lo = items.size := eq_of_beq q.2
    exact hw ⟨by omega, by omega⟩
  show wpAny _ _ (if (((sIx items.size 0 lo : Nat) : Int) == 0 && (1 : Int) == 1 && (sIx items.size items.size hi - sIx items.size 0 lo) == items.size) = true then _ else _) _ _ s
  rw [if_neg hno, pick_gen]
  first
    | exact wpAny_bind (m := Builtin.Tuple.tupleExact _) (wpAny_newObj_type (wpAny_pure ⟨_, rfl, wpAny_pure h⟩) htake)
    | exact wpAny_bind (m := Builtin.Tuple.tupleExact _) (wpAny_newObj_type (wpAny_bind (wpAny_pure (wpAny_pure ⟨_, rfl, wpAny_pure h⟩))) htake)
    | exact wpAny_bind (wpAny_bind (m := Builtin.Tuple.tupleExact _) (wpAny_newObj_type (wpAny_pure (wpAny_pure ⟨_, rfl, wpAny_pure h⟩)) htake))
    | exact wpAny_bind (wpAny_bind (m := Builtin.Tuple.tupleExact _) (wpAny_newObj_type (wpAny_pure ⟨_, rfl, wpAny_pure h⟩) htake))
end
end HT

namespace L2
open PySem PySem.Spec PyProof.Rows

/-! ### the parts of a slice -/
abbrev TO := St → Hp → (Option Int → Hp → Prop) → Prop
/-- a slice's part (left out, or an int) -/
def PO (X : Cx) (e : Option Expr) (t : TO) : Prop :=
  ∀ (pins : List (Addr × Obj)) (s : Shared) (σ : St) (H : Hp) (Q : Option Int → Hp → Prop), Inv X pins σ H s → t σ H Q →
    wpAny (model X.prog X.w) X.A (evalPart e X.env) (fun u s' => ∃ o H', Inv X pins σ H' s' ∧ IsPart u o ∧ Q o H') X.xe s
def tNoPart : TO := fun _ H Q => Q none H
inductive PartR (x : V) (H : Hp) (Q : Option Int → Hp → Prop) : Prop
  | mk (i : Int) (h : x = .int i) (k : Q (some i) H) : PartR x H Q
def tPart (t : TE) : TO := fun σ H Q => t σ H fun x H1 => PartR x H1 Q

theorem intsAre_of {ns : List Int} : ∀ {us : List Value}, Vals (ns.map V.int) us → IntsAre us ns := by
  induction ns with
  | nil => intro us r; rw [List.map_nil] at r; cases r; exact .nil
  | cons n ns ih =>
    intro us r
    rw [List.map_cons] at r
    cases r with
    | cons r1 r2 =>
      obtain ⟨t, e⟩ := r1
      subst e
      exact .cons n t (ih r2)

section
variable {X : Cx} {e : Expr} {te : TE} {lo hi : Option Expr} {tl th : TO} {pos p2 : Pos}

theorem po_none : PO X none tNoPart := by
  intro pins s σ H Q I h
  rw [evalPart_none]
  exact wpAny_pure ⟨none, H, I, .none, h⟩
theorem po_some (h : PE X e te) : PO X (some e) (tPart te) := by
  intro pins s σ H Q I hw
  rw [evalPart_some]
  refine thn (h pins s σ H _ I hw) fun u s1 ⟨x, H1, I1, r1, q1⟩ => ?_
  obtain ⟨i, rfl, q⟩ := q1
  obtain ⟨t, rfl⟩ := r1
  exact ⟨some i, H1, I1, .int i t, q⟩

/-- what a slice of a value is, by values: the slice object stands at sl -/
def SlR (X : Cx) (r : V → Option Int → Option Int → Hp → VK → Prop) : Prop :=
  ∀ (pins : List (Addr × Obj)) (s : Shared) (σ : St) (H : Hp) (x : V) (v vl vu : Value) (lo hi : Option Int) (sl : Addr) (Q : VK), Inv X pins σ H s → RelV x v → s.heap.IsSliceOf sl vl vu .none → IsPart vl lo → IsPart vu hi → r x lo hi H Q →
    ∃ T id, typeLookup (.type T) "__getitem__" = pure (some (.builtin id)) ∧ s.TypeIs v T ∧ wpAny (model X.prog X.w) X.A (getItem v (.ref sl)) (EP X pins σ Q) X.xe s
def tSl (r : V → Option Int → Option Int → Hp → VK → Prop) (te : TE) (tl th : TO) : TE := fun σ H Q => te σ H fun x H1 => tl σ H1 fun l H2 => th σ H2 fun u H3 => r x l u H3 Q
/-- a[lo:hi], any a -/
theorem pe_slice {r : V → Option Int → Option Int → Hp → VK → Prop} (hr : SlR X r) (he : PE X e te) (hl : PO X lo tl) (hu : PO X hi th) : PE X (.Subscript e (.Slice lo hi none p2) pos) (tSl r te tl th) := by
  intro pins s σ H Q I h
  refine Subscript_ (thn (he pins s σ H _ I h) fun v s1 ⟨x, H1, I1, r1, q1⟩ => ?_)
  refine wpAny_Slice (thn (hl pins s1 σ H1 _ I1 q1) fun vl s2 ⟨l, H2, I2, pl, q2⟩ => thn (hu pins s2 σ H2 _ I2 q2) fun vu s3 ⟨u, H3, I3, pu, q3⟩ => ?_)
  rw [evalPart_none]
  refine wpAny_pure ?_
  have I4 : Inv X pins σ H3 { s3 with heap := s3.heap.push { cls := .type "slice", data := .fields #[vl, vu, .none] } } := I3.kept (t' := s3.toks) fun b ob q => Heap.get?_push_of_some _ q
  obtain ⟨T, id, hT, ht, hg⟩ := hr pins { s3 with heap := s3.heap.push { cls := .type "slice", data := .fields #[vl, vu, .none] } } σ H3 x v vl vu l u s3.heap.objs.size Q I4 r1 (Heap.IsSliceOf.new ..) pl pu q3
  show wpAny (model X.prog X.w) X.A (subscriptTail e (.Slice lo hi none p2) v (.ref s3.heap.objs.size)) (EP X pins σ Q) X.xe { s3 with heap := s3.heap.push { cls := .type "slice", data := .fields #[vl, vu, .none] } }
  exact tail_any (ops := [.ref s3.heap.objs.size, v]) ht hT hg (by with_unfolding_all rfl)

/-- the items of xs[lo:hi] -/
def cutV (xs : List V) (lo hi : Option Int) : List V := (xs.drop (HT.sIx xs.length 0 lo)).take (HT.sIx xs.length xs.length hi - HT.sIx xs.length 0 lo)
theorem cutV_length (xs : List V) (lo hi : Option Int) : (cutV xs lo hi).length ≤ xs.length := by
  unfold cutV
  rw [List.length_take, List.length_drop]
  omega
/-- t[lo:hi], not the whole of it (the whole would be t itself) -/
inductive rSlT_R (K : PySem.W.Frag) (x : V) (lo : Option Int) (hi : Option Int) (H : Hp) (Q : VK) : Prop
  | mk (a : _) (xs : _) (h0 : x = .ref a) (h1 : SqT K H a xs) (h2 : ¬ (HT.sIx xs.length 0 lo = 0 ∧ HT.sIx xs.length xs.length hi = xs.length)) (h3 : ∀ p, H p = none → Q (.ref p) (upd H p (.tup (cutV xs lo hi)))) : rSlT_R K x lo hi H Q
def rSlT (K : PySem.W.Frag) : V → Option Int → Option Int → Hp → VK → Prop := fun x lo hi H Q => rSlT_R K x lo hi H Q
theorem sl_tup : SlR X (rSlT X.K) := by
  intro pins s σ H x v vl vu lo hi sl Q I rx hs pl pu h
  obtain ⟨a, xs, rfl, hx, hw, q⟩ := h
  cases rx
  obtain ⟨its, r, ht, hz⟩ := I.tuple hx
  have hlen : its.toArray.size = xs.length := by rw [List.size_toArray]; exact r.length.symm
  refine ⟨"tuple", _, PyProof.Rows.slot_tuple_getitem.lookup, ht.typeIs, ?_⟩
  refine HT.getItem_tuple_cut ht hs pl pu (by rw [hlen]; exact hw) ?_ (by rw [hlen]; exact hz)
  rw [hlen]
  refine ⟨.ref s.heap.objs.size, _, I.laid (t' := s.toks) (o := .tup (cutV xs lo hi)) (fun b ob q => Heap.get?_push_of_some _ q) (Nat.le_refl _) ?_, rfl, q _ (I.hok.fresh (Nat.le_refl _))⟩
  exact ⟨Nat.le_trans (cutV_length xs lo hi) hz, _, (r.drop (HT.sIx xs.length 0 lo)).take (HT.sIx xs.length xs.length hi - HT.sIx xs.length 0 lo), IsTup.new _ _⟩

/-! ### t < u, t + u -/
end
end L2

namespace L2
open PySem PySem.Spec PyProof.Rows

/-! ### places -/
/-- the place that an index of any sign means -/
def ixN (n : Nat) (i : Int) : Option Nat := if 0 ≤ i then (if i < n then some i.toNat else none) else if -(n : Int) ≤ i then some (i + n).toNat else none
def atI {α : Type} (xs : List α) (i : Int) : Option α := (ixN xs.length i).bind fun j => xs[j]?
theorem ixN_seq {n : Nat} {i : Int} {j : Nat} (h : ixN n i = some j) : seqIndex? i n = some j ∧ j < n ∧ -(n : Int) ≤ i ∧ i < n := by
  unfold ixN at h
  by_cases h0 : 0 ≤ i
  · rw [if_pos h0] at h
    by_cases h1 : i < n
    · rw [if_pos h1] at h
      have e : i.toNat = j := Option.some.inj h
      exact ⟨by rw [seqIndex_of h0 h1, e], by omega, by omega, h1⟩
    · rw [if_neg h1] at h; cases h
  · rw [if_neg h0] at h
    by_cases h1 : -(n : Int) ≤ i
    · rw [if_pos h1] at h
      have e : (i + n).toNat = j := Option.some.inj h
      exact ⟨by rw [seqIndex_neg (by omega) h1, e], by omega, h1, by omega⟩
    · rw [if_neg h1] at h; cases h
theorem atI_get {α : Type} {xs : List α} {i : Int} {v : α} (h : atI xs i = some v) : ∃ j, seqIndex? i xs.length = some j ∧ xs[j]? = some v ∧ j < xs.length ∧ -(xs.length : Int) ≤ i ∧ i < xs.length := by
  unfold atI at h
  cases e : ixN xs.length i with
  | none => rw [e] at h; cases h
  | some j =>
    rw [e] at h
    obtain ⟨h1, h2, h3, h4⟩ := ixN_seq e
    exact ⟨j, h1, h, h2, h3, h4⟩
theorem atI_nat {α : Type} {xs : List α} {j : Nat} {v : α} (h : xs[j]? = some v) : atI xs (j : Int) = some v := by
  have hj : j < xs.length := (List.getElem?_eq_some_iff.mp h).1
  have e : ixN xs.length (j : Int) = some j := by
    unfold ixN
    rw [if_pos (by omega), if_pos (by omega)]; simp
  unfold atI; rw [e]; exact h
/-! ### what may be subscripted -/
/-- what stands as an index of a plain subscript -/
def PlainIx (b : Expr) : Prop := ∀ o i, subscripted b false o i = operate [o, i] (getItem o i)
/-- a subscript by values -/
def IxR (X : Cx) (r : R2) : Prop :=
  ∀ (value slice : Expr) (pins : List (Addr × Obj)) (s : Shared) (σ : St) (H : Hp) (x y : V) (v u : Value) (Q : VK), Inv X pins σ H s → RelV x v → RelV y u → r x y H Q →
    subscripted slice false v u = operate [v, u] (getItem v u) → wpAny (model X.prog X.w) X.A (subscriptTail value slice v u) (EP X pins σ Q) X.xe s
/-- a call of a builtin's method by values: the receiver, the arguments -/
def MtR (X : Cx) (id : String) (r : V → List V → Hp → VK → Prop) : Prop :=
  ∀ (pins : List (Addr × Obj)) (s : Shared) (σ : St) (H : Hp) (x : V) (xs : List V) (v : Value) (us : List Value) (Q : VK), Inv X pins σ H s → RelV x v → Vals xs us → r x xs H Q →
    wpAny (model X.prog X.w) X.A (call (.builtin id) (v :: us)) (EP X pins σ Q) X.xe s
section
variable {X : Cx} {a b : Expr} {ta tb : TE} {pos : Pos}
/-- a[b] -/
theorem pe_ix {r : R2} (hr : IxR X r) (ha : PE X a ta) (hb : PE X b tb) (hs : PlainIx b) : PE X (.Subscript a b pos) (tOp r ta tb) := by
  intro pins s σ H Q I h
  exact Subscript_ (binT ha hb I h fun v u s2 x y H2 I2 rx ry q => hr a b pins s2 σ H2 x y v u Q I2 rx ry q (hs _ _))

inductive rIxL_R (K : PySem.W.Frag) (x : V) (y : V) (H : Hp) (Q : VK) : Prop
  | mk (p : _) (xs : _) (i : _) (v : _) (h0 : x = .ref p) (h1 : y = .int i) (h2 : SqL K H p xs) (h3 : atI xs i = some v) (h4 : Q v H) : rIxL_R K x y H Q
def rIxL (K : PySem.W.Frag) : R2 := fun x y H Q => rIxL_R K x y H Q
inductive rIxT_R (K : PySem.W.Frag) (x : V) (y : V) (H : Hp) (Q : VK) : Prop
  | mk (p : _) (xs : _) (i : _) (v : _) (h0 : x = .ref p) (h1 : y = .int i) (h2 : SqT K H p xs) (h3 : atI xs i = some v) (h4 : Q v H) : rIxT_R K x y H Q
def rIxT (K : PySem.W.Frag) : R2 := fun x y H Q => rIxT_R K x y H Q
inductive rIxS_R (x : V) (y : V) (H : Hp) (Q : VK) : Prop
  | mk (z : _) (i : _) (c : _) (h0 : x = .str z) (h1 : y = .int i) (h2 : z.length ≤ sizeLine) (h3 : atI z.cps.toList i = some c) (h4 : Q (.str ⟨#[c]⟩) H) : rIxS_R x y H Q
def rIxS : R2 := fun x y H Q => rIxS_R x y H Q
theorem ix_list : IxR X (rIxL X.K) := by
  intro value slice pins s σ H x y v u Q I rx ry h hs
  obtain ⟨p, xs, i, z, rfl, rfl, hq, he, q⟩ := h
  cases rx
  obtain ⟨t, rfl⟩ := ry
  obtain ⟨its, r, pl, hz⟩ := I.list hq
  obtain ⟨j, h1, h2, h3, h4, h5⟩ := atI_get he
  obtain ⟨w, ew, rw'⟩ := r.get h2
  have hl := r.length
  have hn := line63
  have fin : EP X pins σ Q w s := ⟨z, H, I, rw', q⟩
  by_cases h0 : 0 ≤ i
  · have hj : i.toNat = j := by
      rw [seqIndex_of h0 h5] at h1
      exact Option.some.inj h1
    exact item_listR pl.isList h0 (by omega) (by rw [hj]; simpa using ew) fin hs
  · have hj : (i + (its.toArray.size : Int)).toNat = j := by
      rw [seqIndex_neg (by omega) h4] at h1
      rw [List.size_toArray, ← hl]
      exact Option.some.inj h1
    exact subscriptTail_builtinR (x := w) pl.isList.typeIs slot_list_getitem.lookup
      (wpAny_getItem_list_neg (Q := fun r s' => r = w ∧ EP X pins σ Q r s') pl.isList (by omega) (by rw [List.size_toArray] <;> omega) (by omega) (by rw [hj]; simpa using ew) ⟨rfl, fin⟩) hs
theorem ix_tup : IxR X (rIxT X.K) := by
  intro value slice pins s σ H x y v u Q I rx ry h hs
  obtain ⟨p, xs, i, z, rfl, rfl, hq, he, q⟩ := h
  cases rx
  obtain ⟨t, rfl⟩ := ry
  obtain ⟨its, r, pl, hz⟩ := I.tuple hq
  obtain ⟨j, h1, h2, h3, h4, h5⟩ := atI_get he
  obtain ⟨w, ew, rw'⟩ := r.get h2
  have hl := r.length
  have hn := line63
  have fin : EP X pins σ Q w s := ⟨z, H, I, rw', q⟩
  exact subscriptTail_builtinR (x := w) pl.typeIs slot_tuple_getitem.lookup
    (getItem_tuple (j := j) (Q := fun r s' => r = w ∧ EP X pins σ Q r s') pl (by omega) (by omega) (by rw [List.size_toArray, ← hl]; exact h1) (by simpa using ew) ⟨rfl, fin⟩) hs
theorem ix_str : IxR X rIxS := by
  intro value slice pins s σ H x y v u Q I rx ry h hs
  obtain ⟨z, i, c, rfl, rfl, hz, he, q⟩ := h
  obtain ⟨t, rfl⟩ := rx
  obtain ⟨t', rfl⟩ := ry
  obtain ⟨j, h1, h2, h3, h4, h5⟩ := atI_get he
  have hl : z.cps.toList.length = z.length := by simp [Str.length]
  rw [hl] at h1 h4 h5
  have hn := line63
  exact tail_any (typeIs_str s z t) slot_str_getitem.lookup (getItem_str (c := c) (by
    have e1 : decide (i < -(2 ^ 63 : Int)) = false := decide_eq_false (by omega)
    have e2 : decide (i ≥ 2 ^ 63) = false := decide_eq_false (by omega)
    rw [e1, e2, Bool.or_false]) (by rw [h1]; simpa using h2) ⟨.str ⟨#[c]⟩, H, I.tok _, ⟨_, rfl⟩, q⟩) hs
/-! ### xs[i] = v, any sign -/
/-! ### slices -/
theorem slice_bounds (lo hi : Option Int) (n : Nat) : (sliceBounds lo hi none n).1 = ((HT.sIx n 0 lo : Nat) : Int) ∧ (sliceBounds lo hi none n).2.1 = ((HT.sIx n n hi : Nat) : Int) ∧ (sliceBounds lo hi none n).2.2 = 1 := by
  refine ⟨?_, ?_, rfl⟩
  · cases lo with
    | none => simp [sliceBounds, HT.sIx]
    | some i =>
      simp only [sliceBounds, HT.sIx, Option.getD_none, show (1 : Int) > 0 by decide, if_true]
      by_cases h : i < 0
      · simp only [h, if_true] <;> omega
      · simp only [h, if_false] <;> omega
  · cases hi with
    | none => simp [sliceBounds, HT.sIx]
    | some i =>
      simp only [sliceBounds, HT.sIx, Option.getD_none, show (1 : Int) > 0 by decide, if_true]
      by_cases h : i < 0
      · simp only [h, if_true] <;> omega
      · simp only [h, if_false] <;> omega
theorem slicePick_cut (its : List Value) (lo hi : Option Int) : slicePick its.toArray lo hi none = ((its.drop (HT.sIx its.length 0 lo)).take (HT.sIx its.length its.length hi - HT.sIx its.length 0 lo)).toArray := by
  obtain ⟨h1, h2, h3⟩ := slice_bounds lo hi its.toArray.size
  unfold slicePick
  rw [h1, h2, h3]
  simp only [sliceRange_one, pick_run, List.size_toArray] <;> rfl
/-- xs[lo:hi] of a list: a new list -/
inductive rSlL_R (K : PySem.W.Frag) (x : V) (lo : Option Int) (hi : Option Int) (H : Hp) (Q : VK) : Prop
  | mk (a : _) (xs : _) (h0 : x = .ref a) (h1 : SqL K H a xs) (h2 : ∀ p, H p = none → Q (.ref p) (upd H p (.lst (cutV xs lo hi)))) : rSlL_R K x lo hi H Q
def rSlL (K : PySem.W.Frag) : V → Option Int → Option Int → Hp → VK → Prop := fun x lo hi H Q => rSlL_R K x lo hi H Q
theorem sl_list : SlR X (rSlL X.K) := by
  intro pins s σ H x v vl vu lo hi sl Q I rx hs pl pu h
  obtain ⟨a, xs, rfl, hx, q⟩ := h
  cases rx
  obtain ⟨its, r, ht, hz⟩ := I.list hx
  have hlen := r.length
  refine ⟨"list", _, slot_list_getitem.lookup, ht.isList.typeIs, ?_⟩
  refine wpAny_getItem_list_slice ht.isList hs pl pu .none (by simp) ?_ (by rw [List.size_toArray] <;> omega)
  rw [slicePick_cut, ← hlen]
  refine ⟨.ref s.heap.objs.size, _, I.laid (t' := s.toks) (o := .lst (cutV xs lo hi)) (fun b ob q => Heap.get?_push_of_some _ q) (Nat.le_refl _) ?_, rfl, q _ (I.hok.fresh (Nat.le_refl _))⟩
  exact ⟨Nat.le_trans (cutV_length xs lo hi) hz, _, 0, (r.drop (HT.sIx xs.length 0 lo)).take (HT.sIx xs.length xs.length hi - HT.sIx xs.length 0 lo), Heap.get?_push_size _ rfl⟩

/-! ### in, not in: flat items -/
def flatV : V → Bool
  | .non => true
  | .bl _ => true
  | .int _ => true
  | .str _ => true
  | _ => false
/-- == of flat values -/
def eqV : V → V → Bool
  | .non, .non => true
  | .bl a, .bl b => a == b
  | .bl a, .int b => (if a then 1 else 0) == b
  | .int a, .bl b => a == (if b then 1 else 0)
  | .int a, .int b => a == b
  | .str a, .str b => a == b
  | _, _ => false
theorem eqAt_V {A : Around} {s : Shared} {y x : V} {u v : Value} (ry : RelV y u) (rx : RelV x v) (fy : flatV y = true) (fx : flatV x = true) : SeqAt.EqAt A s u v (eqV y x) := by
  cases y with
  | non =>
    cases ry
    cases x with
    | non => cases rx; exact SeqAt.EqAt.same _
    | bl b => cases rx; exact SeqAt.EqAt.none_bool b
    | int b => obtain ⟨t, rfl⟩ := rx; exact SeqAt.EqAt.none_int b t
    | str b => obtain ⟨t, rfl⟩ := rx; exact SeqAt.EqAt.none_str b t
    | _ => exact absurd (show false = true from fx) Bool.false_ne_true
  | bl a =>
    cases ry
    cases x with
    | non => cases rx; exact SeqAt.EqAt.bool_none a
    | bl b => cases rx; exact SeqAt.EqAt.bool_bool a b
    | int b => obtain ⟨t, rfl⟩ := rx; exact SeqAt.EqAt.bool_int a b t
    | str b => obtain ⟨t, rfl⟩ := rx; exact SeqAt.EqAt.bool_str a b t
    | _ => exact absurd (show false = true from fx) Bool.false_ne_true
  | int a =>
    obtain ⟨t', rfl⟩ := ry
    cases x with
    | non => cases rx; exact SeqAt.EqAt.int_none a t'
    | bl b => cases rx; exact SeqAt.EqAt.int_bool a t' b
    | int b => obtain ⟨t, rfl⟩ := rx; exact SeqAt.EqAt.int_int a t' b t
    | str b => obtain ⟨t, rfl⟩ := rx; exact SeqAt.EqAt.int_str a t' b t
    | _ => exact absurd (show false = true from fx) Bool.false_ne_true
  | str a =>
    obtain ⟨t', rfl⟩ := ry
    cases x with
    | non => cases rx; exact SeqAt.EqAt.str_none a t'
    | bl b => cases rx; exact SeqAt.EqAt.str_bool a t' b
    | int b => obtain ⟨t, rfl⟩ := rx; exact SeqAt.EqAt.str_int a t' b t
    | str b => obtain ⟨t, rfl⟩ := rx; exact SeqAt.EqAt.str_str a t' b t
    | _ => exact absurd (show false = true from fx) Bool.false_ne_true
  | _ => exact absurd (show false = true from fy) Bool.false_ne_true
/-- the items' answers, read off the values (a value's own answer does not lean on its token) -/
def eqU (x : V) (u : Value) : Bool := match u with
  | .none => eqV .non x
  | .bool b => eqV (.bl b) x
  | .int i _ => eqV (.int i) x
  | .str z _ => eqV (.str z) x
  | _ => false
theorem eqU_of {x y : V} {u : Value} (r : RelV y u) (f : flatV y = true) : eqU x u = eqV y x := by
  cases y with
  | non => cases r; rfl
  | bl b => cases r; rfl
  | int i => obtain ⟨t, rfl⟩ := r; rfl
  | str z => obtain ⟨t, rfl⟩ := r; rfl
  | _ => exact absurd (show false = true from f) Bool.false_ne_true
theorem any_eqU {x : V} : ∀ {xs : List V} {us : List Value}, Vals xs us → xs.all flatV = true → us.any (eqU x) = xs.any fun y => eqV y x
  | _, _, .nil, _ => rfl
  | y :: xs, u :: us, .cons r t, f => by
    rw [List.all_cons, Bool.and_eq_true] at f
    rw [List.any_cons, List.any_cons, eqU_of r f.1, any_eqU t f.2]
theorem mem_eqAt {A : Around} {s : Shared} {x : V} {v : Value} (rx : RelV x v) (fx : flatV x = true) : ∀ {xs : List V} {us : List Value}, Vals xs us → xs.all flatV = true → ∀ u ∈ us, SeqAt.EqAt A s u v (eqU x u)
  | _, _, .nil, _ => fun u hu => by cases hu
  | y :: xs, u :: us, .cons r t, f => fun u' hu => by
    rw [List.all_cons, Bool.and_eq_true] at f
    rcases List.mem_cons.mp hu with rfl | hu
    · rw [eqU_of r f.1]; exact eqAt_V r rx f.1 fx
    · exact mem_eqAt rx fx t f.2 u' hu
def inV (x : V) (xs : List V) : Bool := xs.any fun y => eqV y x
/-- x in a list or tuple of flat items -/
inductive rIn_R (K : PySem.W.Frag) (neg : Bool) (x : V) (y : V) (H : Hp) (Q : VK) : Prop
  | mk (p : _) (xs : _) (h0 : y = .ref p) (h1 : (SqL K H p xs ∨ SqT K H p xs)) (h2 : flatV x = true) (h3 : xs.all flatV = true) (h4 : Q (.bl (if neg then !inV x xs else inV x xs)) H) : rIn_R K neg x y H Q
def rIn (K : PySem.W.Frag) (neg : Bool) : R2 := fun x y H Q => rIn_R K neg x y H Q
theorem op_in_seq : OpR X (compareOp .In) (rIn X.K false) := by
  intro pins s σ H x y v u Q I rx ry h
  obtain ⟨p, xs, rfl, hq, fx, fs, q⟩ := h
  cases ry
  rcases hq with hq | hq
  · obtain ⟨its, r, pl, hz⟩ := I.list hq
    refine SeqAt.in_listAt (eqU x) pl.isList (fun w hw => mem_eqAt rx fx r fs w (by simpa using hw)) ⟨.bl _, H, I, rfl, ?_⟩
    rw [show its.toArray.any (eqU x) = its.any (eqU x) by simp, any_eqU r fs]
    exact q
  · obtain ⟨its, r, pl, hz⟩ := I.tuple hq
    refine SeqAt.in_tupleAt (eqU x) pl (fun w hw => mem_eqAt rx fx r fs w (by simpa using hw)) ⟨.bl _, H, I, rfl, ?_⟩
    rw [show its.toArray.any (eqU x) = its.any (eqU x) by simp, any_eqU r fs]
    exact q
theorem op_notIn_seq : OpR X (compareOp .NotIn) (rIn X.K true) := by
  intro pins s σ H x y v u Q I rx ry h
  obtain ⟨p, xs, rfl, hq, fx, fs, q⟩ := h
  cases ry
  rcases hq with hq | hq
  · obtain ⟨its, r, pl, hz⟩ := I.list hq
    refine SeqAt.notIn_listAt (eqU x) pl.isList (fun w hw => mem_eqAt rx fx r fs w (by simpa using hw)) ⟨.bl _, H, I, rfl, ?_⟩
    rw [show its.toArray.any (eqU x) = its.any (eqU x) by simp, any_eqU r fs]
    exact q
  · obtain ⟨its, r, pl, hz⟩ := I.tuple hq
    refine SeqAt.notIn_tupleAt (eqU x) pl (fun w hw => mem_eqAt rx fx r fs w (by simpa using hw)) ⟨.bl _, H, I, rfl, ?_⟩
    rw [show its.toArray.any (eqU x) = its.any (eqU x) by simp, any_eqU r fs]
    exact q
/-! ### len, list(x), tuple(x) of any list or tuple that is read -/
theorem call_len_seq : CallR X (.builtin "len") (fun xs H Q => ∃ p ys, xs = [.ref p] ∧ (SqL X.K H p ys ∨ SqT X.K H p ys) ∧ Q (.int ys.length) H) := by
  intro pins s σ H xs us Q I r h
  obtain ⟨p, ys, rfl, hq, q⟩ := h
  obtain ⟨u, rfl, rx⟩ := vals1 r
  cases rx
  have hn := line63
  rcases hq with hq | hq
  · obtain ⟨its, r', pl, hz⟩ := I.list hq
    have hlen := r'.length
    exact Calls.call_len_list pl.isList (by simp only [List.size_toArray] <;> omega) ⟨.int ys.length, H, I.tok _, ⟨s.toks + 1, by rw [List.size_toArray, hlen]⟩, q⟩
  · obtain ⟨its, r', pl, hz⟩ := I.tuple hq
    have hlen := r'.length
    exact len_tuple pl (by simp only [List.size_toArray] <;> omega) ⟨.int ys.length, H, I.tok _, ⟨s.toks + 1, by rw [List.size_toArray, hlen]⟩, q⟩
theorem call_len_str : CallR X (.builtin "len") (fun xs H Q => ∃ z, xs = [.str z] ∧ z.length ≤ sizeLine ∧ Q (.int z.length) H) := by
  intro pins s σ H xs us Q I r h
  obtain ⟨z, rfl, hz, q⟩ := h
  obtain ⟨u, rfl, t, rfl⟩ := vals1 r
  have hn := line63
  exact len_str (by omega) ⟨.int z.length, H, I.tok _, ⟨_, rfl⟩, q⟩
theorem CallR.or {f : Value} {r r' : List V → Hp → VK → Prop} (h : CallR X f r) (h' : CallR X f r') : CallR X f (fun xs H Q => r xs H Q ∨ r' xs H Q) := by
  intro pins s σ H xs us Q I rs q
  rcases q with q | q
  · exact h pins s σ H xs us Q I rs q
  · exact h' pins s σ H xs us Q I rs q
theorem call_list_of : CallR X (.type "list") (fun xs H Q => ∃ p ys, xs = [.ref p] ∧ (SqL X.K H p ys ∨ SqT X.K H p ys) ∧ ∀ l, H l = none → Q (.ref l) (upd H l (.lst ys))) := by
  intro pins s σ H xs us Q I r h
  obtain ⟨p, ys, rfl, hq, q⟩ := h
  obtain ⟨u, rfl, rx⟩ := vals1 r
  cases rx
  have fin : ∀ (its : List Value), Vals ys its → ys.length ≤ sizeLine → ∀ (h' : Heap) (c' : Nat), (∀ b o', s.heap.get? b = some o' → h'.get? b = some o') →
      h'.get? s.heap.objs.size = some { cls := .type "list", dict := none, data := .seq its.toArray c', slots := #[] } → EP X pins σ Q (.ref s.heap.objs.size) { s with heap := h' } := fun its r' hz h' c' kp e =>
    ⟨.ref s.heap.objs.size, _, I.laid (t' := s.toks) kp (Nat.le_refl _) (show ObjOk X.prog X.w _ h' _ (.lst ys) from ⟨hz, its, c', r', e⟩), rfl, q _ (I.hok.fresh (Nat.le_refl _))⟩
  rcases hq with hq | hq
  · obtain ⟨its, r', pl, hz⟩ := I.list hq
    have hlen := r'.length
    obtain ⟨o, ho, hc, n, hd⟩ := pl.isList
    exact call_list_seq p (.inl rfl) ho hc hd (fun h' c' kp e => fin its r' hz h' c' kp e) (by simp only [List.size_toArray] <;> omega)
  · obtain ⟨its, r', pl, hz⟩ := I.tuple hq
    have hlen := r'.length
    obtain ⟨o, ho, hc, n, hd⟩ := pl
    exact call_list_seq p (.inr rfl) ho hc hd (fun h' c' kp e => fin its r' hz h' c' kp e) (by simp only [List.size_toArray] <;> omega)
theorem call_tuple_of : CallR X (.type "tuple") (fun xs H Q => ∃ p ys, xs = [.ref p] ∧ ((SqL X.K H p ys ∧ ∀ l, H l = none → Q (.ref l) (upd H l (.tup ys))) ∨ (SqT X.K H p ys ∧ Q (.ref p) H))) := by
  intro pins s σ H xs us Q I r h
  obtain ⟨p, ys, rfl, h⟩ := h
  obtain ⟨u, rfl, rx⟩ := vals1 r
  cases rx
  rcases h with ⟨hq, q⟩ | ⟨hq, q⟩
  · obtain ⟨its, r', pl, hz⟩ := I.list hq
    have hlen := r'.length
    refine call_tuple_list pl.isList (fun h' kp => ?_) (by simp only [List.size_toArray] <;> omega)
    have I1 : Inv X pins σ H { s with heap := h' } := I.kept (t' := s.toks) kp
    have I2 : Inv X pins σ (upd H h'.objs.size (.tup ys)) { s with heap := h'.push { cls := .type "tuple", data := .seq its.toArray } } :=
      I1.laid (t' := s.toks) (fun b o e => Heap.get?_push_of_some _ e) (Nat.le_refl _) (show ObjOk X.prog X.w _ _ _ (.tup ys) from ⟨hz, its, r', IsTup.new _ _⟩)
    exact ⟨.ref h'.objs.size, _, I2, rfl, q _ (I1.hok.fresh (Nat.le_refl _))⟩
  · obtain ⟨its, r', pl, hz⟩ := I.tuple hq
    exact call_tuple_same pl ⟨.ref p, H, I, rfl, q⟩

/-! ### the call of a builtin's method: o.m(..) -/
/-- the value is of that builtin type -/
def tyV (K : PySem.W.Frag) (T : String) (x : V) (H : Hp) : Prop := match x with
  | .str _ => T = "str"
  | .int _ => T = "int"
  | .ref p => (T = "list" ∧ ∃ xs, SqL K H p xs) ∨ (T = "tuple" ∧ ∃ o, K.lookup p = some o ∧ o.cls = .type "tuple" ∧ o.dict = none) ∨
      (T = "dict" ∧ ((∃ kvs, H p = some (.dK kvs)) ∨ ∃ kvs, H p = some (.dT kvs))) ∨ (T = "set" ∧ ∃ S n, H p = some (.set S n))
  | _ => False
theorem tyV_is {pins : List (Addr × Obj)} {σ : St} {H : Hp} {s : Shared} {T : String} {x : V} {v : Value} (I : Inv X pins σ H s) (r : RelV x v) (ty : tyV X.K T x H) :
    s.TypeIs v T ∧ ∀ a, v = .ref a → ∃ ob, s.heap.get? a = some ob ∧ ob.dict = none := by
  cases x with
  | str z =>
    obtain ⟨t, rfl⟩ := r
    cases (show T = "str" from ty)
    exact ⟨typeIs_str s z t, fun _ e => nomatch e⟩
  | int i =>
    obtain ⟨t, rfl⟩ := r
    cases (show T = "int" from ty)
    exact ⟨typeIs_int s i t, fun _ e => nomatch e⟩
  | ref p =>
    cases r
    rcases ty with ⟨rfl, xs, hq⟩ | ⟨rfl, o, hk, hc, hd⟩ | ⟨rfl, hk⟩ | ⟨rfl, S, n, hk⟩
    · obtain ⟨its, _, pl, _⟩ := I.list hq
      refine ⟨pl.isList.typeIs, fun a e => ?_⟩
      cases e
      obtain ⟨o, n, e, c, hd, _⟩ := pl
      exact ⟨o, e, hd⟩
    · refine ⟨⟨o, I.kIn p o hk, hc⟩, fun a e => ?_⟩
      cases e
      exact ⟨o, I.kIn _ o hk, hd⟩
    · have z : ∃ o, s.heap.get? p = some o ∧ o.ExactDict := by
        rcases hk with ⟨kvs, hk⟩ | ⟨kvs, hk⟩
        · obtain ⟨_, _, _, _, o, _, _, e, ex, _⟩ := I.hok p _ hk
          exact ⟨o, e, ex⟩
        · obtain ⟨_, _, _, _, o, _, _, e, ex, _⟩ := I.hok p _ hk
          exact ⟨o, e, ex⟩
      obtain ⟨o, e, ex⟩ := z
      refine ⟨⟨o, e, ex.1⟩, fun a e2 => ?_⟩
      cases e2
      exact ⟨o, e, ex.2.1⟩
    · obtain ⟨o, _, _, _, e, ex, _⟩ := I.hok p _ hk
      refine ⟨⟨o, e, ex.1⟩, fun a e2 => ?_⟩
      cases e2
      exact ⟨o, e, ex.2.1⟩
  | _ => exact False.elim ty
def tBM0 (K : PySem.W.Frag) (T : String) (r : V → List V → Hp → VK → Prop) (to : TE) : TE := fun σ H Q => to σ H fun x H1 => tyV K T x H1 ∧ r x [] H1 Q
def tBM (K : PySem.W.Frag) (T : String) (r : V → List V → Hp → VK → Prop) (to : TE) (t : TA) : TE := fun σ H Q => to σ H fun x H1 => tyV K T x H1 ∧ t σ H1 fun xs H2 => r x xs H2 Q
variable {o e : Expr} {es : List Expr} {to : TE} {t : TA} {name : Str} {apos cpos : Pos} {T id : String} {r : V → List V → Hp → VK → Prop}
theorem pe_bm0 (pa : PlainAttrs T) (slot : Slot T name id) (hty : typeOf (.builtin id) = pure (.type "method_descriptor")) (hm : MtR X id r) (ho : PE X o to)
    (hbase : attributeBase o name X.env (eval o X.env) = eval o X.env := by rfl) (hline : (apos.endLine == cpos.line) = true := by rfl) : PE X (.Call (.Attribute o name apos) [] [] cpos) (tBM0 X.K T r to) := by
  intro pins s σ H Q I h
  refine wpAny_Call_method0_late hbase hline (thn (ho pins s σ H _ I h) fun v s1 ⟨x, H1, I1, r1, ty, q1⟩ => ?_)
  obtain ⟨h1, h2⟩ := tyV_is I1 r1 ty
  exact ⟨T, id, pa, slot, hty, h1, h2, Calls.callWith_builtin rfl (PySem.evalArgs_none (hm pins s1 σ H1 x [] v [] Q I1 r1 .nil q1))⟩
theorem pe_bm (pa : PlainAttrs T) (slot : Slot T name id) (hty : typeOf (.builtin id) = pure (.type "method_descriptor")) (hm : MtR X id r) (ho : PE X o to) (ha : PA X (e :: es) t)
    (hbase : attributeBase o name X.env (eval o X.env) = eval o X.env := by rfl)
    (hfew : ((backTo cpos (starEach (e :: es) X.env)).all (fun x => !x.1) && (backToKw cpos (keywordEach [] X.env)).all (fun x => x.1.isSome)
      && decide ((e :: es).length + ([] : List Keyword).length + (if ([] : List Keyword).isEmpty then 0 else 1) < 30)) = true := by rfl)
    (hline : (apos.endLine == cpos.line) = true := by rfl) (hs : starEach (e :: es) X.env = (false, eval e X.env) :: starEach es X.env := by rfl) (hplain : (backTo cpos (starEach es X.env)).any (·.1) = false := by rfl) :
    PE X (.Call (.Attribute o name apos) (e :: es) [] cpos) (tBM X.K T r to t) := by
  intro pins s σ H Q I h
  refine wpAny_Call_method_late hbase hfew hline rfl (thn (ho pins s σ H _ I h) fun v s1 ⟨x, H1, I1, r1, ty, q1⟩ => ?_)
  obtain ⟨h1, h2⟩ := tyV_is I1 r1 ty
  refine ⟨T, id, pa, slot, hty, h1, h2, ?_⟩
  have hA := ha cpos pins s1 σ H1 _ I1 q1
  rw [hs] at hA ⊢
  refine Calls.callWith_builtin (by show (false || (backTo cpos (starEach es X.env)).any (·.1)) = false; rw [hplain] <;> rfl) (Calls.evalArgs_plain ?_)
  exact thn hA fun us s2 ⟨vs, H2, I2, r2, q2⟩ => hm pins s2 σ H2 x vs v us Q I2 r1 r2 q2
/- xs.append(e), list.index on a module's tuple .. are MtR facts of 06m -/
end
end L2

namespace L2
open PySem PySem.Spec PyProof.Rows

def MtM (X : Cx) (id : String) (r : V → List V → Hp → VK → Prop) : Prop :=
  ∀ (pins : List (Addr × Obj)) (s : Shared) (σ : St) (H : Hp) (x : V) (xs : List V) (v : Value) (us : List Value) (Q : VK), Inv X pins σ H s → RelV x v → Vals xs us → r x xs H Q →
    wpAny (model X.prog X.w) X.A (call (.builtin id) (v :: us)) (EP X pins σ Q) X.xe s

/-! ### lists of values -/
theorem Vals.one : ∀ {x : V} {us : List Value}, Vals [x] us → ∃ u, us = [u] ∧ RelV x u
  | _, _, .cons r .nil => ⟨_, rfl, r⟩
theorem Vals.zero : ∀ {us : List Value}, Vals [] us → us = []
  | _, .nil => rfl
theorem Vals.dropLast {xs : List V} {us : List Value} (h : Vals xs us) : Vals xs.dropLast us.dropLast := by
  induction h with
  | nil => exact .nil
  | cons r t ih =>
    cases t with
    | nil => exact .nil
    | cons q t' => exact .cons r ih
theorem Vals.reverse {xs : List V} {us : List Value} (h : Vals xs us) : Vals xs.reverse us.reverse := by
  induction h with
  | nil => exact .nil
  | cons r t ih => rw [List.reverse_cons, List.reverse_cons]; exact Vals.append ih (.cons r .nil)
theorem erase_last {α : Type} (l : List α) : l.eraseIdx (l.length - 1) = l.dropLast := by
  induction l with
  | nil => rfl
  | cons a r ih =>
    cases r with
    | nil => rfl
    | cons b r =>
      have e : (a :: b :: r).length - 1 = ((b :: r).length - 1) + 1 := by
        have h1 : (a :: b :: r).length = r.length + 2 := rfl
        have h2 : (b :: r).length = r.length + 1 := rfl
        omega
      rw [e, List.eraseIdx_cons_succ, ih]
      all_goals rfl
section
variable {X : Cx} {pins : List (Addr × Obj)} {σ : St} {H : Hp} {s : Shared} {l b : Addr} {xs ys zs : List V}

/-! ### the two steps: a tracked list is rewritten, a new list is laid -/
theorem Inv.lset {its its' : List Value} {n : Nat} {f : Array Value → Array Value} {t' : Nat} (I : Inv X pins σ H s) (hH : H l = some (.lst xs))
    (e : s.heap.get? l = some { cls := .type "list", data := .seq its.toArray n }) (hf : f its.toArray = its'.toArray) (hv : Vals ys its') (hz : ys.length ≤ sizeLine) :
    Inv X pins σ (upd H l (.lst ys)) { s with heap := s.heap.update l (Obj.mapSeq f), toks := t' } := by
  have q := PySem.IsL.update e f
  rw [hf] at q
  refine I.write (x := l) (e := l) (by rw [hH]; exact trivial) (.inl rfl) (fun b' u hb hu => (Heap.get?_update_other s.heap (Obj.mapSeq f) (Ne.symm hb)).trans hu) ⟨_, q⟩ ?_
  exact ⟨hz, its', _, hv, q⟩
theorem Inv.lnew {its : List Value} {t' : Nat} (I : Inv X pins σ H s) (hv : Vals ys its) (hz : ys.length ≤ sizeLine) :
    Inv X pins σ (upd H s.heap.objs.size (.lst ys)) { s with heap := s.heap.push { cls := .type "list", data := .seq its.toArray }, toks := t' } :=
  I.laid (fun _ _ q => Heap.get?_push_of_some _ q) (Nat.le_refl _) ⟨hz, its, 0, hv, Heap.get?_push_size _ rfl⟩
theorem Inv.fresh (I : Inv X pins σ H s) : H s.heap.objs.size = none := I.hok.fresh (Nat.le_refl _)
theorem Inv.lstM (I : Inv X pins σ H s) (hH : H l = some (.lst xs)) : xs.length ≤ sizeLine ∧ ∃ (its : List Value) (n : Nat), Vals xs its ∧ xs.length = its.length ∧ s.heap.get? l = some { cls := .type "list", data := .seq its.toArray n } := by
  obtain ⟨z, its, n, r, e⟩ := I.hok l _ hH
  exact ⟨z, its, n, r, r.length, e⟩

theorem notLongL {n : Nat} (h : n ≤ sizeLine) : Builtin.List.listTooLong n = false := by
  unfold Builtin.List.listTooLong
  exact decide_eq_false (by omega)
end

section
variable {X : Cx}

/-! ### methods -/
inductive rAppend_R (x : V) (vs : List V) (H : Hp) (Q : VK) : Prop
  | mk (l : _) (xs : _) (y : _) (h0 : x = .ref l) (h1 : vs = [y]) (h2 : H l = some (.lst xs)) (h3 : xs.length < sizeLine) (h4 : Q .non (upd H l (.lst (xs ++ [y])))) : rAppend_R x vs H Q
def rAppend : V → List V → Hp → VK → Prop := fun x vs H Q => rAppend_R x vs H Q
theorem mt_append : MtM X "list.append" rAppend := by
  intro pins s σ H x vs v us Q I rx rv h
  obtain ⟨l, xs, y, rfl, rfl, hH, hz, q⟩ := h
  cases rx
  obtain ⟨u, rfl, ru⟩ := rv.one
  obtain ⟨z, its, n, r, hl, e⟩ := I.lstM hH
  refine call_meets F.slot_list_append ⟨_, e, rfl⟩ F.entry_list_append (F.args_list_append_2 _ _) (PySem.list_append l its.toArray n u (by rw [List.size_toArray]; omega)) ⟨e, ?_⟩
  refine ⟨.non, _, I.lset (its' := its ++ [u]) hH e (by simp) (r.append (.cons ru .nil)) ?_, rfl, q⟩
  rw [List.length_append, List.length_singleton]
  omega

inductive rExtend_R (x : V) (vs : List V) (H : Hp) (Q : VK) : Prop
  | mk (l : _) (b : _) (xs : _) (zs : _) (h0 : x = .ref l) (h1 : vs = [.ref b]) (h2 : H l = some (.lst xs)) (h3 : H b = some (.lst zs)) (h4 : xs.length + zs.length ≤ sizeLine) (h5 : Q .non (upd H l (.lst (xs ++ zs)))) : rExtend_R x vs H Q
def rExtend : V → List V → Hp → VK → Prop := fun x vs H Q => rExtend_R x vs H Q
theorem mt_extend : MtM X "list.extend" rExtend := by
  intro pins s σ H x vs v us Q I rx rv h
  obtain ⟨l, b, xs, zs, rfl, rfl, hH, hB, hz, q⟩ := h
  cases rx
  obtain ⟨u, rfl, ru⟩ := rv.one
  cases ru
  obtain ⟨z, its, n, r, hl, e⟩ := I.lstM hH
  obtain ⟨z2, its2, n2, r2, hl2, e2⟩ := I.lstM hB
  have hsz : its.toArray.size + its2.toArray.size ≤ sizeLine := by rw [List.size_toArray, List.size_toArray]; omega
  have hlong : ¬ (!its.toArray.isEmpty && Builtin.List.listTooLong (its.toArray.size + its2.toArray.size)) = true := by
    rw [notLongL hsz, Bool.and_false]
    exact Bool.false_ne_true
  refine call_meets F.slot_list_extend ⟨_, e, rfl⟩ F.entry_list_extend (F.args_list_extend_2 _ _)
    (AutoSeq1.list_extend_list_list_0 l its.toArray n b its2.toArray n2 hlong (by rw [List.size_toArray]; omega) (by omega)) ⟨e, e2, ?_⟩
  refine ⟨.non, _, I.lset (its' := its ++ its2) hH e (by simp) (r.append r2) ?_, rfl, q⟩
  rw [List.length_append]
  omega

inductive rPop_R (x : V) (vs : List V) (H : Hp) (Q : VK) : Prop
  | mk (l : _) (xs : _) (y : _) (h0 : x = .ref l) (h1 : vs = []) (h2 : H l = some (.lst xs)) (h3 : xs[xs.length - 1]? = some y) (h4 : Q y (upd H l (.lst xs.dropLast))) : rPop_R x vs H Q
def rPop : V → List V → Hp → VK → Prop := fun x vs H Q => rPop_R x vs H Q
theorem mt_pop : MtM X "list.pop" rPop := by
  intro pins s σ H x vs v us Q I rx rv h
  obtain ⟨l, xs, y, rfl, rfl, hH, hy, q⟩ := h
  cases rx
  have hus := rv.zero
  subst hus
  obtain ⟨z, its, n, r, hl, e⟩ := I.lstM hH
  obtain ⟨u, hu, ru⟩ := r.get hy
  have hy' : its.toArray[its.toArray.size - 1]? = some u := by
    show its.toArray[its.length - 1]? = some u
    rw [← Array.getElem?_toList, ← hl]
    exact hu
  refine call_meets F.slot_list_pop ⟨_, e, rfl⟩ F.entry_list_pop (F.args_list_pop_1 _) (MeetsSeq.list_pop_last l its.toArray n u hy' (by rw [List.size_toArray]; omega)) ⟨e, ?_⟩
  refine ⟨y, _, I.lset (its' := its.dropLast) hH e ?_ r.dropLast ?_, ru, q⟩
  · show its.toArray.eraseIdxIfInBounds (its.toArray.size - 1) = its.dropLast.toArray
    rw [List.size_toArray, List.eraseIdxIfInBounds_toArray, erase_last]
  · rw [List.length_dropLast]
    omega

/-! ### list + list, list += list, list * int -/
inductive rCat_R (x : V) (y : V) (H : Hp) (Q : VK) : Prop
  | mk (l : _) (b : _) (xs : _) (zs : _) (h0 : x = .ref l) (h1 : y = .ref b) (h2 : H l = some (.lst xs)) (h3 : H b = some (.lst zs)) (h4 : xs.length + zs.length ≤ sizeLine) (h5 : ∀ p, H p = none → Q (.ref p) (upd H p (.lst (xs ++ zs)))) : rCat_R x y H Q
def rCat : R2 := fun x y H Q => rCat_R x y H Q
theorem op_cat : OpR X (binaryOp .Add) rCat := by
  intro pins s σ H x y v u Q I rx ry h
  obtain ⟨l, b, xs, zs, rfl, rfl, hH, hB, hz, q⟩ := h
  cases rx
  cases ry
  obtain ⟨z, its, n, r, hl, e⟩ := I.lstM hH
  obtain ⟨z2, its2, n2, r2, hl2, e2⟩ := I.lstM hB
  refine PySem.P.add_list e e2 ?_ (by rw [List.size_toArray, List.size_toArray]; omega)
  have ea : its.toArray ++ its2.toArray = (its ++ its2).toArray := by simp
  rw [ea]
  exact ⟨.ref _, _, I.lnew (t' := s.toks) (r.append r2) (by rw [List.length_append]; omega), rfl, q _ I.fresh⟩
/-! ### del xs[i] -/
end

/-! ### xs[a:b] = ys -/
section
variable {prog : Program} {w : World} {A : Around} {E : Value → Shared → Prop} {s : Shared}
set_option maxRecDepth 100000 in
end

section
variable {X : Cx}
end
end L2

namespace Att
open PySem PySem.W PySem.Calls PyProof.Rows

/-! ### the script -/
theorem ints_of_wellAll {P : Params} {h : Heap} : ∀ (ns : List Int) (vs : List Value), WellAll P h vs (ns.map WData.int) → IntsAre vs ns := by
  intro ns
  induction ns with
  | nil =>
    intro vs w
    rw [List.map_nil] at w
    cases w
    exact .nil
  | cons n ns ih =>
    intro vs w
    rw [List.map_cons] at w
    cases w with
    | cons a b =>
      cases a
      exact .cons _ _ (ih _ b)

theorem script_of {l : OpenLaw} {n : Nat} (hn : l.most = some n) {P : Params} {h : Heap} {args : List WData} {vals : List Value}
    (hpre : l.row.toRowW.claim.pre args = true) (hwl : WellAll P h vals args) :
    ∃ a vs ns, vals = [Value.ref a] ∧ args = [WData.list (ns.map WData.int)] ∧ h.get? a = some { cls := .type "list", data := .seq vs.toArray } ∧ IntsAre vs ns ∧ ns.length ≤ n := by
  have hsh : WShape.hasAll [] args [.list .int] = true := (pre_splitW hpre).1
  have hc : l.pre.holds [] { args := args } = true := (pre_splitW hpre).2
  obtain ⟨d, r, rfl, h1, h2⟩ := hasAllW_cons hsh
  obtain rfl := hasAllW_nil h2
  obtain ⟨xs, rfl, h3⟩ := hasW_list h1
  obtain ⟨ns, rfl⟩ := items_int h3
  have hlen : ns.length ≤ n := by
    unfold OpenLaw.pre at hc
    have h4 : (WTm.not (.lt (.lit (.int (n : Int))) (.len (.arg 0)))).holds [] { args := [.list (ns.map .int)] } = true := by
      have h4 := (holds_andW hc).1
      rw [hn] at h4
      exact h4
    have h5 := condW_of h4 (w_not (w_lt w_lit (w_len_list (w_arg rfl))))
    rw [List.length_map] at h5
    refine Nat.le_of_not_lt fun q => ?_
    have q' : (n : Int) < ((ns.length : Nat) : Int) := by omega
    first
      | (rw [decide_eq_true q'] at h5; exact absurd h5 (by decide))
      | (simp at h5; omega)
  cases hwl with
  | cons w1 w2 =>
    cases w2
    cases w1 with
    | list ho hall => exact ⟨_, _, ns, rfl, rfl, ho, ints_of_wellAll ns _ hall, hlen⟩

theorem post_true (l : OpenLaw) (args : List WData) : l.row.toRowW.claim.post args (.bool true) args = true :=
  postW_of (r := l.row.toRowW) (X := (true == true))
    (show WShape.has [] (.bool true) .bool = true by first | rfl | decide | simp [WShape.has, WShape.arms, WShape.armsAll])
    (show (WTm.eq .res (.lit (.bool true))).value [] { args := args, res := some (.bool true), after := args } = some (.bool (true == true)) from w_eq_bool (w_res rfl) w_lit) rfl

/-! ### the attachment: holds_open's last premise (the goal 'hc' behind k_head) from a wpAny of the law's body -/
/-- the same from a codeAny of the CALL (for a layer whose function contracts speak of calls) -/
theorem attach_call {l : OpenLaw} {n : Nat} {q : Program} {loose : List Str} {XP : (Str → Option Value) → Heap → Prop} {YP : World → Heap → Prop} {d : DefRec}
    (hn : l.most = some n) (hdf : d.params.defaults = [])
    (call : ∀ (w : World) (s₀ s₁ : Shared) (mg mb : Str → Option Value) (fa : Addr) (o : Obj) (pm cd doc : Value) (a : Addr) (vs : List Value) (ns : List Int),
      Ground q loose [] XP w s₀ mg mb s₁.heap → YP w s₁.heap →
      s₁.heap.get? fa = some o → o.data = .func (docDef d.name d.params d.body d.scope pm cd doc) → s₁.heap.CodeRec cd d.name → mg d.name = some (.ref fa) →
      s₁.heap.get? a = some { cls := .type "list", data := .seq vs.toArray } → IntsAre vs ns → ns.length ≤ n → s₁.gens = #[] →
      codeAny (model l.prog w) callerA (.call (.ref fa) ⟨[.ref a], []⟩) (fun r s' => r = .ok (.ret (.bool true)) ∧ OldK s₁.heap s'.heap ∧ s'.os = s₁.os ∧ AllBare s'.gens) s₁) :
    WalkO q loose XP YP l.row.toRowW d [] (fun f vs => PySem.call f vs) := by
  intro w s₀ s₁ mg mb G Y fa o pm cd doc dV kV ho hd hcd hD hmg hg args vals as hpre hlay hrd hwl hlo
  obtain rfl : dV = .none := Dflts.none hD hdf
  obtain rfl : kV = .none := Dflts.noKw hD
  obtain ⟨a, vs, ns, rfl, rfl, hobj, hints, hlen⟩ := script_of hn hpre hwl
  refine enter_call (codeAny_mono (call w s₀ s₁ mg mb fa o pm cd doc a vs ns G Y ho (fd_plain hd) hcd hmg hobj hints hlen hg) fun r s' hq => ?_)
  obtain ⟨rfl, h2, h3, h4⟩ := hq
  exact ⟨.inl ⟨.bool true, .bool true, [], rfl, fun _ => rfl, .bool true, post_true l _, fun _ => ⟨List.Pairwise.nil, fun _ hm => (nomatch hm)⟩⟩, h2, h3, h4⟩

/-! ### rules over ANY heap (no ledger) from facts about the written part K: the library's own take a ledger (News) for what they write -/
section
variable {prog : Program} {w : World} {A : Around} {E : Value → Shared → Prop} {s : Shared} {K : Frag}

/-! the whole heap as the ledger: makes every rule that writes through a ledger a rule over any heap -/
def ledger (h : Heap) (L d : Addr) : List (Addr × Obj) := (List.range h.objs.size).filterMap fun a => if a = L ∨ a = d then none else (h.get? a).map fun o => (a, o)
end
end Att

namespace L2
open PySem PySem.Spec PyProof.Rows

theorem vals_ints : ∀ {vs : List Value} {ns : List Int}, IntsAre vs ns → Vals (ns.map V.int) vs
  | _, _, .nil => .nil
  | _, _, .cons n t h => .cons ⟨t, rfl⟩ (vals_ints h)

/-- nothing is tracked but the script, known to the object (or it is an object of the module) -/
def Only (H : Hp) : Prop := ∀ b, H b = none ∨ ∃ o xs, H b = some (.frz o (.lst xs))

/-- THE HEAD: the law's promise, at the heap behind the top. F, the promise of the law's def, may use that base is part of the heap (so K.In base, base.Ns mainGlobals mg stand in Mod) -/
theorem law_call {P : Program} {w : World} {K : PySem.W.Frag} {mg mb : Str → Option Value} {CX : CXT} {k : Nat} {fa a : Addr} {fd : FuncData} {x : Str} {sp : Sp} {s₁ : Shared} {vs : List Value} {ns : List Int}
    (KX : K.In s₁.heap) (hns : s₁.heap.Ns mainGlobals mg) (hb : s₁.heap.Ns builtinsNs mb) (hbb : ∀ x : Str, x ≠ "__name__" → mb x = bootBuiltins x) (hlim : s₁.heap.NoLimit) (hg : s₁.gens = #[])
    (ha : s₁.heap.get? a = some { cls := .type "list", data := .seq vs.toArray }) (hi : IntsAre vs ns) (hl : ns.length ≤ sizeLine) (hr : Room k callerA)
    (F : ∀ base : Heap, K.In base → base.Ns mainGlobals mg → FnOk P w K mg base CX k fa fd [x] sp) (hbind : ∀ (s : Shared) (u : Value), BindsTo s fd ⟨[u], []⟩ [(x, u)])
    (hsp : ∀ H : Hp, Only H → SqL K H a (ns.map V.int) → sp [.ref a] H (fun v _ => v = .bl true) fun _ _ _ => False)
    (hCX : ∀ H e s', CX [] H s₁ (fun _ _ _ => False) e s' → False) :
    codeAny (model P w) callerA (.call (.ref fa) ⟨[.ref a], []⟩) (fun r s' => r = .ok (.ret (.bool true)) ∧ OldK s₁.heap s'.heap ∧ s'.os = s₁.os ∧ AllBare s'.gens) s₁ := by
  have rv := vals_ints hi
  have lenV := hi.length
  -- from an abstract heap in which nothing but the script may be tracked
  have core : ∀ H : Hp, Only H → SqL K H a (ns.map V.int) → HOk P w H s₁.heap → (∀ b, H b ≠ none → b = a) → (H a ≠ none → K.lookup a = none) →
      codeAny (model P w) callerA (.call (.ref fa) ⟨[.ref a], []⟩) (fun r s' => r = .ok (.ret (.bool true)) ∧ OldK s₁.heap s'.heap ∧ s'.os = s₁.os ∧ AllBare s'.gens) s₁ := by
    intro H hO hS hok hA hK
    have base_of : ∀ {b : Addr} {o : Obj}, s₁.heap.get? b = some o → H b = none → (hidT s₁.heap H).get? b = some o := fun e n => hidT_get e n
    have noA : ∀ {b : Addr} {o : Obj} {es : Array DictEntry} {ep : Nat}, s₁.heap.get? b = some o → o.data = .dict es ep → H b = none := fun {b o es ep} e d => by
      cases q : H b with
      | none => rfl
      | some u =>
        have e' : b = a := hA b (by rw [q]; simp)
        subst e'
        rw [ha] at e; cases e
        have d' : Data.seq vs.toArray _ = Data.dict es ep := d
        cases d'
    have nsK : ∀ {b : Addr} {m : Str → Option Value}, s₁.heap.Ns b m → (hidT s₁.heap H).Ns b m := fun {b m} ⟨o, es, ep, e, d, r⟩ => ⟨o, es, ep, base_of e (noA e d), d, r⟩
    have hKb : K.In (hidT s₁.heap H) := fun b o e => base_of (KX b o e) (by
      cases q : H b with
      | none => rfl
      | some u =>
        have e' : b = a := hA b (by rw [q]; simp)
        subst e'
        rw [hK (by rw [q]; simp)] at e; cases e)
    have hM : Mod K mg (hidT s₁.heap H) := ⟨hKb, nsK hns, ⟨mb, nsK hb, hbb⟩, let ⟨mc, h1, h2⟩ := hlim; ⟨mc, nsK h1, h2⟩⟩
    have e0 : Env0 P w K mg (hidT s₁.heap H) callerA [] s₁ H := ⟨rfl, hM, fun b o e => of_hidT e, Nat.le_of_eq (hidT_size _ _), trivial, fun b hb => absurd (show b ∈ ([] : List Addr) from hb) (by simp), hok, .of_eq hg⟩
    refine codeAny_mono ((F _ hKb (nsK hns)).run callerA [] s₁ H ⟨[.ref a], []⟩ [.ref a] [.ref a] _ _ hr e0 (hbind s₁ (.ref a)) (.cons rfl .nil) (hsp H hO hS)) fun r s' h => ?_
    cases r with
    | error e => exact (hCX H e s' h).elim
    | ok fl =>
      cases fl with
      | next => exact False.elim h
      | brk => exact False.elim h
      | cont => exact False.elim h
      | ret u =>
        obtain ⟨v, H', os, bare, un, hok', r', q⟩ := h
        have q' : v = .bl true := q
        subst q'
        obtain rfl : u = Value.bool true := r'
        refine ⟨rfl, OldK.of_keep fun b o e => ?_, os, bare⟩
        cases q : H b with
        | none => exact un.keep b o e q (by intro z; exact absurd (show b ∈ ([] : List Addr) from z) (by simp)) (by simp)
        | some u =>
          rcases hO b with z | ⟨ob, xs, z⟩
          · rw [q] at z; cases z
          · have z2 := un.frzs b ob _ z
            obtain ⟨e1, _⟩ := hok b _ z
            obtain ⟨e2, _⟩ := hok' b _ z2
            rw [e] at e1; cases e1
            exact e2
  cases hk : K.lookup a with
  | some o =>
    -- the script is one of the module's own objects
    have e := KX a o hk
    rw [ha] at e
    cases e
    refine core (fun _ => none) (fun _ => .inl rfl) (.inr ⟨_, vs.toArray, _, hk, rfl, rfl, rfl, by rw [List.size_toArray, lenV]; exact hl, by simpa using rv⟩) (fun b u z => by have z' : (none : Option HO) = some u := z; cases z') (fun b z => absurd rfl z) fun z => absurd rfl z
  | none =>
    refine core (fun b => if b = a then some (.frz { cls := .type "list", data := .seq vs.toArray } (.lst (ns.map V.int))) else none) (fun b => ?_) (.inl (.inr ⟨{ cls := .type "list", data := .seq vs.toArray }, if_pos rfl⟩)) (fun b u z => ?_) (fun b z => ?_) fun _ => hk
    · by_cases hb : b = a
      · exact .inr ⟨_, _, if_pos hb⟩
      · exact .inl (if_neg hb)
    · by_cases hb : b = a
      · have z' := (if_pos hb).symm.trans z
        cases z'
        subst hb
        exact ⟨ha, by rw [List.length_map]; exact hl, vs, _, rv, ha⟩
      · have z' := (if_neg hb).symm.trans z
        cases z'
    · by_cases hb : b = a
      · exact hb
      · exact absurd (if_neg hb) z
end L2

namespace L2
open PySem PySem.Spec PyProof.Rows

/-- the goal that k_head leaves (case hc), from the law's promise. F gives the function object fd (K's own) once, then the promise over every base -/
theorem walk_of {l : PySem.W.OpenLaw} {n k : Nat} {q : Program} {loose : List Str} {XP : (Str → Option Value) → Heap → Prop} {YP : World → Heap → Prop} {d : DefRec} {K : Params → PySem.W.Frag} {CX : World → CXT} {sp : World → Sp} {x : Str}
    (hn : l.most = some n) (hn2 : n ≤ sizeLine) (hdf : d.params.defaults = []) (hr : Room k callerA)
    (hY : ∀ (w : World) (h : Heap), YP w h → (K w.params).In h)
    (F : ∀ (w : World) (mg : Str → Option Value) (fa : Addr) (h : Heap), (K w.params).In h → h.Ns mainGlobals mg → mg d.name = some (.ref fa) →
      ∃ fd : FuncData, (∀ (s : Shared) (u : Value), BindsTo s fd ⟨[u], []⟩ [(x, u)]) ∧
        ∀ base : Heap, (K w.params).In base → base.Ns mainGlobals mg → FnOk l.prog w (K w.params) mg base (CX w) k fa fd [x] (sp w))
    (hsp : ∀ (w : World) (H : Hp) (a : Addr) (ns : List Int), ns.length ≤ n → Only H → SqL (K w.params) H a (ns.map V.int) → sp w [.ref a] H (fun v _ => v = .bl true) fun _ _ _ => False)
    (hCX : ∀ (w : World) (H : Hp) (s : Shared) (e : Value) (s' : Shared), CX w [] H s (fun _ _ _ => False) e s' → False) :
    PySem.W.WalkO q loose XP YP l.row.toRowW d [] (fun f vs => PySem.call f vs) := by
  refine Att.attach_call hn hdf fun w s₀ s₁ mg mb fa o pm cd doc a vs ns G Y ho hd hcd hmg hobj hints hlen hg => ?_
  have KX := hY w _ Y
  obtain ⟨fd, hb, hF⟩ := F w mg fa _ KX G.T.g hmg
  exact law_call KX G.T.g G.T.b G.T.builtins G.T.nolimit hg hobj hints (Nat.le_trans hlen hn2) hr hF hb (fun H hO hS => hsp w H a ns hlen hO hS) fun H e s' => hCX w H s₁ e s'
end L2

/- THE LAST THEOREM (shape; LID, My.* are yours):
   My.Adr: a structure of the addresses that your layer names (classes, functions); My.Txt K t: a structure (Prop) of the equations over K;
   My.txt_mk : {K} {implicit addresses ..} (e1 : nsIn K mainGlobals "law" = some (some (.ref f))) (e2 : K.lookup f = some ⟨oc, od, .func (fnOf "law" "law" params body scope dV kV doc pm an cdv ct), sl⟩) (e3 : codeIn K cdv "law" = true) .. : ∃ t, My.Txt K t

set_option maxRecDepth 100000 in
set_option maxHeartbeats 0 in
theorem PySem.Challenge.cw_LID_holds : PySem.Challenge.rw_LID.Holds := by
  w_on; o_law; k_head; (case hw => w_witness2)
  k_fill
  refine L2.walk_of (l := PySem.Challenge.rw_LID) (n := 63) (k := 40) (x := "script") (CX := fun w => ..) (sp := fun _ => My.sp_law) rfl (by decide) rfl ⟨rfl, by decide, by decide⟩ (fun w h Y => PySem.W.kIn_of Y) ?F ?S ?C
  case F =>
    intro w mg fa h KX G hmg
    have T : ∃ t, My.Txt (L2.KOf KX) t := by
      dsimp only [L2.KOf]                          -- K must stand as «<heap const> w.params» for k_is
      refine' My.txt_mk ?e1 ?e2 ?e3 ..
      (case e1 => PySem.W.k_is)                    -- in the order: a name -> its address -> its object -> its parts
      (case e2 => PySem.W.k_is)
      ..
    obtain ⟨t, T⟩ := T
    have e0 := hmg.symm.trans (PySem.W.mg_of KX G T.law)
    cases e0                                       -- fa is the law's own address
    exact ⟨_, fun s u => .of_eq rfl, fun base kb nb => My.law_fn T kb nb⟩     -- if «.of_eq rfl» comes too early: refine' ⟨_, ?b, fun base kb nb => My.law_fn T kb nb⟩; exact fun s u => .of_eq rfl
  case S => exact fun w H a ns hl hO hS => ..
  case C => exact ..
(the tactic k_is has no namespace: write k_is) -/

/-! SHORT WORDS over the layer: a def of the text, its body, what a loop and a test want. -/
namespace L2
open PySem PySem.Spec PyProof.Rows

/-! ### the text by places -/
/-- the j-th statement of a class's body -/
def inClass (s : Stmt) (j : Nat) : Stmt := match s with
  | .ClassDef _ _ _ body _ _ _ _ _ _ _ => body.getD j (.Pass ⟨0, 0, 0, 0⟩)
  | _ => .Pass ⟨0, 0, 0, 0⟩
def defArgs (s : Stmt) : Arguments := match s with
  | .FunctionDef _ a _ _ _ _ _ _ _ _ => a
  | _ => { posonlyargs := [], args := [], vararg := none, kwonlyargs := [], kw_defaults := [], kwarg := none, defaults := [] }
def defBody (s : Stmt) : List Stmt := match s with
  | .FunctionDef _ _ b _ _ _ _ _ _ _ => b
  | _ => []
def defScope (s : Stmt) : Scope := match s with
  | .FunctionDef _ _ _ _ _ _ sc _ _ _ => sc
  | _ => { kind := .function, names := [], isGenerator := false, isCoroutine := false }

/-! ### no exception leaves a def -/
abbrev CX0 : CXT := fun _ _ _ _ _ _ => False
abbrev E0 : XK := fun _ _ _ => False
theorem pass0 {X : Cx} : Passes CX0 X E0 := fun _ _ _ _ _ _ _ h => h.elim

/-! ### a def (or method) of the text as it stands behind the top -/
structure Fun (K : PySem.W.Frag) (x qual : Str) (st : Stmt) (f : Addr) (fd : FuncData) : Prop where
  ex : ∃ (oc : Value) (od : Option Addr) (kV doc pm : Value) (an : Option Addr) (cdv ct : Value) (osl : Array (Option Value)),
    fd = PySem.W.fnOf x qual (defArgs st) (defBody st) (defScope st) .none kV doc pm an cdv ct ∧ K.lookup f = some ⟨oc, od, .func fd, osl⟩ ∧ PySem.W.codeIn K cdv qual = true
  kp : PySem.W.keepIn K (.ref f) = true
section
variable {P : Program} {w : World} {K : PySem.W.Frag} {mg : Str → Option Value} {base : Heap}
/-- THE RULE for a def: its body as a term of rules, and the reading of that term -/
theorem Fun.ok {x qual : Str} {st : Stmt} {f : Addr} {fd : FuncData} {N ps : List Str} {k : Nat} {sp : Sp} (F : Fun K x qual st f fd) (S : FnScope N ps (defScope st)) (len : ∀ vs H Q E, sp vs H Q E → vs.length = ps.length)
    (hbody : ∀ (cdv : Value) (A : Around) (outer : List Env) (s : Shared) (H : Hp) (vs : List V) (Q : VK) (E : XK), Room k (A.deeper (envOfC qual (defScope st) s.heap.objs.size f cdv)) → sp vs H Q E →
      ∃ t, PSs (cxOf CX0 P w K mg base N qual (defScope st) f cdv A outer s H E).nox (defBody st) t ∧ t { nx := fun _ H' => Q .non H', rt := Q } (start N vs) H) : FnOk P w K mg base CX0 (k + 1) f fd ps sp := by
  obtain ⟨oc, od, kV, doc, pm, an, cdv, ct, osl, rfl, lk, hcd⟩ := F.ex
  refine fn_of lk hcd S len fun A outer s H vs Q E hr hsp => ?_
  obtain ⟨t, h, q⟩ := hbody cdv A outer s H vs Q E hr hsp
  exact ⟨t, h.nox, q⟩
/-- how its arguments bind (no defaults): h is «fun _ _ _ _ _ _ us hl => match us, hl with | [_, _], _ => rfl», one _ a parameter -/
theorem Fun.binds {x qual : Str} {st : Stmt} {f : Addr} {fd : FuncData} {ps : List Str} (F : Fun K x qual st f fd)
    (h : ∀ (kV doc pm : Value) (an : Option Addr) (cdv ct : Value) (us : List Value), us.length = ps.length → bindArgs (PySem.W.fnOf x qual (defArgs st) (defBody st) (defScope st) .none kV doc pm an cdv ct) ⟨us, []⟩ = pure (ps.zip us)) : Binds K fd ps [] := by
  obtain ⟨oc, od, kV, doc, pm, an, cdv, ct, osl, rfl, lk, hcd⟩ := F.ex
  exact .all (h kV doc pm an cdv ct)
theorem fun_mk {x qual : Str} {st : Stmt} {f : Addr} {oc : Value} {od an : Option Addr} {osl : Array (Option Value)} {kV doc pm cdv ct : Value} (l : K.lookup f = some ⟨oc, od, .func (PySem.W.fnOf x qual (defArgs st) (defBody st) (defScope st) .none kV doc pm an cdv ct), osl⟩)
    (c : PySem.W.codeIn K cdv qual = true) (k : PySem.W.keepIn K (.ref f) = true) : Fun K x qual st f (PySem.W.fnOf x qual (defArgs st) (defBody st) (defScope st) .none kV doc pm an cdv ct) := ⟨⟨oc, od, kV, doc, pm, an, cdv, ct, osl, rfl, l, c⟩, k⟩
end
/-! ### expressions in short: the name that stands in the i-th slot -/
section
variable {X : Cx}
theorem pv (i : Nat) {x : Str} {pos : Pos} (hN : X.N[i]? = some x := by rfl) (hv : Vis X.env.scope x := by first | exact Or.inl rfl | exact Or.inr (Or.inl rfl) | exact Or.inr (Or.inr rfl)) (hd : (x == ("__debug__" : Str)) = false := by decide)
    (hcd : (x == ("__classdict__" : Str)) = false := by decide) : PE X (.Name x pos) (tVar i) := pe_var hN hv hd hcd
end

/-! ### tests -/
theorem iteF {A B : Prop} (h : B) : if false = true then A else B := by
  rw [if_neg Bool.false_ne_true]
  exact h
theorem iteT {A B : Prop} (h : A) : if true = true then A else B := by
  rw [if_pos rfl]
  exact h
theorem ite2 {c A B : Prop} [Decidable c] (h1 : c → A) (h2 : ¬ c → B) : if c then A else B := by
  by_cases h : c
  · rw [if_pos h]
    exact h1 h
  · rw [if_neg h]
    exact h2 h
/-! ### heaps -/
/-- all that was tracked is as it was -/
def Same (H H' : Hp) : Prop := ∀ b o, H b = some o → H' b = some o
theorem Same.refl (H : Hp) : Same H H := fun _ _ h => h
theorem Same.trans {H H1 H2 : Hp} (a : Same H H1) (b : Same H1 H2) : Same H H2 := fun c o h => b c o (a c o h)
theorem Same.free {H H' : Hp} (e : Same H H') {l : Addr} (h : H' l = Option.none) : H l = Option.none := by
  cases q : H l with
  | none => rfl
  | some o =>
    rw [e l o q] at h
    cases h
theorem Same.seq {K : PySem.W.Frag} {H H' : Hp} {a : Addr} {xs : List V} (e : Same H H') (h : SqL K H a xs) : SqL K H' a xs := by
  rcases h with (h | ⟨o, h⟩) | h
  · exact .inl (.inl (e _ _ h))
  · exact .inl (.inr ⟨o, e _ _ h⟩)
  · exact .inr h

end L2

set_option Elab.async false
set_option linter.all false
set_option maxRecDepth 100000
set_option maxHeartbeats 4000000
namespace L3
open PySem PySem.Spec PyProof.Rows L2
abbrev St := L2.St

/-- the inner names' values: an own name has none yet, a captured one has its slot's -/
def sub (ix : List (Option Nat)) (σ : St) : St := ix.map fun o => o.bind fun j => (σ[j]?).join

theorem thnF {α : Type} {t : Sem α} {Q Q' : α → Shared → Prop} {M : Model} {A : Around} {E : Value → Shared → Prop} {s : Shared} (h : wpAny M A t Q (fun _ _ => False) s) (hQ : ∀ a s, Q a s → Q' a s) : wpAny M A t Q' E s :=
  wpAny_mono h hQ fun _ _ z => z.elim

/-- the tests behind a comprehension's for -/
def PTs (X : Cx) (ifs : List Expr) (t : TT) : Prop :=
  ∀ (pins : List (Addr × Obj)) (s : Shared) (σ : St) (H : Hp) (Q : Bool → Hp → Prop), Inv X pins σ H s → t σ H Q →
    wpAny (model X.prog X.w) X.A (forIn ifs true fun c r => if r = true then do let ok ← isTrue c X.env (eval c X.env); pure (ForInStep.yield ok) else pure (ForInStep.yield r)) (TP X pins σ Q) X.xe s
def tTrue : TT := fun _ H Q => Q true H
theorem pts_nil {X : Cx} : PTs X [] tTrue := fun _ _ _ H _ I h => wpAny_tests_nil ⟨H, I, h⟩
theorem pts_one {X : Cx} {c : Expr} {t : TT} (h : PT X c t) : PTs X [c] t := fun pins s σ H Q I q => wpAny_tests_one (h pins s σ H Q I q)

/-! ### what is captured -/
def closOf (scope : Scope) (env : Env) : List (Str × Addr) := (scope.names.filter fun y => y.2 == .free).reverse.map fun y => (y.1, (env.cells.lookup y.1).getD 0)

theorem clos_loop {env : Env} : ∀ (ns : List (Str × NameKind)) (acc : List (Str × Addr)), (∀ y ∈ ns, y.2 = .free → (env.cells.lookup y.1).isSome = true) →
    (forIn ns acc fun (x : Str × NameKind) (r : List (Str × Addr)) => if x.2 == .free then do let a ← cellOf env x.1; pure (ForInStep.yield ((x.1, a) :: r)) else pure (ForInStep.yield r) : Sem (List (Str × Addr))) =
      pure ((ns.filter fun y => y.2 == .free).reverse.map (fun y => (y.1, (env.cells.lookup y.1).getD 0)) ++ acc) := by
  intro ns
  induction ns with
  | nil => intro acc _; rfl
  | cons y r ih =>
    intro acc h
    have hr : ∀ z ∈ r, z.2 = .free → (env.cells.lookup z.1).isSome = true := fun z hz => h z (List.mem_cons_of_mem _ hz)
    rw [List.forIn_cons]
    by_cases hf : (y.2 == NameKind.free) = true
    · have hs := h y List.mem_cons_self (by simpa using hf)
      obtain ⟨c, hc⟩ := Option.isSome_iff_exists.mp hs
      have e1 : cellOf env y.1 = pure c := by unfold cellOf; rw [hc]
      rw [if_pos hf, e1, pure_bind, pure_bind]
      refine (ih _ hr).trans ?_
      rw [List.filter_cons_of_pos (by simpa using hf), List.reverse_cons, List.map_append]
      simp [hc]
    · rw [if_neg hf, pure_bind]
      refine (ih _ hr).trans ?_
      rw [List.filter_cons_of_neg (by simpa using hf)]
theorem clos_eq {scope : Scope} {env : Env} (h : ∀ y ∈ scope.names, y.2 = .free → (env.cells.lookup y.1).isSome = true) : closureFor scope env = pure (closOf scope env) := by
  have e := clos_loop (env := env) scope.names [] h
  rw [List.append_nil] at e
  unfold closureFor
  rw [show closOf scope env = (scope.names.filter fun y => y.2 == .free).reverse.map (fun y => (y.1, (env.cells.lookup y.1).getD 0)) from rfl]
  rw [← pure_bind (m := Sem) ((scope.names.filter fun y => y.2 == .free).reverse.map (fun y => (y.1, (env.cells.lookup y.1).getD 0))) pure, ← e]
theorem lookup_pairs {β : Type} (f : Str → β) : ∀ (l : List (Str × NameKind)) (x : Str), (l.map fun y => (y.1, f y.1)).lookup x = if x ∈ l.map (·.1) then some (f x) else none
  | [], x => by simp
  | y :: r, x => by
    rw [List.map_cons, List.lookup_cons, lookup_pairs f r x]
    by_cases e : x = y.1
    · subst e; simp
    · have hb : (x == y.1) = false := by simpa using e
      rw [hb]
      by_cases hm : x ∈ r.map (·.1)
      · rw [if_pos hm, if_pos (by rw [List.map_cons]; exact List.mem_cons_of_mem _ hm)]
      · rw [if_neg hm, if_neg (by rw [List.map_cons]; intro z; rcases List.mem_cons.mp z with z | z; exact e z; exact hm z)]
theorem clos_some {scope : Scope} {env : Env} {x : Str} {c : Addr} (h : ∀ y ∈ scope.names, y.2 = .free → (env.cells.lookup y.1).isSome = true) (e : (closOf scope env).lookup x = some c) : env.cells.lookup x = some c := by
  unfold closOf at e
  rw [lookup_pairs (fun z => (env.cells.lookup z).getD 0)] at e
  split at e
  · rename_i hx
    obtain ⟨y, hy, rfl⟩ := List.mem_map.mp hx
    obtain ⟨h1, h2⟩ := List.mem_filter.mp (List.mem_reverse.mp hy)
    obtain ⟨d, hd⟩ := Option.isSome_iff_exists.mp (h y h1 (by simpa using h2))
    have e' := Option.some.inj e
    rw [hd] at e' ⊢
    exact congrArg some e'
  · cases e
theorem clos_has {scope : Scope} {env : Env} {x : Str} (hx : (x, NameKind.free) ∈ scope.names) : ∃ c, (closOf scope env).lookup x = some c := by
  unfold closOf
  rw [lookup_pairs (fun z => (env.cells.lookup z).getD 0), if_pos]
  · exact ⟨_, rfl⟩
  · exact List.mem_map.mpr ⟨(x, .free), List.mem_reverse.mpr (List.mem_filter.mpr ⟨hx, by simp⟩), rfl⟩
theorem relabel_kind {env : Env} : ∀ {names : List (Str × NameKind)} {x : Str} {k : NameKind},
    (names.map fun (n, k) => if (k == NameKind.free && env.scope.kind == .function && env.kindOf n == some .cell) then (n, NameKind.cell) else (n, k)).lookup x = some k →
      names.lookup x = some k ∨ (k = .cell ∧ names.lookup x = some .free)
  | [], _, _, h => by simp at h
  | (n, k0) :: r, x, k, h => by
    rw [List.map_cons] at h
    dsimp only at h
    cases hx : x == n with
    | true =>
      by_cases hc : (k0 == NameKind.free && env.scope.kind == .function && env.kindOf n == some .cell) = true
      · rw [if_pos hc] at h
        simp only [List.lookup_cons, hx] at h ⊢
        have : k0 = .free := by
          have h1 := (Bool.and_eq_true _ _ ▸ ((Bool.and_eq_true _ _ ▸ hc).1)).1
          simpa using h1
        exact .inr ⟨(Option.some.inj h).symm, by rw [this]⟩
      · rw [if_neg hc] at h
        simp only [List.lookup_cons, hx] at h ⊢
        exact .inl h
    | false =>
      have h' : (r.map fun (n, k) => if (k == NameKind.free && env.scope.kind == .function && env.kindOf n == some .cell) then (n, NameKind.cell) else (n, k)).lookup x = some k := by
        by_cases hc : (k0 == NameKind.free && env.scope.kind == .function && env.kindOf n == some .cell) = true
        · rw [if_pos hc] at h; simpa only [List.lookup_cons, hx] using h
        · rw [if_neg hc] at h; simpa only [List.lookup_cons, hx] using h
      simp only [List.lookup_cons, hx]
      exact relabel_kind h'
theorem relabel_free {env : Env} : ∀ {names : List (Str × NameKind)} {x : Str}, names.lookup x = some .free →
    (names.map fun (n, k) => if (k == NameKind.free && env.scope.kind == .function && env.kindOf n == some .cell) then (n, NameKind.cell) else (n, k)).lookup x = some .cell ∨
    (names.map fun (n, k) => if (k == NameKind.free && env.scope.kind == .function && env.kindOf n == some .cell) then (n, NameKind.cell) else (n, k)).lookup x = some .free
  | [], _, h => by simp at h
  | (n, k0) :: r, x, h => by
    rw [List.map_cons]
    dsimp only
    cases hx : x == n with
    | true =>
      simp only [List.lookup_cons, hx] at h
      have e : k0 = .free := Option.some.inj h
      by_cases hc : (k0 == NameKind.free && env.scope.kind == .function && env.kindOf n == some .cell) = true
      · rw [if_pos hc]; exact .inl (by simp only [List.lookup_cons, hx])
      · rw [if_neg hc]; exact .inr (by simp only [List.lookup_cons, hx]; rw [e])
    | false =>
      simp only [List.lookup_cons, hx] at h
      have ih := relabel_free (env := env) h
      by_cases hc : (k0 == NameKind.free && env.scope.kind == .function && env.kindOf n == some .cell) = true
      · rw [if_pos hc]; simpa only [List.lookup_cons, hx] using ih
      · rw [if_neg hc]; simpa only [List.lookup_cons, hx] using ih

/-- what is asked of a comprehension's names; sc, N: the names around it -/
structure CompOk (sc : Scope) (N Nc : List Str) (ix : List (Option Nat)) (scope : Scope) : Prop where
  kind : scope.kind = .function
  nocell : ∀ y ∈ scope.names, y.2 ≠ .cell
  names : ∀ y ∈ scope.names, y.2 = .local → scope.names.lookup y.1 = some .local
  free : ∀ y ∈ scope.names, y.2 = .free → sc.names.lookup y.1 = some .cell ∨ sc.names.lookup y.1 = some .free
  len : ix.length = Nc.length
  chk : ((ix.zip Nc).all fun p => match p.1 with | none => true | some j => N[j]? == some p.2 && scope.names.lookup p.2 == some .free) = true
theorem CompOk.at_ {sc : Scope} {N Nc : List Str} {ix : List (Option Nat)} {scope : Scope} (o : CompOk sc N Nc ix scope) {i j : Nat} {x : Str} (h1 : ix[i]? = some (some j)) (h2 : Nc[i]? = some x) : N[j]? = some x ∧ scope.names.lookup x = some .free := by
  have hm : (some j, x) ∈ ix.zip Nc := by
    refine List.mem_of_getElem? (i := i) ?_
    rw [List.getElem?_zip_eq_some]
    exact ⟨h1, h2⟩
  have q := List.all_eq_true.mp o.chk _ hm
  have q' := Bool.and_eq_true _ _ ▸ q
  exact ⟨by simpa using q'.1, by simpa using q'.2⟩

/-- the context of a comprehension's block -/
def cxComp (X : Cx) (Nc : List Str) (scope : Scope) (cl : List (Str × Addr)) (C : Addr) (s : Shared) (H : Hp) (fp : List Addr) : Cx where
  prog := X.prog
  w := X.w
  K := X.K
  mg := X.mg
  base := X.base
  A := X.A
  N := Nc
  s₀ := s
  H₀ := H
  env := compEnvC scope cl C X.env
  outer := X.stack
  stack := X.stack
  ex := fp
  fn := fun x => (cl.lookup x).isNone
  calm := X.calm
  pn := X.pn
  xe := fun _ _ => False

section
variable {X : Cx} {pins : List (Addr × Obj)} {σ : St} {H : Hp} {s : Shared} {Nc : List Str} {ix : List (Option Nat)} {scope : Scope}
theorem all_cells (I : Inv X pins σ H s) (ok : CompOk X.env.scope X.N Nc ix scope) : ∀ y ∈ scope.names, y.2 = .free → (X.env.cells.lookup y.1).isSome = true := fun y hy hf => by
  obtain ⟨c, hc⟩ := I.ok.has y.1 (ok.free y hy hf)
  rw [hc]; rfl
/-- the block begins: s is the state with the new list, C the block's own dict -/
theorem comp_start {fp : List Addr} {h1 : Heap} {t' : Nat} (I : Inv X pins σ H s) (ok : CompOk X.env.scope X.N Nc ix scope) (hf : ∀ b ∈ fp, FpOk X pins H b) (hob : ∀ b ∈ fp, ∃ o, s.heap.get? b = some o)
    {m : Str → Option Value} (hn : h1.Ns s.heap.objs.size m) (hk : ∀ b o, s.heap.get? b = some o → h1.get? b = some o) :
    Inv (cxComp X Nc scope (closOf scope X.env) s.heap.objs.size s H fp) pins (sub ix σ) H { s with heap := h1, toks := t' } := by
  have ac := all_cells I ok
  have old : ∀ {b : Addr} {o : Obj}, s.heap.get? b = some o → b ≠ s.heap.objs.size := fun e => Nat.ne_of_lt (Heap.lt_size e)
  refine ⟨⟨I.ok.mod, ?_, I.ok.glob, I.ok.blt, Nat.le_refl _, ?_, ?_, ?_, I.ok.hd, I.ok.frames, .inl rfl, ?_, I.bs, Nat.le_trans I.ok.bsz I.sz, ?_, ?_, I.stack, I.stkFree⟩, rfl, I.bare, Un.kept hk, ⟨m, hn, ?_⟩, ?_, ?_, ?_, ?_, I.hok.kept hk, ?_⟩
  · exact ok.kind
  · intro x y c e1 e2
    exact I.ok.inj x y c (clos_some ac e1) (clos_some ac e2)
  · intro x hx
    have key : ∀ k, (relabel scope X.env).names.lookup x = some k → (k = .cell ∨ k = .free) → ∃ c, (closOf scope X.env).lookup x = some c := fun k e hkk => by
      rcases relabel_kind e with q | ⟨_, q⟩
      · rcases hkk with rfl | rfl
        · exact absurd rfl (ok.nocell _ (PySem.mem_of_lookup q))
        · exact clos_has (PySem.mem_of_lookup q)
      · exact clos_has (PySem.mem_of_lookup q)
    rcases hx with e | e
    · exact key _ e (.inl rfl)
    · exact key _ e (.inr rfl)
  · intro x c hfn e
    have e' : (closOf scope X.env).lookup x = some c := e
    have hfn' : ((closOf scope X.env).lookup x).isNone = true := hfn
    rw [e'] at hfn'; cases hfn'
  · intro b hb
    obtain ⟨o, e⟩ := hob b hb
    obtain ⟨f0, f1, f2, f3, f4, f5⟩ := hf b hb
    exact ⟨old e, fun x c q => f4 x c (clos_some ac q)⟩
  · intro b o e hb
    obtain ⟨f0, f1, f2, f3, f4, f5⟩ := hf b hb
    rcases f3 with z | z
    · exact I.ok.noex b o e z
    · exact absurd (Nat.lt_of_lt_of_le (Nat.lt_of_lt_of_le (Heap.lt_size e) I.ok.bsz) z) (Nat.lt_irrefl _)
  · intro b hb hz
    obtain ⟨f0, f1, f2, f3, f4, f5⟩ := hf b hb
    rcases List.mem_cons.mp (I.stkSub b hz) with z | z
    · exact f1 z
    · exact f2 z
  · intro i x v e1 e2 e3
    have e1 : Nc[i]? = some x := e1
    unfold sub at e2
    rw [List.getElem?_map] at e2
    cases hi : ix[i]? with
    | none => rw [hi] at e2; cases e2
    | some o =>
      cases o with
      | none => rw [hi] at e2; cases e2
      | some j =>
        obtain ⟨hN, hfree⟩ := ok.at_ hi e1
        have e4 : σ[j]? = some (some v) := by
          rw [hi] at e2
          have e2' : some ((σ[j]?).join) = some (some v) := e2
          have e5 := Option.some.inj e2'
          cases hj : σ[j]? with
          | none => rw [hj] at e5; cases e5
          | some z => rw [hj] at e5; exact congrArg some e5
        have hvis : Vis X.env.scope x := by
          rcases ok.free (x, .free) (PySem.mem_of_lookup hfree) rfl with q | q
          · exact .inr (.inl q)
          · exact .inr (.inr q)
        obtain ⟨m0, hn0, hl⟩ := I.loc
        obtain ⟨u, r, lk⟩ := hl j x v hN e4 hvis
        refine ⟨u, r, .inr ⟨relabel_free hfree, ?_⟩⟩
        rcases lk with ⟨q, _⟩ | ⟨_, c, hc, z⟩
        · rcases ok.free (x, .free) (PySem.mem_of_lookup hfree) rfl with q2 | q2
          · exact absurd (q.symm.trans q2) (by decide)
          · exact absurd (q.symm.trans q2) (by decide)
        · obtain ⟨d, hd⟩ := clos_has (env := X.env) (PySem.mem_of_lookup hfree)
          have := clos_some ac hd
          rw [hc] at this; cases this
          obtain ⟨oc, e5, e6⟩ := z
          exact ⟨c, hd, oc, hk c oc e5, e6⟩
  · intro x c e
    obtain ⟨v, oc, e5, e6⟩ := I.cell x c (clos_some ac e)
    exact ⟨v, oc, hk c oc e5, e6⟩
  · exact I.hok.fresh (Nat.le_refl _)
  · intro x c e
    exact I.freeC x c (clos_some ac e)
  · intro p hp
    obtain ⟨e, n, ne, nf, d⟩ := I.pin p hp
    refine ⟨hk _ _ e, n, old e, fun z => ?_, d⟩
    rcases List.mem_cons.mp (I.stkSub p.1 z) with q | q
    · exact ne q
    · exact nf q
  · unfold sub
    rw [List.length_map]
    exact ok.len
/-- the block has ended -/
theorem comp_end {fp : List Addr} {cl : List (Str × Addr)} {C : Addr} {σ' : St} {H' : Hp} {s' : Shared} {h' : Heap} (I : Inv X pins σ H s) (hf : ∀ b ∈ fp, FpOk X pins H b) (hC : s.heap.get? C = none)
    (J : Inv (cxComp X Nc scope cl C s H fp) pins σ' H' s') (sb : Heap.SameBut C s'.heap h') : Inv X pins σ H' { s' with heap := h' } := by
  have u : Un (frs X.stack) fp H H' s.heap s'.heap := J.base
  have hCf : H' C = none := J.free
  have hCn : ∀ {b : Addr} {o : Obj}, s.heap.get? b = some o → b ≠ C := fun e z => by rw [z, hC] at e; cases e
  refine I.call' (s' := { s' with heap := h' }) (ch := fp) J.os ⟨fun b o e n h1 h2 => ?_, fun b o e n h1 h2 => ?_, u.free, fun b o e h2 => ?_, u.tups, u.frzs, u.tbls⟩ ?_ J.bare fun b hb => ?_
  · exact (sb.2 b (hCn e)).trans (u.keep b o e n h1 h2)
  · obtain ⟨sl, q⟩ := u.slot b o e n h1 h2
    exact ⟨sl, (sb.2 b (hCn e)).trans q⟩
  · obtain ⟨o', q⟩ := u.there b o e h2
    exact ⟨o', (sb.2 b (hCn e)).trans q⟩
  · intro b o e
    refine (J.hok b o e).stay (fun c v hc q => (sb.2 c ?_).trans q) (fun _ q => q) fun _ _ q => q
    rintro rfl
    rcases hc with z | z
    · rw [← z, hCf] at e; cases e
    · rw [hCf] at z; cases z
  · obtain ⟨f0, f1, f2, f3, f4, f5⟩ := hf b hb
    exact ⟨f3, f1, f4, f5⟩

end
end L3

set_option Elab.async false
set_option linter.all false
set_option maxRecDepth 100000
set_option maxHeartbeats 4000000
namespace L3
open PySem PySem.Spec PyProof.Rows L2

def memK (k : Key) (l : List Key) : Bool := l.any fun x => decide (x = k)
theorem memK_iff {k : Key} {l : List Key} : memK k l = true ↔ k ∈ l := by
  unfold memK
  rw [List.any_eq_true]
  constructor
  · rintro ⟨x, hx, e⟩
    have := of_decide_eq_true e
    subst this; exact hx
  · intro h; exact ⟨k, h, by simp⟩
theorem memK_snoc (k' k : Key) (l : List Key) : (memK k' l || decide (k' = k)) = memK k' (l ++ [k]) := by
  unfold memK
  rw [List.any_append]
  by_cases e : k' = k
  · subst e; simp
  · have e' : ¬ k = k' := fun z => e z.symm
    simp [e, e']
theorem memK_not {k : Key} {l : List Key} (h : ¬ k ∈ l) : memK k l = false := by
  cases e : memK k l with
  | false => rfl
  | true => exact absurd (memK_iff.mp e) h
theorem keyIs_scan {k : Key} {v : Value} (h : keyIs k v = true) : v.scannable = true := by
  rcases keyIs_shape h with ⟨i, t, rfl, rfl⟩ | ⟨x, t, rfl, rfl⟩ <;> rfl
theorem setOf_eq {prog : Program} {w : World} {h : Heap} {a : Addr} {S S' : Key → Bool} {n n' : Nat} (x : h.SetOf (mixKind prog w) a S n) (e : ∀ k, S k = S' k) (en : n = n') : h.SetOf (mixKind prog w) a S' n' := by
  have : S = S' := funext e
  subst this; subst en; exact x
theorem setOf_keep {prog : Program} {w : World} {h h' : Heap} {a : Addr} {S : Key → Bool} {n : Nat} (x : h.SetOf (mixKind prog w) a S n) (k : ∀ o, h.get? a = some o → h'.get? a = some o) : h'.SetOf (mixKind prog w) a S n := by
  obtain ⟨o, es, ep, t, ho, r⟩ := x
  exact ⟨o, es, ep, t, k o ho, r⟩

section
variable {prog : Program} {w : World} {A : Around} {E : Value → Shared → Prop} {R : Result → Shared → Prop}

theorem set_loop {I ax S : Addr} {items : Array Value} {ks : List Key} (hh : A.handled = none) (hne : ax ≠ I) (hSI : S ≠ I) (hSa : S ≠ ax)
    (hv : ∀ (i : Nat) v, items[i]? = some v → ∃ k, ks[i]? = some k ∧ keyIs k v = true) (hl : ks.length = items.size) (hb : items.size + 1 < scanBound) :
    ∀ (c i : Nat) (s : Shared) (n : Nat), items.size - i = c → i ≤ items.size → s.heap.IsListIter I ax i ∧ s.heap.IsList ax items →
      s.heap.SetOf (mixKind prog w) S (fun k => memK k (ks.take i)) n → n ≤ i → (n = i ↔ (ks.take i).Nodup) →
      (∀ (h' : Heap) (tk n' : Nat), h'.SetOf (mixKind prog w) S (fun k => memK k ks) n' → n' ≤ ks.length → (n' = ks.length ↔ ks.Nodup) → (∀ b o, b ≠ S → b ≠ I → s.heap.get? b = some o → h'.get? b = some o) →
        R (.ok (.ret .none)) { s with heap := h', toks := tk }) →
      codeAny (model prog w) A (.builtin "set.update.loop" ⟨[.ref S, .ref I], []⟩) R s := by
  have W := Walks.list (prog := prog) (w := w) (A := A.in1) (by simpa using hh) I ax hne items
  intro c
  induction c with
  | zero =>
    intro i s n hc hi st hS hn hnd hR
    have e : i = items.size := by omega
    subst e
    refine codeAny_builtin PyProof.Rows.F.entry_set_update_loop ?_
    rw [Around.under_plainId PyProof.Rows.F.plain_set_update_loop _]
    show wpAny _ A.in1 (pyNext (.ref I) >>= _) _ _ s
    refine wpAny_bind (W.done s _ _ st fun h' tk hk => ?_)
    show wpAny _ A.in1 (ret Value.none) _ _ _
    have et : ks.take items.size = ks := by rw [← hl]; exact List.take_length
    rw [et] at hnd
    refine wpAny_pure (hR h' tk n (setOf_eq (setOf_keep hS fun o z => hk S o (by simpa using hSI) z) (fun k => by rw [et]) rfl) (by omega) (by rw [hl]; exact hnd) fun b o _ hbI z => hk b o (by simpa using hbI) z)
  | succ c ih =>
    intro i s n hc hi st hS hn hnd hR
    have hlt : i < items.size := by omega
    refine codeAny_builtin PyProof.Rows.F.entry_set_update_loop ?_
    rw [Around.under_plainId PyProof.Rows.F.plain_set_update_loop _]
    show wpAny _ A.in1 (pyNext (.ref I) >>= _) _ _ s
    refine wpAny_bind (W.item i s _ _ hlt st fun v h1 tk hP st1 hk => ?_)
    obtain ⟨k, hki, kis⟩ := hv i v hP
    have hS1 : h1.SetOf (mixKind prog w) S (fun k => memK k (ks.take i)) n := setOf_keep hS fun o z => hk S o (by simpa using hSI) z
    show wpAny _ A.in1 (holding [v] (setAdd S v) >>= _) _ _ { s with heap := h1, toks := tk }
    refine wpAny_bind (wpAny_holding ?_)
    unfold setAdd
    refine wpAny_holding (wpAny_bind ((mixKind prog w).pyHash (k := k) kis ?_))
    refine wpAny_setAddHashed_of (knd := mixKind prog w) (s := { s with heap := h1, toks := tk + 1 }) kis (keyIs_scan kis) hS1 (by omega) fun h2 hsb hS2 => ?_
    have hik : i < ks.length := by omega
    have ek : ks[i] = k := by
      have := List.getElem?_eq_getElem hik
      rw [hki] at this
      exact (Option.some.inj this).symm
    have et : ks.take (i + 1) = ks.take i ++ [k] := by rw [List.take_add_one, hki]; rfl
    have e1 : ∀ k', (memK k' (ks.take i) || decide (k' = k)) = memK k' (ks.take (i + 1)) := fun k' => by rw [et]; exact memK_snoc _ _ _
    by_cases hin : k ∈ ks.take i
    · have hS3 := setOf_eq (n' := n) hS2 e1 (by rw [if_pos (memK_iff.mpr hin)])
      refine wpAny_pure ⟨plainId_quiet PyProof.Rows.F.plain_set_update_loop _, ih (i + 1) _ n (by omega) hlt (W.frame _ _ _ st1 fun b hb o z => ?_) hS3 (by omega) ?_ fun h' tk' n' a1 a2 a3 a4 => ?_⟩
      · rw [hsb.2 b (fun q => by subst q; simp at hb; exact hb.elim hSI hSa)]; exact z
      · constructor
        · intro q; omega
        · intro q
          rw [et] at q
          exact absurd hin (fun z => (List.nodup_append.mp q).2.2 _ z _ (by simp) rfl)
      · exact hR h' tk' n' a1 a2 a3 fun b o hbS hbI z => a4 b o hbS hbI (by rw [hsb.2 b hbS]; exact hk b o (by simpa using hbI) z)
    · have hS3 := setOf_eq (n' := n + 1) hS2 e1 (by rw [memK_not hin]; rfl)
      refine wpAny_pure ⟨plainId_quiet PyProof.Rows.F.plain_set_update_loop _, ih (i + 1) _ (n + 1) (by omega) hlt (W.frame _ _ _ st1 fun b hb o z => ?_) hS3 (by omega) ?_ fun h' tk' n' a1 a2 a3 a4 => ?_⟩
      · rw [hsb.2 b (fun q => by subst q; simp at hb; exact hb.elim hSI hSa)]; exact z
      · rw [et]
        constructor
        · intro q
          exact List.nodup_append.mpr ⟨hnd.mp (by omega), by simp, fun a ha b hb q2 => by rw [List.mem_singleton.mp hb] at q2; subst q2; exact hin ha⟩
        · intro q
          have := hnd.mpr (List.nodup_append.mp q).1
          omega
      · exact hR h' tk' n' a1 a2 a3 fun b o hbS hbI z => a4 b o hbS hbI (by rw [hsb.2 b hbS]; exact hk b o (by simpa using hbI) z)

set_option maxHeartbeats 8000000 in
theorem call_set_keys {s : Shared} {l : Addr} {items : Array Value} {ks : List Key} {Q : Value → Shared → Prop} (hh : A.handled = none) (hl : s.heap.IsList l items)
    (hv : ∀ (i : Nat) v, items[i]? = some v → ∃ k, ks[i]? = some k ∧ keyIs k v = true) (hz : ks.length = items.size) (hb : items.size + 1 < scanBound)
    (h : ∀ (h' : Heap) (tk n : Nat), h'.SetOf (mixKind prog w) s.heap.objs.size (fun k => memK k ks) n → n ≤ ks.length → (n = ks.length ↔ ks.Nodup) → (∀ b o, s.heap.get? b = some o → h'.get? b = some o) → Q (.ref s.heap.objs.size) { s with heap := h', toks := tk }) :
    wpAny (model prog w) A (call (.type "set") [.ref l]) Q E s := by
  have hmade := PySem.F.called_set.made
  have hsub := PySem.F.called_set.sub
  obtain ⟨c, tl, hmro⟩ := PySem.F.called_set.mro
  refine wpAny_call (codeAny_of_tree (wpAny_pure ⟨Code.quiet_builtin _ (by decide +kernel), codeAny_builtin PySem.F.entry_type_call ?_⟩))
  rw [Around.under_plain (weight_type_call_type "set" [.ref l] []) rfl]
  have g1 := PySem.F.called_set.notType
  have g2 := PySem.F.called_set.canCreate
  have g3 := PySem.F.typeCall_set_1 (.ref l)
  repeat (any_goals (first | assumption | wp_step))
  refine codeAny_mono (code_set_new_1 (.ref l) (E := E) (Q₁ := fun obj t => ∃ led : Bool, obj = .ref s.heap.objs.size ∧ t = { s with heap := s.heap.push { cls := .type "set", dict := none, data := .set #[] 0 (.fresh 0 0 led) } }) fun led => ⟨led, rfl, rfl⟩) fun r t hr => ?_
  cases r with
  | error e => exact hr
  | ok fl =>
    cases fl with
    | ret obj =>
      obtain ⟨led, rfl, rfl⟩ := hr
      have hS : (s.heap.push { cls := .type "set", dict := none, data := .set #[] 0 (.fresh 0 0 led) }).get? s.heap.objs.size = some { cls := .type "set", dict := none, data := .set #[] 0 (.fresh 0 0 led) } := Heap.get?_push_size _ rfl
      have hT : Shared.TypeIs { s with heap := s.heap.push { cls := .type "set", dict := none, data := .set #[] 0 (.fresh 0 0 led) } } (.ref s.heap.objs.size) "set" := ⟨_, hS, rfl⟩
      have hli := PySem.F.called_set.init.lookup
      have hbi := PySem.F.called_set.init.bind (.ref s.heap.objs.size)
      repeat (any_goals (first | assumption | wp_step))
      refine codeAny_mono (codeAny_call_builtin (R := wants (fun r u => r = .none ∧ ∃ h' tk n, u = { s with heap := h', toks := tk } ∧ h'.SetOf (mixKind prog w) s.heap.objs.size (fun k => memK k ks) n ∧ n ≤ ks.length ∧ (n = ks.length ↔ ks.Nodup) ∧
          (∀ b o, s.heap.get? b = some o → h'.get? b = some o)) E) PySem.F.called_set.init.plain PySem.F.entry_set_init (check_set_init_1 hT ?_)) fun r2 u hr2 => ?_
      · obtain ⟨ol, hol, hcl, nl, hdl⟩ := hl
        obtain ⟨ocls, odict, odata, oslots⟩ := ol
        simp only at hcl hdl
        subst hcl; subst hdl
        have hol' : (s.heap.push { cls := .type "set", dict := none, data := .set #[] 0 (.fresh 0 0 led) }).get? l = some { cls := .type "list", dict := odict, data := .seq items nl, slots := oslots } := Heap.get?_push_of_some _ hol
        have hsls := PySem.F.sub_list_set
        have hslf := PySem.F.sub_list_frozenset
        have hne : (Value.type "list" == Value.type "dict") = false := by decide
        have hl1 : (s.heap.push { cls := .type "set", dict := none, data := .set #[] 0 (.fresh 0 0 led) }).IsList l items := ⟨_, hol', rfl, nl, rfl⟩
        unfold Builtin.«set.__init__» noKeywords Builtin.Frozenset.updateFrom
        generalize hPI : pyIter = PI
        wp_walk
        subst hPI
        refine wpAny_pyIter_list hl1 ?_
        refine wpAny_bind (wpAny_runValue ?_)
        have hlS : l < s.heap.objs.size := Heap.lt_size hol
        have z1 : (s.heap.push { cls := .type "set", dict := none, data := .set #[] 0 (.fresh 0 0 led) }).objs.size = s.heap.objs.size + 1 := Heap.size_push _ _
        refine set_loop (ks := ks) (items := items) (ax := l) (by simpa using hh) (by rw [z1]; exact Nat.ne_of_lt (Nat.lt_succ_of_lt hlS)) (by rw [z1]; exact Nat.ne_of_lt (Nat.lt_succ_self _)) (Nat.ne_of_gt hlS) hv hz hb (items.size - 0) 0 _ 0 (by omega) (Nat.zero_le _)
          ⟨⟨_, Heap.get?_push_size _ rfl, rfl, rfl⟩, (hl1.push _)⟩ ?hS0 (Nat.le_refl _) (by simp) ?hR
        case hS0 =>
          refine setOf_eq (setOf_keep (h := s.heap.push { cls := .type "set", dict := none, data := .set #[] 0 (.fresh 0 0 led) }) ?_ fun o z => Heap.get?_push_of_some _ z) (S := fun _ => false) (fun k => rfl) rfl
          exact ⟨_, #[], 0, _, hS, ⟨rfl, rfl, rfl⟩, rfl, (fun e he => by simp at he), (fun k => by simp [memK]), (by unfold scanBound; decide), rfl, rfl⟩
        case hR =>
          intro h' tk n a1 a2 a3 a4
          show wpAny _ _ _ _ _ _
          refine wpAny_pure ?_
          show wpAny _ _ (ret Value.none) _ _ _
          refine wpAny_pure ⟨rfl, h', tk, n, rfl, a1, a2, a3, fun b o z => ?_⟩
          have hlt := Heap.lt_size z
          exact a4 b o (Nat.ne_of_lt hlt) (by rw [z1]; exact Nat.ne_of_lt (Nat.lt_succ_of_lt hlt)) (Heap.get?_push_of_some _ (Heap.get?_push_of_some _ z))
      · cases r2 with
        | error e => exact hr2
        | ok fl2 =>
          cases fl2 with
          | ret r =>
            obtain ⟨rfl, h', tk, n, rfl, a1, a2, a3, a4⟩ := hr2
            repeat (any_goals (first | assumption | wp_step))
            exact h _ _ n a1 a2 a3 a4
          | _ => exact hr2.elim
    | _ => exact hr.elim
end

/-- a set of so many things stands at a -/
def SetN (a : Addr) (n : Nat) : HO := .ext fun h => ∃ o es ep t, h.get? a = some o ∧ o.ExactSet ∧ o.data = .set es ep t ∧ t.fits es.size = true ∧ es.size = n

section
variable {X : Cx}
theorem vals_keys : ∀ {ks : List Key} {us : List Value}, Vals (ks.map kV) us → ∀ (i : Nat) v, us[i]? = some v → ∃ k, ks[i]? = some k ∧ keyIs k v = true
  | [], _, .nil, i, v, h => by simp at h
  | k :: r, _, .cons a b, 0, v, h => by
    simp at h; subst h
    refine ⟨k, rfl, ?_⟩
    cases k with
    | inl n => obtain ⟨t, rfl⟩ := a; exact keyIs_int n t
    | inr x => obtain ⟨t, rfl⟩ := a; exact keyIs_str x t
  | k :: r, _, .cons a b, i + 1, v, h => by
    obtain ⟨k', e, q⟩ := vals_keys b i v (by simpa using h)
    exact ⟨k', by simpa using e, q⟩
/-- set(xs), the items ints and texts -/
theorem call_set (hc : X.calm = true) : CallR X (.type "set") (fun xs H Q => ∃ (p : Addr) (ks : List Key), xs = [.ref p] ∧ SqL X.K H p (ks.map kV) ∧ ks.length < 4000 ∧ ∀ n a, n ≤ ks.length → (n = ks.length ↔ ks.Nodup) → H a = none → Q (.ref a) (upd H a (SetN a n))) := by
  intro pins s σ H xs us Q I r h
  obtain ⟨p, ks, rfl, hq, hl, q⟩ := h
  obtain ⟨u, rfl, ru⟩ := vals1 r
  obtain rfl : u = Value.ref p := ru
  obtain ⟨its, rv, pl, hz⟩ := I.list hq
  have el := rv.length
  rw [List.length_map] at el
  refine call_set_keys (I.ok.hd hc) pl.isList (fun i v e => vals_keys rv i v (by simpa using e)) (by simpa using el) (by unfold scanBound; simp; omega) fun h' tk n a1 a2 a3 a4 => ?_
  refine ⟨.ref s.heap.objs.size, _, I.laid a4 (Nat.le_refl _) ?_, rfl, q n _ a2 a3 (I.hok.fresh (Nat.le_refl _))⟩
  obtain ⟨o, es, ep, t, ho, e1, e2, e3, e4, e5, e6, e7⟩ := a1
  refine ⟨⟨o, es, ep, t, ho, e1, e2, e6, e7⟩, ⟨o, ho⟩, ?_⟩
  rintro h1 h2 ⟨o1, es1, ep1, t1, b1, b2⟩ k
  exact ⟨o1, es1, ep1, t1, k _ b1, b2⟩
/-- len of such a set -/
theorem call_lenS : CallR X (.builtin "len") (fun xs H Q => ∃ a n, xs = [.ref a] ∧ H a = some (SetN a n) ∧ n < 4000 ∧ Q (.int n) H) := by
  intro pins s σ H xs us Q I r h
  obtain ⟨a, n, rfl, ha, hn, q⟩ := h
  obtain ⟨u, rfl, ru⟩ := vals1 r
  obtain rfl : u = Value.ref a := ru
  obtain ⟨⟨o, es, ep, t, e1, e2, e3, e4, e5⟩, _⟩ := I.hok a _ ha
  refine call_len_set e1 e2 e3 e4 (by omega) ?_
  exact ⟨.int n, H, I.tok _, ⟨_, by rw [e5]⟩, q⟩
end
end L3

set_option Elab.async false
set_option linter.all false
set_option maxRecDepth 100000
set_option maxHeartbeats 4000000
namespace L3
open PySem PySem.Spec PyProof.Rows L2

/-! ### sorting -/
def sortI (ns : List Int) : List Int := ns.mergeSort fun a b => decide (a ≤ b)
theorem sortI_perm (ns : List Int) : (sortI ns).Perm ns := List.mergeSort_perm _ _
theorem sortI_pw (ns : List Int) : (sortI ns).Pairwise (· ≤ ·) := by
  have h := List.pairwise_mergeSort (le := fun a b : Int => decide (a ≤ b)) (fun a b c h1 h2 => by simp at *; omega) (fun a b => by simp; omega) ns
  exact h.imp fun h => by simpa using h
theorem sortI_eq {ns ms : List Int} (hp : ms.Perm ns) (hs : ms.Pairwise (· ≤ ·)) : ms = sortI ns :=
  PySem.W.ksm_same (hp.trans (sortI_perm ns).symm) hs (sortI_pw ns)
def leS (a b : Str) : Bool := !decide (b.cps.toList < a.cps.toList)
theorem leS_trans (a b c : Str) (h1 : leS a b = true) (h2 : leS b c = true) : leS a c = true := by
  unfold leS at *
  simp only [Bool.not_eq_true', decide_eq_false_iff_not, List.not_lt] at *
  exact List.le_trans h1 h2
theorem leS_total (a b : Str) : (leS a b || leS b a) = true := by
  unfold leS
  simp only [Bool.or_eq_true, Bool.not_eq_true', decide_eq_false_iff_not, List.not_lt]
  exact List.le_total _ _
theorem leS_anti {a b : Str} (h1 : leS a b = true) (h2 : leS b a = true) : a = b := by
  unfold leS at *
  simp only [Bool.not_eq_true', decide_eq_false_iff_not, List.not_lt] at *
  have e := List.le_antisymm h1 h2
  cases a; cases b
  simp only [Str.mk.injEq]
  exact Array.toList_inj.mp e
def sortS (ss : List Str) : List Str := ss.mergeSort leS
theorem sortS_perm (ss : List Str) : (sortS ss).Perm ss := List.mergeSort_perm _ _
theorem sortS_pw (ss : List Str) : (sortS ss).Pairwise (fun a b => leS a b = true) := List.pairwise_mergeSort (le := leS) leS_trans leS_total ss
theorem sortS_eq {ss ts : List Str} (hp : ts.Perm ss) (hs : ts.Pairwise fun a b => leS a b = true) : ts = sortS ss :=
  (hp.trans (sortS_perm ss).symm).eq_of_pairwise (fun x y _ _ h1 h2 => leS_anti h1 h2) hs (sortS_pw ss)
theorem rising_pw : ∀ (l : List Str) (p : Str), risingS p l = true → (∀ y ∈ l, leS p y = true) ∧ l.Pairwise fun a b => leS a b = true
  | [], _, _ => ⟨fun _ h => (nomatch h), .nil⟩
  | x :: r, p, h => by
    have h' : (!ltCps x.cps.toList p.cps.toList && risingS x r) = true := h
    rw [Bool.and_eq_true] at h'
    have hx : leS p x = true := by
      have := h'.1
      rw [ltCps_eq] at this
      exact this
    obtain ⟨a, b⟩ := rising_pw r x h'.2
    refine ⟨fun y hy => ?_, .cons (fun y hy => a y hy) b⟩
    rcases List.mem_cons.mp hy with rfl | hy
    · exact hx
    · exact leS_trans _ _ _ hx (a y hy)
theorem sortedS_pw {l : List Str} (h : sortedS l = true) : l.Pairwise fun a b => leS a b = true := by
  cases l with
  | nil => exact .nil
  | cons x r =>
    obtain ⟨a, b⟩ := rising_pw r x h
    exact .cons a b

theorem strsAre_of : ∀ {ss : List Str} {us : List Value}, Vals (ss.map V.str) us → StrsAre us ss
  | [], _, .nil => .nil
  | x :: r, _, .cons a b => by
    obtain ⟨t, rfl⟩ := a
    exact .cons x t (strsAre_of b)
theorem vals_strs : ∀ {ss : List Str} {us : List Value}, StrsAre us ss → Vals (ss.map V.str) us
  | _, _, .nil => .nil
  | _, _, .cons y t r => .cons ⟨t, rfl⟩ (vals_strs r)
theorem vals_intsA : ∀ {ns : List Int} {us : List Value}, IntsAre us ns → Vals (ns.map V.int) us
  | _, _, .nil => .nil
  | _, _, .cons n t r => .cons ⟨t, rfl⟩ (vals_intsA r)
theorem vals_bools : ∀ {bs : List Bool} {us : List Value}, Vals (bs.map V.bl) us → ∀ (i : Nat) v, us[i]? = some v → ∃ b, bs[i]? = some b ∧ v = .bool b
  | [], _, .nil, i, v, h => by simp at h
  | b :: r, _, .cons a c, 0, v, h => by simp at h; subst h; exact ⟨b, rfl, a⟩
  | b :: r, _, .cons a c, i + 1, v, h => by
    obtain ⟨b', e, q⟩ := vals_bools c i v (by simpa using h)
    exact ⟨b', by simpa using e, q⟩

section
variable {X : Cx}
theorem call_sortedI : CallR X (.builtin "sorted") (fun xs H Q => ∃ (p : Addr) (ns : List Int), xs = [.ref p] ∧ SqL X.K H p (ns.map V.int) ∧ ns.length < 64 ∧ ∀ l, H l = none → Q (.ref l) (upd H l (.lst ((sortI ns).map V.int)))) := by
  intro pins s σ H xs us Q I r h
  obtain ⟨p, ns, rfl, hq, hl, q⟩ := h
  obtain ⟨u, rfl, ru⟩ := vals1 r
  obtain rfl : u = Value.ref p := ru
  obtain ⟨its, rv, pl, hz⟩ := I.list hq
  have el := rv.length
  rw [List.length_map] at el
  refine sorted_ints pl.isList (intsAre_of rv) (by omega) fun out ms a1 a2 a3 => ?_
  obtain rfl := sortI_eq a2 a3
  obtain ⟨e, he⟩ := sortedAll_at s.heap its out
  have hlen : ((sortI ns).map V.int).length ≤ sizeLine := by rw [List.length_map, (sortI_perm ns).length_eq, ← List.length_map (f := V.int)]; exact hz
  have ne : H (s.heap.objs.size + 1) = none := I.hok.fresh (Nat.le_succ _)
  exact ⟨.ref (s.heap.objs.size + 1), _, I.laid (o := .lst ((sortI ns).map V.int)) (t' := s.toks) (fun b o z => sortedAll_old z) (Nat.le_succ _) ⟨hlen, out.toList, e, vals_intsA a1, by simpa using he⟩, rfl, q _ ne⟩
theorem call_sortedS : CallR X (.builtin "sorted") (fun xs H Q => ∃ (p : Addr) (ss : List Str), xs = [.ref p] ∧ SqL X.K H p (ss.map V.str) ∧ ss.length < 64 ∧ ∀ l, H l = none → Q (.ref l) (upd H l (.lst ((sortS ss).map V.str)))) := by
  intro pins s σ H xs us Q I r h
  obtain ⟨p, ns, rfl, hq, hl, q⟩ := h
  obtain ⟨u, rfl, ru⟩ := vals1 r
  obtain rfl : u = Value.ref p := ru
  obtain ⟨its, rv, pl, hz⟩ := I.list hq
  have el := rv.length
  rw [List.length_map] at el
  refine sorted_strs pl.isList (strsAre_of rv) (by omega) fun out ms a1 a2 a3 => ?_
  obtain rfl := sortS_eq a2 (sortedS_pw a3)
  obtain ⟨e, he⟩ := sortedAll_at s.heap its out
  have hlen : ((sortS ns).map V.str).length ≤ sizeLine := by rw [List.length_map, (sortS_perm ns).length_eq, ← List.length_map (f := V.str)]; exact hz
  have ne : H (s.heap.objs.size + 1) = none := I.hok.fresh (Nat.le_succ _)
  exact ⟨.ref (s.heap.objs.size + 1), _, I.laid (o := .lst ((sortS ns).map V.str)) (t' := s.toks) (fun b o z => sortedAll_old z) (Nat.le_succ _) ⟨hlen, out.toList, e, vals_strs a1, by simpa using he⟩, rfl, q _ ne⟩
/-- sorted, of texts or of ints -/
def rSorted (K : PySem.W.Frag) : List V → Hp → VK → Prop := fun xs H Q => (∃ (p : Addr) (ss : List Str), xs = [.ref p] ∧ SqL K H p (ss.map V.str) ∧ ss.length < 64 ∧ ∀ l, H l = none → Q (.ref l) (upd H l (.lst ((sortS ss).map V.str)))) ∨ (∃ (p : Addr) (ns : List Int), xs = [.ref p] ∧ SqL K H p (ns.map V.int) ∧ ns.length < 64 ∧ ∀ l, H l = none → Q (.ref l) (upd H l (.lst ((sortI ns).map V.int))))
theorem call_sorted : CallR X (.builtin "sorted") (rSorted X.K) := call_sortedS.or call_sortedI

/-! ### all, any of a list of truths -/
theorem range_all {bs : List Bool} : ((List.range bs.length).all fun i => (bs[i]?).getD true) = bs.all id := by
  induction bs with
  | nil => rfl
  | cons b r ih =>
    rw [List.length_cons, List.range_succ_eq_map, List.all_cons, List.all_map, List.all_cons, ← ih]
    rfl
theorem call_all (hc : X.calm = true) : CallR X (.builtin "all") (fun xs H Q => ∃ (p : Addr) (bs : List Bool), xs = [.ref p] ∧ SqL X.K H p (bs.map V.bl) ∧ Q (.bl (bs.all id)) H) := by
  intro pins s σ H xs us Q I r h
  obtain ⟨p, bs, rfl, hq, q⟩ := h
  obtain ⟨u, rfl, ru⟩ := vals1 r
  obtain rfl : u = Value.ref p := ru
  obtain ⟨its, rv, pl, hz⟩ := I.list hq
  have el := rv.length
  rw [List.length_map] at el
  have hlt : p < s.heap.objs.size := by obtain ⟨_, e, _⟩ := pl.isList; exact Heap.lt_size e
  refine call_all_walk (wpAny_pyIter_list pl.isList ?_)
  refine ⟨s.heap.objs.size, [s.heap.objs.size, p], [s.heap.objs.size], its.toArray.size, _, _, fun i => (bs[i]?).getD true, rfl, Walks.list (A := X.A.in1) (by simpa using I.ok.hd hc) _ p (Nat.ne_of_lt hlt) its.toArray,
    ⟨⟨_, Heap.get?_push_size _ rfl, rfl, rfl⟩, pl.isList.push _⟩, fun i v s' Q' E' hP hQ => ?_, fun h' tk hk => ?_⟩
  · obtain ⟨b, e, rfl⟩ := vals_bools rv i v (by simpa using hP)
    simp only [e, Option.getD_some] at hQ
    exact wpAny_truthy_bool hQ
  · rw [List.size_toArray, ← el, range_all]
    exact ⟨.bl _, H, I.kept fun b o e => hk b o (by simpa using Nat.ne_of_lt (Heap.lt_size e)) (Heap.get?_push_of_some _ e), rfl, q⟩
/-! ### range(n) as a value, list(range(n)) -/
def upTo (n : Int) : List Int := (List.range n.toNat).map fun (k : Nat) => (k : Int)
theorem vals_range {its : List Value} {n : Nat} {lo : Int} (h : ItemsOf (fun i v => ∃ t, v = .int (lo + i * 1) t) its.toArray n) : Vals ((List.range n).map fun (k : Nat) => V.int (lo + (k : Int))) its := by
  obtain ⟨h1, h2⟩ := h
  rw [List.size_toArray] at h1
  induction its generalizing n lo with
  | nil => simp at h1; subst h1; exact .nil
  | cons u r ih =>
    cases n with
    | zero => simp at h1
    | succ n =>
      rw [List.range_succ_eq_map, List.map_cons, List.map_map]
      obtain ⟨t, e⟩ := h2 0 u (by simp)
      refine .cons ⟨t, by rw [e]; simp⟩ ?_
      have := ih (n := n) (lo := lo + 1) (by simpa using h1) (fun j v hj => by
        obtain ⟨t, e⟩ := h2 (j + 1) v (by simpa using hj)
        exact ⟨t, by rw [e]; congr 1; push_cast; omega⟩)
      refine (show Vals _ r from ?_)
      have e2 : (List.range n).map (fun (k : Nat) => V.int (lo + 1 + (k : Int))) = (List.range n).map ((fun (k : Nat) => V.int (lo + (k : Int))) ∘ Nat.succ) := by
        apply List.map_congr_left
        intro k _
        simp only [Function.comp]
        congr 1
        push_cast
        omega
      rw [← e2]; exact this
theorem call_list_rng (hc : X.calm = true) : CallR X (.type "list") (fun xs H Q => ∃ (p : Addr) (j : Int), xs = [.ref p] ∧ H p = some (.rng 0 j) ∧ 0 ≤ j ∧ j ≤ 1000000 ∧ ∀ l, H l = none → Q (.ref l) (upd H l (.lst ((upTo j).map V.int)))) := by
  intro pins s σ H xs us Q I r h
  obtain ⟨p, j, rfl, hp, h0, h1, q⟩ := h
  obtain ⟨u, rfl, ru⟩ := vals1 r
  obtain rfl : u = Value.ref p := ru
  obtain ⟨t, u, v, e⟩ := I.hok p _ hp
  refine call_list_range (a := 0) (b := j) (c := 1) (n := j.toNat) (I.ok.hd hc) e (small_one (by omega) (by omega) (by omega) (by omega)) (by rw [rangeSize_one]; split <;> omega) (by omega) fun h' tk acc c' hk he hi => ?_
  have hv : Vals ((upTo j).map V.int) acc.toList := by
    have := vals_range (its := acc.toList) (n := j.toNat) (lo := 0) (by simpa using hi)
    unfold upTo
    rw [List.map_map]
    have e2 : (List.range j.toNat).map (fun (k : Nat) => V.int (0 + (k : Int))) = (List.range j.toNat).map (V.int ∘ fun (k : Nat) => (k : Int)) := by
      apply List.map_congr_left
      intro k _
      simp
    rw [← e2]; exact this
  have hz : ((upTo j).map V.int).length ≤ sizeLine := by unfold upTo; rw [List.length_map, List.length_map, List.length_range, sizeLine_eq]; omega
  exact ⟨.ref s.heap.objs.size, _, I.laid (o := .lst ((upTo j).map V.int)) hk (Nat.le_refl _) ⟨hz, acc.toList, c', hv, by simpa using he⟩, rfl, q _ (I.hok.fresh (Nat.le_refl _))⟩

/-! ### xs[::-1] -/
def tRev (K : PySem.W.Frag) (te : TE) (ts : TO) : TE := fun σ H Q => te σ H fun x H1 => ts σ H1 fun k H2 => ∃ a xs, x = .ref a ∧ k = some (-1) ∧ SqL K H2 a xs ∧ ∀ p, H2 p = none → Q (.ref p) (upd H2 p (.lst xs.reverse))
theorem pe_rev {e st : Expr} {te : TE} {ts : TO} {pos p2 : Pos} (he : PE X e te) (hs : PO X (some st) ts) : PE X (.Subscript e (.Slice none none (some st) p2) pos) (tRev X.K te ts) := by
  intro pins s σ H Q I h
  refine Subscript_ (thn (he pins s σ H _ I h) fun v s1 ⟨x, H1, I1, r1, q1⟩ => ?_)
  refine wpAny_Slice ?_
  rw [evalPart_none]
  refine wpAny_pure (wpAny_pure (thn (hs pins s1 σ H1 _ I1 q1) fun vk s3 ⟨k, H3, I3, pk, q3⟩ => ?_))
  obtain ⟨a, xs, rfl, rfl, hq, q⟩ := q3
  obtain rfl : v = Value.ref a := r1
  obtain ⟨its, r, ht, hz⟩ := I3.list hq
  have hlen := r.length
  have I4 : Inv X pins σ H3 { s3 with heap := s3.heap.push { cls := .type "slice", data := .fields #[.none, .none, vk] } } := I3.kept (t' := s3.toks) fun b ob q => Heap.get?_push_of_some _ q
  obtain ⟨its4, r4, ht4, hz4⟩ := I4.list hq
  have hlen4 := r4.length
  show wpAny (model X.prog X.w) X.A (subscriptTail e (.Slice none none (some st) p2) (.ref a) (.ref s3.heap.objs.size)) (EP X pins σ Q) X.xe { s3 with heap := s3.heap.push { cls := .type "slice", data := .fields #[.none, .none, vk] } }
  refine tail_any (ops := [.ref a, .ref s3.heap.objs.size]) ht4.isList.typeIs slot_list_getitem.lookup ?_ (by with_unfolding_all rfl)
  refine wpAny_getItem_list_slice ht4.isList (Heap.IsSliceOf.new ..) .none .none pk (by simp) ?_ (by rw [List.size_toArray] <;> omega)
  rw [PySem.W.krv_pick]
  refine ⟨.ref _, _, I4.laid (t' := s3.toks) (o := .lst xs.reverse) (fun b ob q => Heap.get?_push_of_some _ q) (Nat.le_refl _) ?_, rfl, q _ (I4.hok.fresh (Nat.le_refl _))⟩
  exact ⟨by rw [List.length_reverse]; exact hz, its4.reverse, 0, r4.reverse, Heap.get?_push_size _ rfl⟩
end

/-! ### == of things within things -/
mutual
inductive Dp (K : PySem.W.Frag) (H : Hp) : V → PyData → Prop
  | non : Dp K H .non .none
  | bl (b) : Dp K H (.bl b) (.bool b)
  | int (i) : Dp K H (.int i) (.int i)
  | str (x) : Dp K H (.str x) (.str x)
  | lst {a xs ds} : SqL K H a xs → DpAll K H xs ds → Dp K H (.ref a) (.list ds)
  | tup {a xs ds} : SqT K H a xs → DpAll K H xs ds → Dp K H (.ref a) (.tuple ds)
inductive DpAll (K : PySem.W.Frag) (H : Hp) : List V → List PyData → Prop
  | nil : DpAll K H [] []
  | cons {v d vs ds} : Dp K H v d → DpAll K H vs ds → DpAll K H (v :: vs) (d :: ds)
end
section
variable {X : Cx} {pins : List (Addr × Obj)} {σ : St} {H : Hp} {s : Shared}
mutual
theorem Dp.reads (I : Inv X pins σ H s) : ∀ {v : V} {d : PyData} {u : Value}, Dp X.K H v d → RelV v u → ∃ as, Reads s.heap u d as
  | _, _, u, .non, r => by cases (show u = Value.none from r); exact ⟨_, .none⟩
  | _, _, u, .bl b, r => by cases (show u = Value.bool b from r); exact ⟨_, .bool b⟩
  | _, _, u, .int i, r => by obtain ⟨t, e⟩ := (show ∃ t, u = Value.int i t from r); cases e; exact ⟨_, .int i t⟩
  | _, _, u, .str x, r => by obtain ⟨t, e⟩ := (show ∃ t, u = Value.str x t from r); cases e; exact ⟨_, .str x t⟩
  | _, _, u, .lst (a := a) h hs, r => by
    cases (show u = Value.ref a from r)
    obtain ⟨its, rv, pl, _⟩ := I.list h
    obtain ⟨o, ho, hc, n, hd⟩ := pl.isList
    obtain ⟨as, q⟩ := DpAll.reads I hs rv
    exact ⟨_, .list ho hc hd (by simpa using q)⟩
  | _, _, u, .tup (a := a) h hs, r => by
    cases (show u = Value.ref a from r)
    obtain ⟨its, rv, ⟨o, ho, hc, n, hd⟩, _⟩ := I.tuple h
    obtain ⟨as, q⟩ := DpAll.reads I hs rv
    exact ⟨_, .tuple ho hc hd (by simpa using q)⟩
theorem DpAll.reads (I : Inv X pins σ H s) : ∀ {vs : List V} {ds : List PyData} {us : List Value}, DpAll X.K H vs ds → Vals vs us → ∃ as, ReadsAll s.heap us ds as
  | _, _, _, .nil, .nil => ⟨_, .nil⟩
  | _, _, _, .cons h hs, .cons r rs => by
    obtain ⟨as, a⟩ := h.reads I r
    obtain ⟨bs, b⟩ := hs.reads I rs
    exact ⟨_, .cons a b⟩
end
inductive rEqD_R (K : PySem.W.Frag) (neg : Bool) (x : V) (y : V) (H : Hp) (Q : VK) : Prop
  | mk (d : _) (e : _) (h0 : Dp K H x d) (h1 : Dp K H y e) (h2 : d.canLay0 = true) (h3 : e.canLay0 = true) (h4 : d.depth ≤ 60) (h5 : Q (.bl (if neg then !PyData.eqv d e else PyData.eqv d e)) H) : rEqD_R K neg x y H Q
def rEqD (K : PySem.W.Frag) (neg : Bool) : R2 := fun x y H Q => rEqD_R K neg x y H Q
theorem op_eqD (hu : X.A.units + 64 < cLine) : OpR X (compareOp .Eq) (rEqD X.K false) := by
  intro pins s σ H x y u v Q I rx ry h
  obtain ⟨d, e, hx, hy, c1, c2, dp, q⟩ := h
  obtain ⟨as, a⟩ := hx.reads I rx
  obtain ⟨bs, b⟩ := hy.reads I ry
  exact SeqAt.compareEq_reads a b c1 c2 (by omega) ⟨.bl _, H, I, rfl, q⟩
theorem op_neD (hu : X.A.units + 64 < cLine) : OpR X (compareOp .NotEq) (rEqD X.K true) := by
  intro pins s σ H x y u v Q I rx ry h
  obtain ⟨d, e, hx, hy, c1, c2, dp, q⟩ := h
  obtain ⟨as, a⟩ := hx.reads I rx
  obtain ⟨bs, b⟩ := hy.reads I ry
  exact SeqAt.compareNe_reads a b c1 c2 (by omega) ⟨.bl _, H, I, rfl, q⟩

/-! ### isinstance(x, T), T built in -/
inductive rIsi_R (K : PySem.W.Frag) (T : String) (xs : List V) (H : Hp) (Q : VK) : Prop
  | mk (x : _) (t : _) (b : _) (h0 : xs = [x, .ty T]) (h1 : TyOf K H x t) (h2 : PySem.W.kitOne K t (.type T) = some b) (h3 : Q (.bl b) H) : rIsi_R K T xs H Q
def rIsi (K : PySem.W.Frag) (T : String) : List V → Hp → VK → Prop := fun xs H Q => rIsi_R K T xs H Q
theorem call_isi (T : String) : CallR X (.builtin "isinstance") (rIsi X.K T) := by
  intro pins s σ H xs us Q I r h
  obtain ⟨x, t, b, rfl, ht, hk, q⟩ := h
  obtain ⟨u, v, rfl, ru, rv⟩ := vals2 r
  obtain rfl : v = Value.type T := rv
  exact isinst_ok I ru ht hk fun tk => ⟨.bl b, H, I.tok _, rfl, q⟩
end
example (K : PySem.W.Frag) : PySem.W.kitOne K (.type "int") (.type "list") = some false := by rfl
example (K : PySem.W.Frag) : PySem.W.kitOne K (.type "bool") (.type "int") = some true := by rfl
end L3

set_option Elab.async false
set_option linter.all false
set_option maxRecDepth 100000
set_option maxHeartbeats 4000000
namespace L3
open PySem PySem.Spec PyProof.Rows L2

section
variable {X : Cx} {pins : List (Addr × Obj)} {σ : St} {H : Hp} {s : Shared} {h' : Heap}
/-- records of ours turned, and one new thing is tracked -/
theorem Inv.turnedLaid {ch : List Addr} {p : Addr} {o : HO} {t' : Nat} (I : L2.Inv X pins σ H s) (k : ∀ b u, b ∉ ch → s.heap.get? b = some u → h'.get? b = some u) (hob : ∀ b ∈ ch, ∃ u, h'.get? b = some u) (hf : ∀ b ∈ ch, FpOk X pins H b) (hp : s.heap.objs.size ≤ p)
    (new : ObjOk X.prog X.w (upd H p o) h' p o) : L2.Inv X pins σ (upd H p o) { s with heap := h', toks := t' } := by
  have hn : H p = none := I.hok.fresh hp
  have old : ∀ {b : Addr} {u : Obj}, s.heap.get? b = some u → b ≠ p := fun e => Nat.ne_of_lt (Nat.lt_of_lt_of_le (Heap.lt_size e) hp)
  refine I.step (g' := s.gens) (d' := s.drawn) (ch := ch) (fun b hb => ?_) (fun b u _ _ hc e _ => k b u hc e) (fun b u _ _ hc e _ => ⟨u.slots, k b u hc e⟩) (fun b u _ e n => by rw [upd_ne (old e)]; exact n)
    (fun b u hc e => ⟨u, k b u hc e⟩) (fun b xs e => by rw [upd_ne (ne_of_none e hn)]; exact e) (fun b u xs e => by rw [upd_ne (ne_of_none e hn)]; exact e) (fun b ps e => ⟨#[], by rw [upd_ne (ne_of_none e hn), e]; simp⟩)
    (fun m hm => ?_) (fun b u e => ?_) I.bare
  · obtain ⟨f0, f1, f2, f3, f4, f5⟩ := hf b hb
    exact ⟨f3, f1, f4, f5⟩
  · obtain ⟨ob, es, ep, ho, r⟩ := hm
    exact ⟨ob, es, ep, k _ ob (fun z => (hf _ z).2.1 rfl) ho, r⟩
  · by_cases hb : b = p
    · subst hb; rw [upd_same] at e; cases e; exact new
    · rw [upd_ne hb] at e
      have nch : ∀ c v, H c = some v → c ∉ ch := fun c v q z => by rw [(hf c z).1] at q; cases q
      refine (I.hok b u e).stay (fun c v hc q => k c v ?_ q) (fun c q => by rw [upd_ne (ne_of_none q hn)]; exact q) fun c xs q => by rw [upd_ne (ne_of_none q hn)]; exact q
      rcases hc with rfl | hc
      · exact nch _ _ e
      · exact nch _ _ hc
end

/-- enumerate of the list at a: a new pair each turn -/
def Ite (K : PySem.W.Frag) (a : Addr) : It :=
  ⟨fun i H => ∃ xs x, SqL K H a xs ∧ xs[i]? = some x, fun i H x H' => ∃ p v, x = .ref p ∧ H p = none ∧ H' = upd H p (.tup [.int i, v]) ∧ ∀ xs, SqL K H a xs → xs[i]? = some v, fun i H => ∃ xs, SqL K H a xs ∧ xs.length ≤ i⟩
theorem turn_enum {P : Program} {w : World} {K : PySem.W.Frag} {elts : List Expr} {k1 : Nat} {pt : Pos} (a it e : Addr) (hne : e ≠ it) :
    Turn P w K (.Tuple elts k1 pt) (Ite K a) [e, it] e (fun i h => ∃ old, IsEnum h e it (i : Nat) old ∧ h.IsListIter it a i) where
  mem := by simp
  obj := fun i h st b hb => by
    obtain ⟨old, h1, o, h2, c, d⟩ := st
    rcases (by simpa using hb : b = e ∨ b = it) with rfl | rfl
    · exact ⟨_, h1, fun v z => by
        have z' : Data.fields _ = Data.cell v := z
        cases z'⟩
    · exact ⟨o, h2, fun v z => by rw [d] at z; cases z⟩
  keep := fun i h h' st k => by
    obtain ⟨old, h1, h2⟩ := st
    exact ⟨old, k e (by simp) _ h1, h2.at fun o z => k it (by simp) o z⟩
  item := by
    intro X hP hw hK hc i pins s σ H E I hf st hg
    subst hP hw hK
    obtain ⟨xs, x, hq, hx⟩ := hg
    obtain ⟨its, rv, p, hz⟩ := I.list hq
    obtain ⟨u, hu, ru⟩ := rv.get hx
    obtain ⟨old, he, hi⟩ := st
    refine wpAny_pyNext_enum_item he hi p.isList (x := u) (by simpa using hu) hne fun h1 b1 b2 b3 b4 b5 => ?_
    refine ⟨_, rfl, wpAny_letOwnedTupleGo_enum b1 fun h2 c1 c2 => ?_⟩
    have c2' : Heap.SameBut e h1 h2 := c2
    have lte : e < s.heap.objs.size := Heap.lt_size he
    have hit2 : h2.IsListIter it a (i + 1) := b2.at fun o z => (c2'.2 it (Ne.symm hne)).trans z
    have ht : h2.get? s.heap.objs.size = some { cls := .type "tuple", data := .seq #[.int (i : Nat) s.toks, u] } := (c2'.2 _ (Nat.ne_of_gt lte)).trans b3
    have I2 : L2.Inv X pins σ (upd H s.heap.objs.size (.tup [.int (i : Nat), x])) { s with heap := h2, toks := s.toks + 1 } := by
      refine Inv.turnedLaid (ch := [e, it]) I (fun b o hb z => ?_) (fun b hb => ?_) hf (Nat.le_refl _) ?_
      · have hb' : b ≠ e ∧ b ≠ it := by simpa using hb
        exact (c2'.2 b hb'.1).trans (b5 b o hb'.1 hb'.2 z)
      · rcases (by simpa using hb : b = e ∨ b = it) with rfl | rfl
        · exact ⟨_, c1⟩
        · obtain ⟨o, z, _⟩ := hit2; exact ⟨o, z⟩
      · exact ⟨by show 2 ≤ sizeLine; decide, [.int (i : Nat) s.toks, u], .cons ⟨_, rfl⟩ (.cons ru .nil), ⟨_, ht, rfl, _, rfl⟩⟩
    have hn := I.hok.fresh (Nat.le_refl s.heap.objs.size)
    refine ⟨.ref s.heap.objs.size, _, I2, rfl, ⟨_, x, rfl, hn, rfl, fun ys hy => by rw [I.list_inj hy hq]; exact hx⟩, ⟨u, by simpa using c1, hit2⟩, fun b hb => ?_⟩
    have lb : b < s.heap.objs.size := by
      rcases (by simpa using hb : b = e ∨ b = it) with rfl | rfl
      · exact lte
      · obtain ⟨o, z, _⟩ := hi; exact Heap.lt_size z
    rw [upd_ne (Nat.ne_of_lt lb)]
    exact (hf b hb).1
  done := by
    intro X hP hw hK hc i pins s σ H E I hf st hg
    subst hP hw hK
    obtain ⟨xs, hq, hx⟩ := hg
    obtain ⟨its, rv, p, hz⟩ := I.list hq
    obtain ⟨old, he, hi⟩ := st
    have hl := rv.length
    obtain ⟨f0, f1, f2, f3, f4, f5⟩ := hf it (by simp)
    exact wpAny_pyNext_enum_end (I.ok.hd hc) he hi p.isList (by simp; omega) fun h' eb => ⟨rfl, I.turned (t' := s.toks) (fun b o hb z => eb b o hb z) f0 f1 f3 f4 f5⟩
  self := fun _ _ _ _ _ st h => by
    obtain ⟨old, he, _⟩ := st
    exact wpAny_pyIter_enum he h

section
variable {X : Cx}
def iEnum (K : PySem.W.Frag) (ta : TA) : TI := fun σ H R => ta σ H fun vs H1 => ∃ a xs, vs = [.ref a] ∧ Rd H1 a (.lst xs) ∧ R (Ite K a) H1
theorem pi_enum {elts : List Expr} {k1 : Nat} {pt : Pos} {a : Expr} {ta : TA} {p pos : Pos} (hg : Gl X "enumerate") (hm : X.mg "enumerate" = none) (ha : PA X [a] ta) (hs : starEach [a] X.env = [(false, eval a X.env)] := by rfl) :
    PI X (.Tuple elts k1 pt) (.Call (.Name "enumerate" p) [a] [] pos) (iEnum X.K ta) := by
  intro pins s σ H R I h
  refine Call_ (ld_blt I hg hm PyProof.Rows.boot_enumerate (PyProof.Rows.callWith_type1 (thn (ha pos pins s σ H _ I h) fun us s1 ⟨vs, H1, I1, r1, q1⟩ => ?_) hs rfl))
  obtain ⟨l, xs, rfl, hq, q⟩ := q1
  obtain ⟨u, rfl, ru⟩ := vals1 r1
  obtain rfl : u = Value.ref l := ru
  obtain ⟨z, its, n, rv, e⟩ := hq.ok I1.hok
  refine call_enumerate_1 e fun h' a1 a2 a3 a4 => wpAny_pyIter_enum a1 ?_
  have I2 : L2.Inv X pins σ H1 { s1 with heap := h' } := I1.kept (t' := s1.toks) a4
  refine ⟨s1.heap.objs.size + 1, [s1.heap.objs.size + 1, s1.heap.objs.size], _, _, H1, rfl, I2, turn_enum l s1.heap.objs.size (s1.heap.objs.size + 1) (Nat.ne_of_gt (Nat.lt_succ_self _)), ⟨_, a1, a2⟩, fun b hb => ?_, q⟩
  have lb : s1.heap.objs.size ≤ b := by
    rcases (by simpa using hb : b = s1.heap.objs.size + 1 ∨ b = s1.heap.objs.size) with rfl | rfl
    · exact Nat.le_succ _
    · exact Nat.le_refl _
  exact I1.fpOk lb (I1.hok.fresh lb)
end
end L3

set_option Elab.async false
set_option linter.all false
set_option maxRecDepth 100000
set_option maxHeartbeats 4000000
namespace L3
open PySem PySem.Spec PyProof.Rows L2

/-! ### heaps: what is new -/
def New (H H' : Hp) : Hp := fun b => if (H b).isSome = true then none else H' b
def hide (D : Addr) (H : Hp) : Hp := fun b => if b = D then none else H b
theorem New.of {H H' : Hp} {b : Addr} {o : HO} (h : New H H' b = some o) : H b = none ∧ H' b = some o := by
  unfold New at h
  split at h
  · cases h
  · rename_i q
    refine ⟨?_, h⟩
    cases e : H b with
    | none => rfl
    | some u => rw [e] at q; exact absurd rfl q
theorem New.mk {H H' : Hp} {b : Addr} {o : HO} (h : H b = none) (h' : H' b = some o) : New H H' b = some o := by
  unfold New
  rw [h]
  exact h'
theorem New.sub {H H' : Hp} : Same (New H H') H' := fun _ _ h => (New.of h).2
theorem same_upd {H : Hp} {p : Addr} {o : HO} (h : H p = none) : Same H (upd H p o) := fun b u e => by rw [upd_ne (ne_of_none e h)]; exact e
theorem hide_sub {D : Addr} {H : Hp} : Same (hide D H) H := fun b o h => by
  unfold hide at h
  split at h
  · cases h
  · exact h
theorem hide_some {D b : Addr} {H : Hp} {o : HO} (h : hide D H b = some o) : b ≠ D ∧ H b = some o := by
  unfold hide at h
  split at h
  · cases h
  · rename_i q; exact ⟨q, h⟩
theorem hide_mk {D b : Addr} {H : Hp} {o : HO} (n : b ≠ D) (h : H b = some o) : hide D H b = some o := by
  unfold hide
  rw [if_neg n]; exact h
/-- all but one address -/
def SameX (D : Addr) (H H' : Hp) : Prop := ∀ b o, b ≠ D → H b = some o → H' b = some o
theorem Same.x {D : Addr} {H H' : Hp} (h : Same H H') : SameX D H H' := fun b o _ e => h b o e
theorem SameX.refl {D : Addr} (H : Hp) : SameX D H H := fun _ _ _ e => e
theorem SameX.trans {D : Addr} {H H1 H2 : Hp} (a : SameX D H H1) (b : SameX D H1 H2) : SameX D H H2 := fun c o n e => b c o n (a c o n e)
theorem SameX.upd {D : Addr} {H H' : Hp} {o : HO} (a : SameX D H H') : SameX D H (upd H' D o) := fun c u n e => by rw [upd_ne n]; exact a c u n e
theorem SameX.same {D : Addr} {H H' : Hp} (a : SameX D H H') (h : H D = none) : Same H H' := fun c u e => a c u (ne_of_none e h) e
theorem Same.seqT {K : PySem.W.Frag} {H H' : Hp} {a : Addr} {xs : List V} (e : Same H H') (h : SqT K H a xs) : SqT K H' a xs := by
  rcases h with (h | ⟨o, h⟩) | h
  · exact .inl (.inl (e _ _ h))
  · exact .inl (.inr ⟨o, e _ _ h⟩)
  · exact .inr h

/-! ### a comprehension's reading -/
/-! ### rules for a kind that is not known ahead -/
section
variable {X : Cx}
def rLen (K : PySem.W.Frag) : List V → Hp → VK → Prop := fun xs H Q => (∃ p ys, xs = [.ref p] ∧ (SqL K H p ys ∨ SqT K H p ys) ∧ Q (.int ys.length) H) ∨ ((∃ z, xs = [.str z] ∧ z.length ≤ sizeLine ∧ Q (.int z.length) H) ∨ ∃ a n, xs = [.ref a] ∧ H a = some (SetN a n) ∧ n < 4000 ∧ Q (.int n) H)
theorem call_lenA : CallR X (.builtin "len") (rLen X.K) := call_len_seq.or (call_len_str.or call_lenS)
def rListA (K : PySem.W.Frag) : List V → Hp → VK → Prop := fun xs H Q => (∃ p ys, xs = [.ref p] ∧ (SqL K H p ys ∨ SqT K H p ys) ∧ ∀ l, H l = none → Q (.ref l) (upd H l (.lst ys))) ∨ (∃ (p : Addr) (j : Int), xs = [.ref p] ∧ H p = some (.rng 0 j) ∧ 0 ≤ j ∧ j ≤ 1000000 ∧ ∀ l, H l = none → Q (.ref l) (upd H l (.lst ((upTo j).map V.int))))
theorem call_listA (hc : X.calm = true) : CallR X (.type "list") (rListA X.K) := call_list_of.or (call_list_rng hc)
/-- a global constant, a global that is a class or the like -/
theorem pe_gc {x : Str} {v : V} {pos : Pos} (hg : Gl X x) (h : ∃ u, X.mg x = some u ∧ RelV v u) (hd : (x == ("__debug__" : Str)) = false := by decide) : PE X (.Name x pos) (tC v) := by
  obtain ⟨u, hm, r⟩ := h
  exact pe_glob hg hm r hd
end
def compChk (sc : Scope) (N Nc : List Str) (ix : List (Option Nat)) (scope : Scope) : Bool :=
  decide (scope.kind = .function) && scope.names.all (fun y => decide (y.2 ≠ .cell)) && scope.names.all (fun y => decide (y.2 = .local → scope.names.lookup y.1 = some .local)) &&
  scope.names.all (fun y => decide (y.2 = .free → sc.names.lookup y.1 = some .cell ∨ sc.names.lookup y.1 = some .free)) && decide (ix.length = Nc.length) &&
  (ix.zip Nc).all fun p => match p.1 with | none => true | some j => N[j]? == some p.2 && scope.names.lookup p.2 == some .free
theorem CompOk.of {sc : Scope} {N Nc : List Str} {ix : List (Option Nat)} {scope : Scope} (h : compChk sc N Nc ix scope = true) : CompOk sc N Nc ix scope := by
  unfold compChk at h
  simp only [Bool.and_eq_true] at h
  obtain ⟨⟨⟨⟨⟨h1, h2⟩, h3⟩, h4⟩, h5⟩, h6⟩ := h
  exact ⟨of_decide_eq_true h1, fun y hy => of_decide_eq_true (List.all_eq_true.mp h2 y hy), fun y hy => of_decide_eq_true (List.all_eq_true.mp h3 y hy), fun y hy => of_decide_eq_true (List.all_eq_true.mp h4 y hy), of_decide_eq_true h5, h6⟩

/-! ### over the signs of a text -/
def Its (x : Str) : It := ⟨fun i _ => i < x.cps.size, fun i H v H' => H' = H ∧ ∃ c, x.cps[i]? = some c ∧ v = .str ⟨#[c]⟩, fun i _ => x.cps.size ≤ i⟩
theorem turn_str {P : Program} {w : World} {K : PySem.W.Frag} {tg : Expr} {it : Addr} {x : Str} {t : Tok} {ty : String}
    (hty : ["enumerate", "zip", "dict_itemiterator", "dict_reverseitemiterator", "odict_iterator", "itertools.zip_longest", "itertools.pairwise"].contains ty = false)
    (W : ∀ A' : Around, A'.handled = none → Walks P w A' it [it] [it] x.cps.size (SignAt x) (fun i h => h.IsStrIter it ty x t i))
    (self : ∀ (A : Around) (i : Nat) (s : Shared) (Q : Value → Shared → Prop) (E : Value → Shared → Prop), s.heap.IsStrIter it ty x t i → Q (.ref it) s → wpAny (model P w) A (pyIter (.ref it)) Q E s) :
    Turn P w K tg (Its x) [it] it (fun i h => i ≤ x.cps.size ∧ h.IsStrIter it ty x t i) where
  mem := by simp
  obj := fun i h st b hb => by
    have e : b = it := by simpa using hb
    subst e
    obtain ⟨_, o, e, c, d⟩ := st
    exact ⟨o, e, fun v z => by rw [d] at z; cases z⟩
  keep := fun i h h' st k => by
    obtain ⟨l, o, e, c, d⟩ := st
    exact ⟨l, o, k it (by simp) o e, c, d⟩
  item := by
    intro X hP hw hK hc i pins s σ H E I hf st hg
    subst hP hw hK
    obtain ⟨f0, f1, f2, f3, f4, f5⟩ := hf it (by simp)
    refine (W X.A (I.ok.hd hc)).item i s _ _ hg st.2 fun v h' tk hv st' kk => ?_
    obtain ⟨c, u, hcx, rfl⟩ := hv
    have I1 : L2.Inv X pins σ H { s with heap := h', toks := tk } := I.turned (fun b o hb e => kk b o (by simpa using hb) e) f0 f1 f3 f4 f5
    obtain ⟨o, e, oc, od⟩ := id st'
    exact ⟨_, rfl, go_of (s := { s with heap := h', toks := tk }) e oc od hty ⟨.str ⟨#[c]⟩, H, I1, ⟨u, rfl⟩, ⟨rfl, c, hcx, rfl⟩, ⟨hg, st'⟩, fun b hb => (hf b hb).1⟩⟩
  done := by
    intro X hP hw hK hc i pins s σ H E I hf st hg
    subst hP hw hK
    obtain ⟨f0, f1, f2, f3, f4, f5⟩ := hf it (by simp)
    have e : i = x.cps.size := Nat.le_antisymm st.1 hg
    subst e
    exact (W X.A (I.ok.hd hc)).done s _ _ st.2 fun h' tk kk => ⟨rfl, I.turned (fun b o hb e => kk b o (by simpa using hb) e) f0 f1 f3 f4 f5⟩
  self := fun A i s Q E st h => self A i s Q E st.2 h
section
variable {X : Cx} {tg : Expr}
def iStr (tl : TE) : TI := fun σ H R => tl σ H fun v H1 => ∃ x, v = .str x ∧ R (Its x) H1
theorem pi_str {l : Expr} {tl : TE} (hl : PE X l tl) : PI X tg l (iStr tl) := by
  intro pins s σ H R I h
  refine thn (hl pins s σ H _ I h) fun v s1 ⟨y, H1, I1, r1, x, e, q⟩ => ?_
  subst e
  obtain ⟨t, rfl⟩ := (show ∃ t, v = Value.str x t from r1)
  have fin : ∀ (ty : String), ["enumerate", "zip", "dict_itemiterator", "dict_reverseitemiterator", "odict_iterator", "itertools.zip_longest", "itertools.pairwise"].contains ty = false →
      (∀ A' : Around, A'.handled = none → Walks X.prog X.w A' s1.heap.objs.size [s1.heap.objs.size] [s1.heap.objs.size] x.cps.size (SignAt x) (fun i h => h.IsStrIter s1.heap.objs.size ty x t i)) →
      (∀ (A : Around) (i : Nat) (s : Shared) (Q : Value → Shared → Prop) (E : Value → Shared → Prop), s.heap.IsStrIter s1.heap.objs.size ty x t i → Q (.ref s1.heap.objs.size) s → wpAny (model X.prog X.w) A (pyIter (.ref s1.heap.objs.size)) Q E s) →
      PIE X pins σ tg R (.ref s1.heap.objs.size) { s1 with heap := s1.heap.push { cls := .type ty, data := .fields #[.str x t, .int 0 0] } } := fun ty h1 h2 h3 => by
    refine ⟨s1.heap.objs.size, [s1.heap.objs.size], _, _, H1, rfl, I1.kept (t' := s1.toks) fun b o e => Heap.get?_push_of_some _ e, turn_str h1 h2 h3, ⟨Nat.zero_le _, _, Heap.get?_push_size _ rfl, rfl, rfl⟩, fun b hb => ?_, q⟩
    have e : b = s1.heap.objs.size := by simpa using hb
    subst e
    exact I1.fpOk (Nat.le_refl _) (I1.hok.fresh (Nat.le_refl _))
  cases ha : x.cps.all (· < 128)
  · exact wpAny_pyIter_wide ha (fin "str_iterator" (by decide) (fun A' hA => Walks.strWide hA _ x t) fun _ _ _ _ _ st h => wpAny_pyIter_striter_wide st h)
  · exact wpAny_pyIter_ascii ha (fin "str_ascii_iterator" (by decide) (fun A' hA => Walks.strAscii hA _ x t) fun _ _ _ _ _ st h => wpAny_pyIter_striter_ascii st h)
end

/-! ### the same rules, the module's part named apart -/
section
variable {X : Cx} {K : PySem.W.Frag}
theorem call_lenK (hK : X.K = K) : CallR X (.builtin "len") (rLen K) := by subst hK; exact call_lenA
theorem call_sortedK (hK : X.K = K) : CallR X (.builtin "sorted") (rSorted K) := by subst hK; exact call_sorted
def rAll (K : PySem.W.Frag) : List V → Hp → VK → Prop := fun xs H Q => ∃ (p : Addr) (bs : List Bool), xs = [.ref p] ∧ SqL K H p (bs.map V.bl) ∧ Q (.bl (bs.all id)) H
theorem call_allK (hK : X.K = K) (hc : X.calm = true) : CallR X (.builtin "all") (rAll K) := by subst hK; exact call_all hc
theorem call_listK (hK : X.K = K) (hc : X.calm = true) : CallR X (.type "list") (rListA K) := by subst hK; exact call_listA hc
def rTupleA (K : PySem.W.Frag) : List V → Hp → VK → Prop := fun xs H Q => ∃ p ys, xs = [.ref p] ∧ ((SqL K H p ys ∧ ∀ l, H l = none → Q (.ref l) (upd H l (.tup ys))) ∨ (SqT K H p ys ∧ Q (.ref p) H))
theorem call_tupleK (hK : X.K = K) : CallR X (.type "tuple") (rTupleA K) := by subst hK; exact call_tuple_of
def rSetA (K : PySem.W.Frag) : List V → Hp → VK → Prop := fun xs H Q => ∃ (p : Addr) (ks : List Key), xs = [.ref p] ∧ SqL K H p (ks.map kV) ∧ ks.length < 4000 ∧ ∀ n a, n ≤ ks.length → (n = ks.length ↔ ks.Nodup) → H a = none → Q (.ref a) (upd H a (SetN a n))
theorem call_setK (hK : X.K = K) (hc : X.calm = true) : CallR X (.type "set") (rSetA K) := by subst hK; exact call_set hc
theorem call_isiK (hK : X.K = K) (T : String) : CallR X (.builtin "isinstance") (rIsi K T) := by subst hK; exact call_isi T
theorem ix_listK (hK : X.K = K) : IxR X (rIxL K) := by subst hK; exact ix_list
theorem ix_tupK (hK : X.K = K) : IxR X (rIxT K) := by subst hK; exact ix_tup
theorem sl_listK (hK : X.K = K) : SlR X (rSlL K) := by subst hK; exact sl_list
theorem op_inK (hK : X.K = K) : OpR X (compareOp .In) (rIn K false) := by subst hK; exact op_in_seq
theorem op_notInK (hK : X.K = K) : OpR X (compareOp .NotIn) (rIn K true) := by subst hK; exact op_notIn_seq
theorem op_eqDK (hK : X.K = K) (hu : X.A.units + 64 < cLine) : OpR X (compareOp .Eq) (rEqD K false) := by subst hK; exact op_eqD hu
theorem op_neDK (hK : X.K = K) (hu : X.A.units + 64 < cLine) : OpR X (compareOp .NotEq) (rEqD K true) := by subst hK; exact op_neD hu
theorem pi_listK {tg l : Expr} {tl : TE} (hK : X.K = K) (hl : PE X l tl) : PI X tg l (iList K tl) := by subst hK; exact pi_list hl
theorem pi_enumK {elts : List Expr} {k1 : Nat} {pt : Pos} {a : Expr} {ta : TA} {p pos : Pos} (hK : X.K = K) (hg : Gl X "enumerate") (hm : X.mg "enumerate" = none) (ha : PA X [a] ta) (hs : starEach [a] X.env = [(false, eval a X.env)] := by rfl) :
    PI X (.Tuple elts k1 pt) (.Call (.Name "enumerate" p) [a] [] pos) (iEnum K ta) := by subst hK; exact pi_enum hg hm ha hs
theorem pg_tupK {es : List Expr} {k : Nat} {t : TGs} {n : Nat} {pos : Pos} (hK : X.K = K) (hc : X.calm = true) (h : PGs X es t)
    (hn : (assignEach es X.env).length = n := by rfl) (hst : (assignEach es X.env).findIdx? (·.1) = none := by rfl) : PG X (.Tuple es k pos) (gTup K n t) := by subst hK; exact pg_tup hc h hn hst
theorem pe_revK {e st : Expr} {te : TE} {ts : TO} {pos p2 : Pos} (hK : X.K = K) (he : PE X e te) (hs : PO X (some st) ts) : PE X (.Subscript e (.Slice none none (some st) p2) pos) (tRev K te ts) := by subst hK; exact pe_rev he hs
end
end L3

set_option Elab.async false
set_option linter.all false
set_option maxRecDepth 100000
set_option maxHeartbeats 4000000
namespace L3
open PySem PySem.Spec L2

/-- a thing of which isinstance is known -/
inductive Kd (H : Hp) : V → Prop
  | non : Kd H .non
  | bl (b : Bool) : Kd H (.bl b)
  | int (i : Int) : Kd H (.int i)
  | str (z : Str) (hz : z.length ≤ 1000) : Kd H (.str z)
  | lst {a : Addr} {xs : List V} (e : H a = some (.lst xs)) : Kd H (.ref a)
  | tup {a : Addr} {xs : List V} (e : H a = some (.tup xs)) : Kd H (.ref a)
  | dK {a : Addr} {kvs : List (Key × V)} (e : H a = some (.dK kvs)) : Kd H (.ref a)
theorem Kd.mono {H H' : Hp} {x : V} (s : Same H H') (h : Kd H x) : Kd H' x := by
  cases h with
  | non => exact .non
  | bl b => exact .bl b
  | int i => exact .int i
  | str z hz => exact .str z hz
  | lst e => exact .lst (s _ _ e)
  | tup e => exact .tup (s _ _ e)
  | dK e => exact .dK (s _ _ e)
def isTy (H : Hp) (T : String) : V → Bool
  | .bl _ => T == "bool" || T == "int"
  | .int _ => T == "int"
  | .str _ => T == "str"
  | .ref a => match H a with
    | some (.lst _) => T == "list"
    | some (.tup _) => T == "tuple"
    | some (.dK _) => T == "dict"
    | _ => false
  | _ => false
theorem isi_rd {K : PySem.W.Frag} {T : String} {x : V} {H : Hp} {Q : VK} (hT : T = "int" ∨ T = "bool" ∨ T = "str" ∨ T = "list" ∨ T = "tuple") (h : Kd H x) (q : Q (.bl (isTy H T x)) H) : rIsi K T [x, .ty T] H Q := by
  rcases hT with rfl | rfl | rfl | rfl | rfl
  all_goals
    cases h with
    | non => exact ⟨_, _, _, rfl, .non, rfl, q⟩
    | bl b => exact ⟨_, _, _, rfl, .bl b, rfl, q⟩
    | int i => exact ⟨_, _, _, rfl, .int i, rfl, q⟩
    | str z hz => exact ⟨_, _, _, rfl, .str z, rfl, q⟩
    | lst e => first | exact ⟨_, _, false, rfl, .lst e, rfl, by simpa [isTy, e] using q⟩ | exact ⟨_, _, true, rfl, .lst e, rfl, by simpa [isTy, e] using q⟩
    | tup e => first | exact ⟨_, _, false, rfl, .tup e, rfl, by simpa [isTy, e] using q⟩ | exact ⟨_, _, true, rfl, .tup e, rfl, by simpa [isTy, e] using q⟩
    | dK e => first | exact ⟨_, _, false, rfl, .dK e, rfl, by simpa [isTy, e] using q⟩ | exact ⟨_, _, true, rfl, .dK e, rfl, by simpa [isTy, e] using q⟩

def isLow (c : Nat) : Bool := decide (97 ≤ c ∧ c ≤ 122)
def isNameS (z : Str) : Bool := decide (1 ≤ z.length) && decide (z.length ≤ 8) && z.cps.toList.all isLow
def isNameV : V → Bool
  | .str z => isNameS z
  | _ => false
def isIntV : V → Bool
  | .int _ => true
  | _ => false
def isRoomV (n : Int) : V → Bool
  | .int i => decide (0 ≤ i) && decide (i < n)
  | _ => false
def lstOf (H : Hp) : V → Option (List V)
  | .ref a => match H a with
    | some (.lst xs) => some xs
    | _ => none
  | _ => none
theorem lstOf_ref {H : Hp} {a : Addr} {xs : List V} (h : H a = some (.lst xs)) : lstOf H (.ref a) = some xs := by simp [lstOf, h]
theorem lstOf_same {H H' : Hp} {x : V} (s : Same H H') (k : Kd H x) : lstOf H' x = lstOf H x := by
  cases k with
  | non => rfl
  | bl b => rfl
  | int i => rfl
  | str z hz => rfl
  | lst e => rw [lstOf_ref e, lstOf_ref (s _ _ e)]
  | tup e => simp [lstOf, e, s _ _ e]
  | dK e => simp [lstOf, e, s _ _ e]
def areNames (H : Hp) (x : V) : Bool := match lstOf H x with
  | some xs => xs.all isNameV && decide xs.Nodup
  | none => false
def areRooms (H : Hp) (n : Int) (x : V) : Bool := match lstOf H x with
  | some xs => xs.all (isRoomV n)
  | none => false
def someRooms (H : Hp) (n : Int) (x : V) : Bool := match lstOf H x with
  | some xs => xs.all (isRoomV n) && !xs.isEmpty && decide xs.Nodup
  | none => false
def KdL (H : Hp) (x : V) : Prop := Kd H x ∧ ∀ xs, lstOf H x = some xs → xs.length ≤ 1000 ∧ ∀ y ∈ xs, Kd H y
def KdLL (H : Hp) (x : V) : Prop := Kd H x ∧ ∀ xs, lstOf H x = some xs → xs.length ≤ 1000 ∧ ∀ y ∈ xs, KdL H y
theorem KdL.mono {H H' : Hp} {x : V} (s : Same H H') (h : KdL H x) : KdL H' x :=
  ⟨h.1.mono s, fun xs e => by
    rw [lstOf_same s h.1] at e
    exact ⟨(h.2 xs e).1, fun y hy => ((h.2 xs e).2 y hy).mono s⟩⟩
theorem areNames_same {H H' : Hp} {x : V} (s : Same H H') (k : Kd H x) : areNames H' x = areNames H x := by unfold areNames; rw [lstOf_same s k]
theorem someRooms_same {H H' : Hp} {x : V} {n : Int} (s : Same H H') (k : Kd H x) : someRooms H' n x = someRooms H n x := by unfold someRooms; rw [lstOf_same s k]
def few3 : Option (List V) → Bool
  | some fs => decide (fs.length ≤ 3)
  | none => false
def makesW (H : Hp) (s w st f : V) : Bool := match lstOf H s, lstOf H w with
  | some ss, some ws => decide (1 ≤ ss.length) && decide (ss.length ≤ 20) && decide (ws.length = ss.length) && ss.all (areNames H) && ws.all (someRooms H ss.length) && (someRooms H ss.length st && (areNames H f && few3 (lstOf H f)))
  | _, _ => false

/-! ### keys -/
theorem kV_ne {a b : Key} : kV a ≠ kV b ↔ a ≠ b := by
  constructor
  · intro h e; exact h (by rw [e])
  · intro h e
    apply h
    cases a <;> cases b <;> simp [kV] at e <;> simp [e]
theorem nodup_kV (ks : List Key) : (ks.map kV).Nodup ↔ ks.Nodup := by
  unfold List.Nodup
  rw [List.pairwise_map]
  exact ⟨fun h => h.imp fun q => kV_ne.mp q, fun h => h.imp fun q => kV_ne.mpr q⟩
theorem keys_names : ∀ {xs : List V}, xs.all isNameV = true → ∃ ks : List Key, xs = ks.map kV
  | [], _ => ⟨[], rfl⟩
  | x :: r, h => by
    rw [List.all_cons, Bool.and_eq_true] at h
    obtain ⟨ks, rfl⟩ := keys_names h.2
    cases x with
    | str z => exact ⟨.inr z :: ks, rfl⟩
    | _ => exact absurd h.1 (by simp [isNameV])
theorem keys_rooms {n : Int} : ∀ {xs : List V}, xs.all (isRoomV n) = true → ∃ ks : List Key, xs = ks.map kV
  | [], _ => ⟨[], rfl⟩
  | x :: r, h => by
    rw [List.all_cons, Bool.and_eq_true] at h
    obtain ⟨ks, rfl⟩ := keys_rooms h.2
    cases x with
    | int z => exact ⟨.inl z :: ks, rfl⟩
    | _ => exact absurd h.1 (by simp [isRoomV])
theorem dec_len {n m : Nat} {ks : List Key} (hm : m = (ks.map kV).length) (h : n = ks.length ↔ ks.Nodup) : decide (V.int (n : Nat) = V.int (m : Nat)) = decide (ks.map kV).Nodup := by
  have e : (V.int (n : Nat) = V.int (m : Nat)) ↔ (ks.map kV).Nodup := by
    rw [nodup_kV, ← h]
    constructor
    · intro q
      have q' : ((n : Nat) : Int) = ((m : Nat) : Int) := V.int.inj q
      rw [List.length_map] at hm
      omega
    · intro q
      rw [List.length_map] at hm
      rw [q, hm]
  exact decide_eq_decide.mpr e
theorem all_map_of {α : Type} {f : α → Bool} : ∀ {xs : List α} {ys : List V}, ys.length = xs.length → (∀ (i : Nat) v x, ys[i]? = some v → xs[i]? = some x → v = .bl (f x)) → ys = (xs.map f).map V.bl
  | [], ys, hl, _ => by simp at hl; subst hl; rfl
  | x :: r, [], hl, _ => by simp at hl
  | x :: r, y :: ys, hl, h => by
    have e := h 0 y x rfl rfl
    subst e
    rw [List.map_cons, List.map_cons, all_map_of (xs := r) (ys := ys) (f := f) (by simpa using hl) fun i v z h1 h2 => h (i + 1) v z (by simpa using h1) (by simpa using h2)]
theorem all_id {α : Type} (f : α → Bool) (xs : List α) : (xs.map f).all id = xs.all f := by
  rw [List.all_map]; rfl
theorem mem_letters (c : Nat) : decide (c ∈ ("abcdefghijklmnopqrstuvwxyz" : Str).cps.toList) = isLow c := by
  have e : ("abcdefghijklmnopqrstuvwxyz" : Str).cps.toList = (List.range 26).map (· + 97) := by decide +kernel
  rw [e]
  unfold isLow
  refine decide_eq_decide.mpr ?_
  rw [List.mem_map]
  constructor
  · rintro ⟨k, hk, rfl⟩
    have := List.mem_range.mp hk
    omega
  · rintro ⟨h1, h2⟩
    exact ⟨c - 97, List.mem_range.mpr (by omega), by omega⟩
theorem isi_f (K : PySem.W.Frag) {T : String} {x : V} {H : Hp} {b : Bool} (hT : T = "int" ∨ T = "bool" ∨ T = "str" ∨ T = "list" ∨ T = "tuple") (h : Kd H x) (hb : isTy H T x = b) : ∃ t, TyOf K H x t ∧ PySem.W.kitOne K t (.type T) = some b := by
  obtain ⟨y, t, c, e, h1, h2, q⟩ := isi_rd (K := K) (Q := fun v _ => v = .bl b) hT h (by rw [hb])
  have e1 : x = y := (List.cons.inj e).1
  have e2 : c = b := V.bl.inj q
  subst e1; subst e2
  exact ⟨t, h1, h2⟩
theorem kd_str {H : Hp} {x : V} (h : Kd H x) : (isTy H "str" x = true ∧ ∃ z, x = .str z ∧ z.length ≤ 1000) ∨ (isTy H "str" x = false ∧ isNameV x = false) := by
  cases h with
  | str z hz => exact .inl ⟨rfl, z, rfl, hz⟩
  | non => exact .inr ⟨rfl, rfl⟩
  | bl b => exact .inr ⟨rfl, rfl⟩
  | int i => exact .inr ⟨rfl, rfl⟩
  | lst e => exact .inr ⟨by simp [isTy, e], rfl⟩
  | tup e => exact .inr ⟨by simp [isTy, e], rfl⟩
  | dK e => exact .inr ⟨by simp [isTy, e], rfl⟩
theorem kd_list {H : Hp} {x : V} (h : Kd H x) : (isTy H "list" x = true ∧ ∃ a xs, x = .ref a ∧ H a = some (.lst xs) ∧ lstOf H x = some xs) ∨ (isTy H "list" x = false ∧ lstOf H x = none) := by
  cases h with
  | str z hz => exact .inr ⟨rfl, rfl⟩
  | non => exact .inr ⟨rfl, rfl⟩
  | bl b => exact .inr ⟨rfl, rfl⟩
  | int i => exact .inr ⟨rfl, rfl⟩
  | lst e => exact .inl ⟨by simp [isTy, e], _, _, rfl, e, lstOf_ref e⟩
  | tup e => exact .inr ⟨by simp [isTy, e], by simp [lstOf, e]⟩
  | dK e => exact .inr ⟨by simp [isTy, e], by simp [lstOf, e]⟩
end L3

set_option Elab.async false
set_option linter.all false
set_option maxRecDepth 100000
set_option maxHeartbeats 4000000
namespace L3
open PySem PySem.Spec L2

/-! ### lists and tuples of texts, of ints, of such -/
def LS (H : Hp) (v : V) (ss : List Str) : Prop := ∃ a, v = .ref a ∧ H a = some (.lst (ss.map V.str))
def LI (H : Hp) (v : V) (ns : List Int) : Prop := ∃ a, v = .ref a ∧ H a = some (.lst (ns.map V.int))
def TS (H : Hp) (v : V) (ss : List Str) : Prop := ∃ a, v = .ref a ∧ H a = some (.tup (ss.map V.str))
def TIn (H : Hp) (v : V) (ns : List Int) : Prop := ∃ a, v = .ref a ∧ H a = some (.tup (ns.map V.int))
def LL {α : Type} (r : Hp → V → α → Prop) (H : Hp) (v : V) (xs : List α) : Prop := ∃ a vs, v = .ref a ∧ H a = some (.lst vs) ∧ vs.length = xs.length ∧ ∀ (i : Nat) v x, vs[i]? = some v → xs[i]? = some x → r H v x
def LT {α : Type} (r : Hp → V → α → Prop) (H : Hp) (v : V) (xs : List α) : Prop := ∃ a vs, v = .ref a ∧ H a = some (.tup vs) ∧ vs.length = xs.length ∧ ∀ (i : Nat) v x, vs[i]? = some v → xs[i]? = some x → r H v x
def Mon {α : Type} (r : Hp → V → α → Prop) : Prop := ∀ H H' v x, Same H H' → r H v x → r H' v x
theorem LS.mono : Mon LS := fun _ _ _ _ s ⟨a, e, h⟩ => ⟨a, e, s _ _ h⟩
theorem LI.mono : Mon LI := fun _ _ _ _ s ⟨a, e, h⟩ => ⟨a, e, s _ _ h⟩
theorem TS.mono : Mon TS := fun _ _ _ _ s ⟨a, e, h⟩ => ⟨a, e, s _ _ h⟩
theorem TIn.mono : Mon TIn := fun _ _ _ _ s ⟨a, e, h⟩ => ⟨a, e, s _ _ h⟩
theorem LL.mono {α : Type} {r : Hp → V → α → Prop} (m : Mon r) : Mon (LL r) := fun _ _ _ _ s ⟨a, vs, e, h, l, q⟩ => ⟨a, vs, e, s _ _ h, l, fun i v x h1 h2 => m _ _ _ _ s (q i v x h1 h2)⟩
theorem LT.mono {α : Type} {r : Hp → V → α → Prop} (m : Mon r) : Mon (LT r) := fun _ _ _ _ s ⟨a, vs, e, h, l, q⟩ => ⟨a, vs, e, s _ _ h, l, fun i v x h1 h2 => m _ _ _ _ s (q i v x h1 h2)⟩
theorem SameX.hide {p : Addr} {H H' : Hp} (s : SameX p H H') : Same (hide p H) (hide p H') := fun b o h =>
  let ⟨n, e⟩ := hide_some h
  hide_mk n (s b o n e)

/-- what a world is made of -/
structure WD where
  signs : List (List Str)
  ways : List (List Int)
  starts : List Int
  fair : List Str
structure PartsV (H : Hp) (s w st f : V) (d : WD) : Prop where
  s : LL LS H s d.signs
  w : LL LI H w d.ways
  st : LI H st d.starts
  f : LS H f d.fair
theorem PartsV.mono {H H' : Hp} {s w st f : V} {d : WD} (e : Same H H') (h : PartsV H s w st f d) : PartsV H' s w st f d :=
  ⟨LL.mono LS.mono _ _ _ _ e h.s, LL.mono LI.mono _ _ _ _ e h.w, LI.mono _ _ _ _ e h.st, LS.mono _ _ _ _ e h.f⟩
structure Good (d : WD) : Prop where
  n1 : 1 ≤ d.signs.length
  n20 : d.signs.length ≤ 20
  wl : d.ways.length = d.signs.length
  sn : ∀ ss ∈ d.signs, ss.Nodup ∧ (∀ x ∈ ss, isNameS x = true) ∧ ss.length ≤ 30
  wn : ∀ ns ∈ d.ways, ns.Nodup ∧ ns ≠ [] ∧ (∀ x ∈ ns, 0 ≤ x ∧ x < d.signs.length) ∧ ns.length ≤ 20
  stn : d.starts.Nodup ∧ d.starts ≠ [] ∧ (∀ x ∈ d.starts, 0 ≤ x ∧ x < d.signs.length) ∧ d.starts.length ≤ 20
  fn : d.fair.Nodup ∧ (∀ x ∈ d.fair, isNameS x = true) ∧ d.fair.length ≤ 3
theorem nodup_map {α β : Type} {f : α → β} (hf : ∀ a b, f a = f b → a = b) {l : List α} (h : l.Nodup) : (l.map f).Nodup := by
  unfold List.Nodup at *
  rw [List.pairwise_map]
  exact h.imp fun q e => q (hf _ _ e)
theorem str_inj (a b : Str) (h : V.str a = V.str b) : a = b := V.str.inj h
theorem int_inj (a b : Int) (h : V.int a = V.int b) : a = b := V.int.inj h
theorem name_short {z : Str} (h : isNameS z = true) : z.length ≤ 8 := by
  unfold isNameS at h
  simp only [Bool.and_eq_true, decide_eq_true_eq] at h
  exact h.1.2
theorem LS.kd {H : Hp} {v : V} {ss : List Str} (h : LS H v ss) (hl : ss.length ≤ 1000) (hn : ∀ x ∈ ss, isNameS x = true) : KdL H v := by
  obtain ⟨a, rfl, e⟩ := h
  refine ⟨.lst e, fun xs q => ?_⟩
  rw [lstOf_ref e] at q
  cases q
  refine ⟨by rw [List.length_map]; exact hl, fun y hy => ?_⟩
  obtain ⟨z, hz, rfl⟩ := List.mem_map.mp hy
  exact .str z (Nat.le_trans (name_short (hn z hz)) (by decide))
theorem LI.kd {H : Hp} {v : V} {ns : List Int} (h : LI H v ns) (hl : ns.length ≤ 1000) : KdL H v := by
  obtain ⟨a, rfl, e⟩ := h
  refine ⟨.lst e, fun xs q => ?_⟩
  rw [lstOf_ref e] at q
  cases q
  refine ⟨by rw [List.length_map]; exact hl, fun y hy => ?_⟩
  obtain ⟨z, hz, rfl⟩ := List.mem_map.mp hy
  exact .int z
theorem LS.names {H : Hp} {v : V} {ss : List Str} (h : LS H v ss) (nd : ss.Nodup) (hn : ∀ x ∈ ss, isNameS x = true) : areNames H v = true := by
  obtain ⟨a, rfl, e⟩ := h
  unfold areNames
  rw [lstOf_ref e]
  simp only [Bool.and_eq_true, decide_eq_true_eq]
  refine ⟨List.all_eq_true.mpr fun y hy => ?_, nodup_map str_inj nd⟩
  obtain ⟨z, hz, rfl⟩ := List.mem_map.mp hy
  exact hn z hz
theorem LI.rooms {H : Hp} {v : V} {ns : List Int} {n : Nat} (h : LI H v ns) (nd : ns.Nodup) (ne : ns ≠ []) (hn : ∀ x ∈ ns, 0 ≤ x ∧ x < (n : Int)) : someRooms H n v = true := by
  obtain ⟨a, rfl, e⟩ := h
  unfold someRooms
  rw [lstOf_ref e]
  simp only [Bool.and_eq_true, decide_eq_true_eq]
  refine ⟨⟨List.all_eq_true.mpr fun y hy => ?_, ?_⟩, nodup_map int_inj nd⟩
  · obtain ⟨z, hz, rfl⟩ := List.mem_map.mp hy
    have := hn z hz
    simp [isRoomV, this.1, this.2]
  · cases ns with
    | nil => exact absurd rfl ne
    | cons y r => rfl
theorem LL.kd {α : Type} {r : Hp → V → α → Prop} {H : Hp} {v : V} {xs : List α} (h : LL r H v xs) (hl : xs.length ≤ 1000) (q : ∀ v x, r H v x → x ∈ xs → KdL H v) : KdLL H v := by
  obtain ⟨a, vs, rfl, e, l, k⟩ := h
  refine ⟨.lst e, fun ys z => ?_⟩
  rw [lstOf_ref e] at z
  cases z
  refine ⟨by omega, fun y hy => ?_⟩
  obtain ⟨i, hi, rfl⟩ := List.getElem_of_mem hy
  have hx : i < xs.length := by omega
  exact q _ xs[i] (k i _ _ (List.getElem?_eq_getElem hi) (List.getElem?_eq_getElem hx)) (List.getElem_mem hx)
theorem LL.all {α : Type} {r : Hp → V → α → Prop} {H : Hp} {vs : List V} {xs : List α} {p : V → Bool} (l : vs.length = xs.length) (k : ∀ (i : Nat) v x, vs[i]? = some v → xs[i]? = some x → r H v x) (q : ∀ v x, r H v x → x ∈ xs → p v = true) : vs.all p = true := by
  refine List.all_eq_true.mpr fun y hy => ?_
  obtain ⟨i, hi, rfl⟩ := List.getElem_of_mem hy
  have hx : i < xs.length := by omega
  exact q _ xs[i] (k i _ _ (List.getElem?_eq_getElem hi) (List.getElem?_eq_getElem hx)) (List.getElem_mem hx)
theorem PartsV.kd {H : Hp} {s w st f : V} {d : WD} (h : PartsV H s w st f d) (g : Good d) : KdLL H s ∧ KdLL H w ∧ KdL H st ∧ KdL H f := by
  refine ⟨h.s.kd (by have := g.n20; omega) fun v x r m => ?_, h.w.kd (by have := g.n20; have := g.wl; omega) fun v x r m => ?_, h.st.kd (by have := g.stn.2.2.2; omega), h.f.kd (by have := g.fn.2.2; omega) g.fn.2.1⟩
  · have := g.sn x m
    exact r.kd (by omega) this.2.1
  · have := g.wn x m
    exact r.kd (by omega)
theorem PartsV.makes {H : Hp} {s w st f : V} {d : WD} (h : PartsV H s w st f d) (g : Good d) : makesW H s w st f = true := by
  have hst := h.st.rooms (n := d.signs.length) g.stn.1 g.stn.2.1 g.stn.2.2.1
  have hf := h.f.names g.fn.1 g.fn.2.1
  obtain ⟨a, vs, rfl, e, l, k⟩ := h.s
  obtain ⟨b, ws, rfl, e2, l2, k2⟩ := h.w
  obtain ⟨c, rfl, e3⟩ := h.f
  unfold makesW
  rw [lstOf_ref e, lstOf_ref e2, lstOf_ref e3]
  dsimp only
  rw [l]
  have h1 : vs.all (areNames H) = true := LL.all l k fun v x r m => r.names (g.sn x m).1 (g.sn x m).2.1
  have h2 : ws.all (someRooms H d.signs.length) = true := LL.all l2 k2 fun v x r m => r.rooms (g.wn x m).1 (g.wn x m).2.1 (g.wn x m).2.2.1
  have := g.n1
  have := g.n20
  have := g.wl
  have := g.fn.2.2
  simp only [few3, Bool.and_eq_true, decide_eq_true_eq, List.length_map]
  refine ⟨⟨⟨⟨⟨by omega, by omega⟩, by omega⟩, h1⟩, h2⟩, hst, hf, by omega⟩

/-! ### a world as an object -/
def wfs (t1 t2 t3 t4 : V) : List (Str × V) := [("room_signs", t1), ("room_ways", t2), ("start_rooms", t3), ("fair_names", t4)]
theorem n12 : ¬ (("room_signs" : Str) = "room_ways") := by decide +kernel
theorem n13 : ¬ (("room_signs" : Str) = "start_rooms") := by decide +kernel
theorem n14 : ¬ (("room_signs" : Str) = "fair_names") := by decide +kernel
theorem n23 : ¬ (("room_ways" : Str) = "start_rooms") := by decide +kernel
theorem n24 : ¬ (("room_ways" : Str) = "fair_names") := by decide +kernel
theorem n34 : ¬ (("start_rooms" : Str) = "fair_names") := by decide +kernel
theorem put1 (t1 : V) : putF "room_signs" t1 [] = ([("room_signs", t1)] : List (Str × V)) := rfl
theorem put2 (t1 t2 : V) : putF "room_ways" t2 ([("room_signs", t1)] : List (Str × V)) = ([("room_signs", t1), ("room_ways", t2)] : List (Str × V)) := by simp only [putF, if_neg n12]
theorem put3 (t1 t2 t3 : V) : putF "start_rooms" t3 ([("room_signs", t1), ("room_ways", t2)] : List (Str × V)) = ([("room_signs", t1), ("room_ways", t2), ("start_rooms", t3)] : List (Str × V)) := by simp only [putF, if_neg n13, if_neg n23]
theorem put4 (t1 t2 t3 t4 : V) : putF "fair_names" t4 ([("room_signs", t1), ("room_ways", t2), ("start_rooms", t3)] : List (Str × V)) = wfs t1 t2 t3 t4 := by simp only [putF, if_neg n14, if_neg n24, if_neg n34, wfs]
structure WorldAt (C : Addr) (H : Hp) (p : Addr) (d : WD) : Prop where
  ex : ∃ dx t1 t2 t3 t4, H p = some (.ins C dx (wfs t1 t2 t3 t4)) ∧ LT TS H t1 (d.signs.map sortS) ∧ LT TIn H t2 (d.ways.map sortI) ∧ TIn H t3 (sortI d.starts) ∧ TS H t4 d.fair
theorem New.hidden {H H' : Hp} {p : Addr} {o : HO} (h : H p = some o) : Same (New H H') (hide p H') := fun b u e =>
  let ⟨h1, h2⟩ := New.of e
  hide_mk (fun z => by subst z; rw [h] at h1; cases h1) h2
theorem LS.hid {H : Hp} {p C dx : Addr} {fs : List (Str × V)} {v : V} {ss : List Str} (hp : H p = some (.ins C dx fs)) (h : LS H v ss) : LS (hide p H) v ss := by
  obtain ⟨a, rfl, e⟩ := h
  exact ⟨a, rfl, hide_mk (ne_of e hp (by intro z; cases z)) e⟩
theorem LI.hid {H : Hp} {p C dx : Addr} {fs : List (Str × V)} {v : V} {ss : List Int} (hp : H p = some (.ins C dx fs)) (h : LI H v ss) : LI (hide p H) v ss := by
  obtain ⟨a, rfl, e⟩ := h
  exact ⟨a, rfl, hide_mk (ne_of e hp (by intro z; cases z)) e⟩
theorem LL.hid {α : Type} {r : Hp → V → α → Prop} {H : Hp} {p C dx : Addr} {fs : List (Str × V)} {v : V} {xs : List α} (hp : H p = some (.ins C dx fs)) (m : ∀ v x, r H v x → r (hide p H) v x) (h : LL r H v xs) : LL r (hide p H) v xs := by
  obtain ⟨a, vs, rfl, e, l, q⟩ := h
  exact ⟨a, vs, rfl, hide_mk (ne_of e hp (by intro z; cases z)) e, l, fun i v x h1 h2 => m _ _ (q i v x h1 h2)⟩
theorem PartsV.hid {H : Hp} {p C dx : Addr} {fs : List (Str × V)} {s w st f : V} {d : WD} (hp : H p = some (.ins C dx fs)) (h : PartsV H s w st f d) : PartsV (hide p H) s w st f d :=
  ⟨h.s.hid hp fun _ _ r => r.hid hp, h.w.hid hp fun _ _ r => r.hid hp, h.st.hid hp, h.f.hid hp⟩
theorem lt_of_map {α β : Type} {r : Hp → V → β → Prop} {H : Hp} {f : α → β} {a : Addr} {ys : List V} {xs : List α} (h : H a = some (.tup ys)) (l : ys.length = xs.length) (q : ∀ (i : Nat) v, ys[i]? = some v → ∀ x, xs[i]? = some x → r H v (f x)) : LT r H (.ref a) (xs.map f) := by
  refine ⟨a, ys, rfl, h, by rw [List.length_map, l], fun i v x h1 h2 => ?_⟩
  rw [List.getElem?_map] at h2
  cases e : xs[i]? with
  | none => rw [e] at h2; cases h2
  | some y =>
    rw [e] at h2
    cases h2
    exact q i v h1 y e
end L3

set_option Elab.async false
set_option linter.all false
set_option maxRecDepth 100000
set_option maxHeartbeats 4000000
namespace L3
open PySem PySem.Spec L2

/-! ### things within things as data, for == -/
def dI (ns : List Int) : PyData := .list (ns.map PyData.int)
def dS (ss : List Str) : PyData := .list (ss.map PyData.str)
def Fine (n : Nat) (d : PyData) : Prop := d.canLay0 = true ∧ d.depth ≤ n
theorem fineAll {α : Type} {f : α → PyData} {n : Nat} {xs : List α} (h : ∀ x ∈ xs, Fine n (f x)) : PyData.canLayAll0 (xs.map f) = true ∧ PyData.depthAll (xs.map f) ≤ n := by
  induction xs with
  | nil => exact ⟨by simp [PyData.canLayAll0], by simp [PyData.depthAll]⟩
  | cons x r ih =>
    obtain ⟨a, b⟩ := ih fun y hy => h y (List.mem_cons_of_mem _ hy)
    obtain ⟨c, d⟩ := h x List.mem_cons_self
    rw [List.map_cons]
    exact ⟨by rw [PyData.canLayAll0, c, a]; rfl, by rw [PyData.depthAll]; exact Nat.max_le.mpr ⟨d, b⟩⟩
theorem fineL {α : Type} {f : α → PyData} {n : Nat} {xs : List α} (h : ∀ x ∈ xs, Fine n (f x)) : Fine (n + 1) (.list (xs.map f)) := by
  obtain ⟨a, b⟩ := fineAll h
  exact ⟨by rw [PyData.canLay0]; exact a, by rw [PyData.depth]; omega⟩
theorem fineI (ns : List Int) : Fine 1 (dI ns) := fineL fun x _ => ⟨by simp [PyData.canLay0], by simp [PyData.depth]⟩
theorem strOk_name {z : Str} (h : isNameS z = true) : PyData.strOk z = true := by
  unfold isNameS at h
  rw [Bool.and_eq_true] at h
  have h2 := List.all_eq_true.mp h.2
  unfold PyData.strOk
  rw [Array.all_eq_true_iff_forall_mem]
  intro x hx
  have := h2 x (Array.mem_toList_iff.mpr hx)
  unfold isLow at this
  have := of_decide_eq_true this
  exact decide_eq_true (by omega)
theorem fineS {ss : List Str} (h : ∀ x ∈ ss, isNameS x = true) : Fine 1 (dS ss) := fineL fun x hx => ⟨by simp [PyData.canLay0, strOk_name (h x hx)], by simp [PyData.depth]⟩
section
variable {K : PySem.W.Frag} {H : Hp}
theorem dpAll_map {α : Type} {g : α → V} {f : α → PyData} (h : ∀ x, Dp K H (g x) (f x)) : ∀ xs : List α, DpAll K H (xs.map g) (xs.map f)
  | [] => .nil
  | x :: r => .cons (h x) (dpAll_map h r)
theorem LI.dp {v : V} {ns : List Int} (h : LI H v ns) : Dp K H v (dI ns) := by
  obtain ⟨a, rfl, e⟩ := h
  exact .lst (SqL.of e) (dpAll_map (fun x => .int x) ns)
end
theorem eqv_self {n : Nat} {d : PyData} (h : Fine n d) : PyData.eqv d d = true := SeqAt.eqv_refl d h.1
theorem neD_no {K : PySem.W.Frag} {H : Hp} {x y : V} {d : PyData} {n : Nat} {Q : VK} (f : Fine n d) (hn : n ≤ 60) (h1 : Dp K H x d) (h2 : Dp K H y d) (q : Q (.bl false) H) : rEqD K true x y H Q :=
  ⟨d, d, h1, h2, f.1, f.1, Nat.le_trans f.2 hn, by rw [eqv_self f]; exact q⟩
/-- a list of ints == []: where it is not so, there is one -/
theorem eqD_nil {K : PySem.W.Frag} {H : Hp} {a b : Addr} {ns : List Int} {Q : VK} (h1 : H a = some (.lst (ns.map V.int))) (h2 : H b = some (.lst [])) (q : ∀ c : Bool, (c = true ↔ ns = []) → Q (.bl c) H) : rEqD K false (.ref a) (.ref b) H Q := by
  refine ⟨dI ns, .list [], LI.dp ⟨a, rfl, h1⟩, .lst (SqL.of h2) .nil, (fineI ns).1, by simp [PyData.canLay0, PyData.canLayAll0], Nat.le_trans (fineI ns).2 (by decide), ?_⟩
  refine q _ ?_
  cases ns with
  | nil => simp [dI, PyData.eqv, PyData.eqvAll]
  | cons x r => simp [dI, PyData.eqv, PyData.eqvAll]
end L3

set_option Elab.async false
set_option linter.all false
set_option maxRecDepth 100000
set_option maxHeartbeats 4000000
namespace L3
open PySem PySem.Spec L2
theorem SameX.updN {p D : Addr} {H H' : Hp} {o : HO} (s : SameX p H H') (h : H D = none) : SameX p H (L2.upd H' D o) := fun b u n e => by
  rw [upd_ne (ne_of_none e h)]
  exact s b u n e
theorem SameX.free {p D : Addr} {H H' : Hp} (s : SameX p H H') (np : D ≠ p) (h : H' D = none) : H D = none := by
  cases e : H D with
  | none => rfl
  | some o => rw [s D o np e] at h; cases h
theorem name_of {z : Str} (h1 : 1 ≤ z.length) (h2 : z.length ≤ 8) (h : z.cps.toList.all isLow = true) : isNameS z = true := by
  unfold isNameS
  simp [h1, h2, h]
theorem inV_str {z : Str} {ss : List Str} : inV (.str z) (ss.map V.str) = true ↔ z ∈ ss := by
  unfold inV
  rw [List.any_map, List.any_eq_true]
  constructor
  · rintro ⟨y, hy, e⟩
    have e' : (y == z) = true := e
    rw [beq_iff_eq] at e'
    exact e' ▸ hy
  · intro hz
    exact ⟨z, hz, by show (z == z) = true; simp⟩
end L3
namespace L3
open PySem PySem.Spec L2
theorem updK {H : Hp} {p F : Addr} {o o' : HO} (h : H p = some o) (n : p ≠ F) : upd H F o' p = some o := by rw [upd_ne n]; exact h
theorem ne_new {H : Hp} {p D : Addr} {o : HO} (h : H p = some o) (n : H D = none) : p ≠ D := fun e => by rw [e, n] at h; cases h
end L3
namespace L3
end L3
namespace L3
open PySem PySem.Spec L2
end L3

set_option Elab.async false
set_option linter.all false
set_option maxRecDepth 100000
set_option maxHeartbeats 4000000
namespace L3
open PySem PySem.Spec L2
section
variable {X : Cx} {K : PySem.W.Frag}
theorem pt_truthK {a : Expr} {ta : TE} (hK : X.K = K) (ha : PE X a ta) (he : ∀ whole, isTrue a X.env whole = (do let v ← whole; standAt a.pos; holding [v] (truthy v))) :
    PT X a (fun σ H Q => ta σ H fun x H' => ∃ k, TruV K x H' k ∧ Q k H') := by subst hK; exact pt_truth ha he
end
/-- for, over any iterator of n turns -/
theorem for_gen {J : It} {n : Nat} {g : TG} {tb : L2.TS} {D : Ends} {σ : St} {H : Hp} (Pv : Nat → St → Hp → Prop) (h0 : Pv 0 σ H) (hgo : ∀ i σ H, i < n → Pv i σ H → J.go i H) (hst : ∀ σ H, Pv n σ H → J.stop n H)
    (hs : ∀ i x σ H H2, i < n → Pv i σ H → J.yld i H x H2 → g x σ H2 fun σ2 H3 => tb { D with nx := Pv (i + 1), ct := Pv (i + 1), bk := D.nx } σ2 H3) (hd : ∀ σ H, Pv n σ H → D.nx σ H) :
    ∃ W : Nat → Nat → St → Hp → Prop, (∃ m, W 0 m σ H) ∧ ∀ i m σ H, W i m σ H →
      (J.stop i H ∧ D.nx σ H) ∨ (J.go i H ∧ ∃ N : St → Hp → Prop, (∀ σ' H', N σ' H' → ∃ m', m' < m ∧ W (i + 1) m' σ' H') ∧ ∀ x H', J.yld i H x H' → g x σ H' fun σ2 H2 => tb { D with nx := N, ct := N, bk := D.nx } σ2 H2) := by
  refine ⟨fun i m σ H => m = n - i ∧ i ≤ n ∧ Pv i σ H, ⟨n, by simp, Nat.zero_le _, h0⟩, ?_⟩
  rintro i m σ H ⟨rfl, hi, p⟩
  by_cases hlt : i < n
  · exact .inr ⟨hgo i σ H hlt p, Pv (i + 1), fun σ' H' p' => ⟨n - (i + 1), by omega, rfl, hlt, p'⟩, fun x H' y => hs i x σ H H' hlt p y⟩
  · have e : i = n := by omega
    subst e
    exact .inl ⟨hst σ H p, hd σ H p⟩

/-! ### runs as plain functions -/
theorem inV_int {z : Int} {ss : List Int} : inV (.int z) (ss.map V.int) = decide (z ∈ ss) := by
  rw [Bool.eq_iff_iff, decide_eq_true_iff]
  unfold inV
  rw [List.any_map, List.any_eq_true]
  constructor
  · rintro ⟨y, hy, e⟩
    have e' : (y == z) = true := e
    rw [beq_iff_eq] at e'
    exact e' ▸ hy
  · intro hz
    exact ⟨z, hz, by show (z == z) = true; simp⟩
theorem getD_of {xs : List Int} {i : Nat} {x : Int} (h : xs[i]? = some x) : xs.getD i 0 = x := by simp [List.getD, h]
theorem map_at {xs : List Int} {i : Nat} {v : V} (h : (xs.map V.int)[i]? = some v) : v = .int (xs.getD i 0) ∧ xs[i]? = some (xs.getD i 0) := by
  rw [List.getElem?_map] at h
  cases e : xs[i]? with
  | none => rw [e] at h; cases h
  | some y =>
    rw [e] at h
    cases h
    rw [getD_of e]
    exact ⟨rfl, rfl⟩
theorem at_of {xs : List Int} {i : Nat} (h : i < xs.length) : (xs.map V.int)[i]? = some (.int (xs.getD i 0)) := by
  simp [List.getD, h]
theorem cutV_from (xs : List V) (k : Nat) (h : k ≤ xs.length) : cutV xs (some (k : Int)) none = xs.drop k := by
  unfold cutV
  rw [HT.sIx_nat, HT.sIx_none, Nat.min_eq_left h]
  exact List.take_of_length_le (by rw [List.length_drop]; omega)
theorem cutV_to (xs : List V) (k : Nat) (h : k ≤ xs.length) : cutV xs none (some (k : Int)) = xs.take k := by
  unfold cutV
  rw [HT.sIx_nat, HT.sIx_none, Nat.min_eq_left h]
  simp
theorem isTy_same {H H' : Hp} {T : String} {v : V} (s : Same H H') (h : Kd H v) : isTy H' T v = isTy H T v := by
  cases h with
  | non => rfl
  | bl b => rfl
  | int i => rfl
  | str z hz => rfl
  | lst e => simp only [isTy, e, s _ _ e]
  | tup e => simp only [isTy, e, s _ _ e]
  | dK e => simp only [isTy, e, s _ _ e]
end L3
namespace L3
open PySem PySem.Spec L2
end L3

set_option Elab.async false
set_option linter.all false
set_option maxRecDepth 100000
set_option maxHeartbeats 4000000
namespace L3
open PySem PySem.Spec L2
end L3
namespace L3
open PySem PySem.Spec L2
/-- a statement, then the rest, with a word of one's own between -/
theorem pss_join {X : Cx} {st : Stmt} {rest : List Stmt} {t u : L2.TS} (h1 : PS X st t) (h2 : PSs X rest u) : PSs X (st :: rest) (fun D σ H => ∃ J : St → Hp → Prop, t { D with nx := J } σ H ∧ ∀ σ' H', J σ' H' → u D σ' H') := by
  intro pins s σ H D I h
  obtain ⟨J, h, hj⟩ := h
  refine wpAny_execs_cons (thn (h1 pins s σ H { D with nx := J } I h) fun f s1 q => ?_)
  cases f with
  | next =>
    obtain ⟨σ', H', I', q⟩ := q
    exact h2 pins s1 σ' H' D I' (hj _ _ q)
  | ret v => exact q
  | brk => exact q
  | cont => exact q
end L3

set_option Elab.async false
set_option linter.all false
set_option maxRecDepth 100000
set_option maxHeartbeats 4000000
namespace L3
open PySem PySem.Spec PyProof.Rows L2
/-! ### an exception in flight whose context is None -/
/-- the exception at e: its class, its first field, no context, its traceback at T, which is new since base and bears the mark fl -/
def TrV (h base : Heap) (e : Addr) (cls fl : Value) : Prop :=
  ∃ oe vs T oT ts a0, h.get? e = some oe ∧ oe.cls = cls ∧ oe.data = .fields vs ∧ vs[0]? = some a0 ∧ vs[2]? = some .none ∧ vs[1]? = some (.ref T) ∧ base.get? T = none ∧ T ≠ e ∧ h.get? T = some oT ∧ oT.data = .fields ts ∧ ts[3]? = some fl
def FlV (base : Heap) (l : List Env) (e : Addr) (cls fl : Value) (h : Heap) : Prop := base.StaysIn h ∧ base.get? e = none ∧ h.FunFrames base l ∧ TrV h base e cls fl
section
variable {M : Model} {A : Around} {E : Value → Shared → Prop} {s : Shared} {base : Heap} {env : Env} {outer : List Env} {L e : Addr} {cls fl : Value} {Q : Unit → Shared → Prop}
/-- a new entry of the traceback -/
theorem entryV {oe : Obj} {vs : Array Value} {head a0 : Value} {hadNext : Bool} (hfr : A.frames = some (env :: outer)) (hl : s.heap.FunFrames base (env :: outer)) (hf : env.frame = some L)
    (he : s.heap.get? e = some oe) (hkb : base.StaysIn s.heap) (hen : base.get? e = none) (hd : oe.data = .fields vs) (hsz : 1 < vs.size) (h0 : vs[0]? = some a0) (h2 : vs[2]? = some .none)
    (h : ∀ h', FlV base (env :: outer) e oe.cls (rawInt L) h' → s.heap.UpToSlots h' → Q () { s with heap := h' }) :
    wpAny M A (do let a ← frameOf env; let pl ← entryPlaceOf L hadNext; let b ← EntryCells.newEntry head a .none (rawInt L) .none pl; setField (.ref e) 1 b) Q E s := by
  have out : e ∉ (env :: outer).filterMap (·.frame) := fun hm => by
    obtain ⟨_, o, ho, hnf⟩ := hl.mem hm
    rw [he] at ho
    cases ho
    exact hnf vs hd
  refine wpAny_bind (wpAny_frameOf_fun hfr hl hf fun h₁ hs₁ => wpAny_bind (wpAny_entryPlaceOf fun pl hpl => ?_))
  unfold EntryCells.newEntry newFields
  refine wpAny_bind (wpAny_newObj_type ?_ (hpl.sizeOk5 _ _ _ _ _))
  have he₁ : h₁.get? e = some oe := (hs₁.2.1 e out).trans he
  have kb : base.StaysIn h₁ := fun b o q => (hs₁.2.1 b fun hm => by rw [(hl.mem hm).1] at q; cases q).trans (hkb b o q)
  generalize hob : ({ cls := .type "traceback", dict := none, data := .fields ([head, .ref L, .none, rawInt L, .none] ++ (if pl.isEmpty then List.replicate 6 Value.none else pl)).toArray } : Obj) = ob
  have he₂ := Heap.get?_push_of_some (h := h₁) ob he₁
  have hnew : (h₁.push ob).get? h₁.objs.size = some ob := Heap.get?_push_size h₁ (by rw [← hob]; rfl)
  refine wpAny_setField he₂ hd hsz ?_
  have hTe : h₁.objs.size ≠ e := Nat.ne_of_gt (Heap.lt_size he₁)
  have hd₃ := Obj.data_mapFields hd (·.setIfInBounds 1 (Value.ref h₁.objs.size))
  have he₃ := Heap.get?_update_self (Obj.mapFields (·.setIfInBounds 1 (Value.ref h₁.objs.size))) he₂ (Obj.isFreed_of_fields hd₃)
  have hT₃ := (Heap.get?_update_other (h₁.push ob) (Obj.mapFields (·.setIfInBounds 1 (Value.ref h₁.objs.size))) (Ne.symm hTe)).trans hnew
  have stay : ∀ b o, b ≠ e → h₁.get? b = some o → ((h₁.push ob).update e (Obj.mapFields (·.setIfInBounds 1 (Value.ref h₁.objs.size)))).get? b = some o := fun b o hbe q => by
    rw [Heap.get?_update_other _ _ (Ne.symm hbe)]
    exact Heap.get?_push_of_some _ q
  have plain : ∀ b o, s.heap.get? b = some o → (∀ vs, o.data ≠ .fields vs) → b ≠ e := fun b o q hnf z => by
    rw [z, he] at q
    cases q
    exact hnf vs hd
  refine h _ ⟨fun b o q => stay b o (fun z => by rw [z, hen] at q; cases q) (kb b o q), hen, hl.of_keeps fun b o q hnf => ?_, ?_⟩ fun b o q hnf => ?_
  · obtain ⟨sl, hs⟩ := hs₁.2.2 b o q
    exact ⟨_, stay b _ (plain b o q hnf) hs, rfl⟩
  · refine ⟨_, _, h₁.objs.size, ob, ([head, .ref L, .none, rawInt L, .none] ++ (if pl.isEmpty then List.replicate 6 Value.none else pl)).toArray, a0, he₃, Obj.cls_mapFields _ _, hd₃, ?_, ?_, by simp [hsz], kb.fresh, hTe, hT₃, by rw [← hob], ?_⟩
    · rw [Array.getElem?_setIfInBounds_ne (by decide)]; exact h0
    · rw [Array.getElem?_setIfInBounds_ne (by decide)]; exact h2
    · simp
  · obtain ⟨sl, hs⟩ := hs₁.2.2 b o q
    exact ⟨sl, stay b _ (plain b o q hnf) hs⟩
/-- the frame is noted, for the first time -/
theorem note_firstV {oe : Obj} {vs : Array Value} {a0 : Value} (hfr : A.frames = some (env :: outer)) (hl : s.heap.FunFrames base (env :: outer)) (hf : env.frame = some L)
    (he : s.heap.get? e = some oe) (hkb : base.StaysIn s.heap) (hen : base.get? e = none) (hd : oe.data = .fields vs) (h0 : vs[0]? = some a0) (h1 : vs[1]? = some .none) (h2 : vs[2]? = some .none)
    (h : ∀ h', FlV base (env :: outer) e oe.cls (rawInt L) h' → s.heap.UpToSlots h' → Q () { s with heap := h' }) : wpAny M A (noteFrame (.ref e) env) Q E s := by
  unfold noteFrame
  simp only [hf]
  refine wpAny_bind (wpAny_field he hd h1 ?_)
  rw [if_neg (by decide)]
  exact entryV hfr hl hf he hkb hen hd (Array.getElem?_eq_some_iff.mp h1).1 h0 h2 h
/-- .. and on its way -/
theorem note_onV (hfr : A.frames = some (env :: outer)) (hf : env.frame = some L) (x : FlV base (env :: outer) e cls .none s.heap)
    (h : ∀ h', FlV base (env :: outer) e cls (rawInt L) h' → s.heap.UpToSlots h' → Q () { s with heap := h' }) : wpAny M A (noteFrame (.ref e) env) Q E s := by
  obtain ⟨hkb, hen, hl, oe, vs, T, oT, ts, a0, he, hc, hd, h0, h2, h1, hnT, hTe, hT, hdT, h3⟩ := x
  subst hc
  unfold noteFrame
  simp only [hf]
  refine wpAny_bind (wpAny_field he hd h1 ?_)
  rw [if_pos (show (Value.ref T != Value.none) = true from by simp)]
  refine wpAny_bind (wpAny_field hT hdT h3 ?_)
  rw [if_neg (show ¬ ((Value.none == rawInt L) = true) from by simp [rawInt])]
  refine wpAny_bind (wpAny_setField hT hdT (Array.getElem?_eq_some_iff.mp h3).1 ?_)
  have other : ∀ b, b ≠ T → (s.heap.update T (Obj.mapFields (·.setIfInBounds 3 Value.none))).get? b = s.heap.get? b := fun b hb => Heap.get?_update_other _ _ (Ne.symm hb)
  have plain : ∀ b o, s.heap.get? b = some o → (∀ vs, o.data ≠ .fields vs) → b ≠ T := fun b o q hnf z => by
    rw [z, hT] at q
    cases q
    exact hnf ts hdT
  refine entryV hfr (hl.of_keeps fun b o q hnf => ⟨o, (other b (plain b o q hnf)).trans q, rfl⟩) hf ((other e (Ne.symm hTe)).trans he)
    (fun b o q => (other b fun z => by rw [z, hnT] at q; cases q).trans (hkb b o q)) hen hd (Array.getElem?_eq_some_iff.mp h1).1 h0 h2
    fun h' x' up => h h' x' fun b o q hnf => up b o ((other b (plain b o q hnf)).trans q) hnf
/-- the mark goes -/
theorem landV {l : List Env} (x : FlV base l e cls fl s.heap) (h : ∀ h', FlV base l e cls .none h' → s.heap.UpToSlots h' → Q () { s with heap := h' }) : wpAny M A (setFlight (.ref e) none) Q E s := by
  obtain ⟨hkb, hen, hl, oe, vs, T, oT, ts, a0, he, hc, hd, h0, h2, h1, hnT, hTe, hT, hdT, h3⟩ := x
  have hsz3 : 3 < ts.size := (Array.getElem?_eq_some_iff.mp h3).1
  have other : ∀ b, b ≠ T → (s.heap.update T (Obj.mapFields (·.setIfInBounds 3 ((none : Option Addr).elim Value.none fun f => rawInt f)))).get? b = s.heap.get? b := fun b hb => Heap.get?_update_other _ _ (Ne.symm hb)
  have plain : ∀ b o, s.heap.get? b = some o → (∀ vs, o.data ≠ .fields vs) → b ≠ T := fun b o q hnf z => by
    rw [z, hT] at q
    cases q
    exact hnf ts hdT
  unfold setFlight
  refine wpAny_bind (wpAny_field he hd h1 ?_)
  rw [if_pos (show (Value.ref T != Value.none) = true from by simp)]
  refine wpAny_setField hT hdT hsz3 (h _ ⟨fun b o q => (other b fun z => by rw [z, hnT] at q; cases q).trans (hkb b o q), hen,
    hl.of_keeps fun b o q hnf => ⟨o, (other b (plain b o q hnf)).trans q, rfl⟩,
    oe, vs, T, _, _, a0, (other e (Ne.symm hTe)).trans he, hc, hd, h0, h2, h1, hnT, hTe, Heap.get?_update_self _ hT (Obj.isFreed_of_fields (Obj.data_mapFields hdT _)), Obj.data_mapFields hdT _, by simp [hsz3]⟩
    fun b o q hnf => ⟨o.slots, (other b (plain b o q hnf)).trans q⟩)
/-- a def is left, by a new exception -/
theorem leaves_madeV {h : Heap} {args : List Value} (hfr : A.frames = some (env :: outer)) (hf : env.frame = some L) (hkb : base.StaysIn h) (hl : h.FunFrames base (env :: outer)) (hx : Heap.MadeExcOf h s.heap e cls args)
    (hQ : ∀ h', FlV base outer e cls .none h' → s.heap.UpToSlots h' → Q () { s with heap := h' }) : wpAny M A (leaving env (.ref e)) Q E s := by
  obtain ⟨t, he, htn, ht⟩ := hx.there
  have fresh : ∀ b, h.get? b = none → base.get? b = none := fun b hb => by
    cases q : base.get? b with
    | none => rfl
    | some o' => rw [hkb b o' q] at hb; cases hb
  unfold leaving
  refine wpAny_bind (note_firstV (a0 := .ref t) hfr (hl.of_keeps fun b o q _ => ⟨o, hx.keeps b o q, rfl⟩) hf he (fun b o q => hx.keeps b o (hkb b o q)) (fresh e hx.new) rfl rfl rfl rfl fun h' x' up => ?_)
  refine landV (s := { s with heap := h' }) x' fun h'' ⟨y1, y2, ⟨_, _, y3⟩, y4⟩ up' => hQ h'' ⟨y1, y2, y3, y4⟩ (up.trans up')
/-- a def is left, by one that came through it -/
theorem leaves_onV (hfr : A.frames = some (env :: outer)) (hf : env.frame = some L) (x : FlV base (env :: outer) e cls .none s.heap)
    (hQ : ∀ h', FlV base outer e cls .none h' → s.heap.UpToSlots h' → Q () { s with heap := h' }) : wpAny M A (leaving env (.ref e)) Q E s := by
  unfold leaving
  refine wpAny_bind (note_onV hfr hf x fun h' x' up => ?_)
  refine landV (s := { s with heap := h' }) x' fun h'' ⟨y1, y2, ⟨_, _, y3⟩, y4⟩ up' => hQ h'' ⟨y1, y2, y3, y4⟩ (up.trans up')
end
end L3

set_option Elab.async false
set_option linter.all false
set_option maxRecDepth 100000
set_option maxHeartbeats 4000000
namespace L3
open PySem PySem.Spec PyProof.Rows L2
/-! ### exceptions of one's own classes: how they lie behind a call -/
/-- the exception at a, of the class at C, with its traceback at T; neither was there in h0, neither is tracked -/
def FlyN (h0 : Heap) (H : Hp) (h : Heap) (a C T : Addr) : Prop :=
  h0.get? a = none ∧ h0.get? T = none ∧ H a = none ∧ H T = none ∧ T ≠ a ∧
  ∃ oe vs oT ts a0, h.get? a = some oe ∧ oe.cls = .ref C ∧ oe.data = .fields vs ∧ vs[0]? = some a0 ∧ vs[1]? = some (.ref T) ∧ h.get? T = some oT ∧ oT.data = .fields ts ∧ ts[3]? = some .none ∧ vs[2]? = some .none
/-- an exception behind a call -/
def CXe (P : Program) (w : World) : CXT := fun outer H s E e s' =>
  ∃ a C T H', e = .ref a ∧ s'.os = s.os ∧ AllBare s'.gens ∧ Un (frs outer) [] H H' s.heap s'.heap ∧ HOk P w H' s'.heap ∧ FlyN s.heap H' s'.heap a C T ∧ E e (some C) H'

/-- what is tracked stays, where the tracked objects stay -/
theorem hok_stay {P : Program} {w : World} {H : Hp} {h h' : Heap} (x : HOk P w H h) (k : ∀ b o, (H b).isSome = true → h.get? b = some o → h'.get? b = some o) : HOk P w H h' := fun a o e =>
  (x a o e).stay (fun b u hb q => k b u (by rcases hb with rfl | hb <;> simp [*]) q) (fun _ q => q) fun _ _ q => q
theorem hok_there {P : Program} {w : World} {H : Hp} {h : Heap} {a : Addr} (x : HOk P w H h) (e : h.get? a = none) : H a = none := by
  cases q : H a with
  | none => rfl
  | some o =>
    exfalso
    have z := x a o q
    obtain ⟨o', z'⟩ : ∃ o', h.get? a = some o' := by
      cases o with
      | lst xs => obtain ⟨_, _, _, _, e⟩ := z; exact ⟨_, e⟩
      | tup xs => obtain ⟨_, _, _, _, e, _⟩ := z; exact ⟨_, e⟩
      | dK kvs => obtain ⟨_, _, _, _, _, _, _, e, _⟩ := z; exact ⟨_, e⟩
      | dT kvs => obtain ⟨_, _, _, _, _, _, _, e, _⟩ := z; exact ⟨_, e⟩
      | set S n => obtain ⟨_, _, _, _, e, _⟩ := z; exact ⟨_, e⟩
      | ins C dx fs => obtain ⟨_, _, _, e, _⟩ := z; exact ⟨_, e⟩
      | own y => obtain ⟨_, e⟩ := z; exact ⟨_, e⟩
      | xd fs => obtain ⟨_, ⟨_, _, _, e, _⟩, _⟩ := z; exact ⟨_, e⟩
      | rng lo hi => obtain ⟨_, _, _, e⟩ := z; exact ⟨_, e⟩
      | frz ob u => obtain ⟨e, _⟩ := z; exact ⟨_, e⟩
      | tbl ps => exact ⟨_, z⟩
      | met f y => exact ⟨_, z⟩
      | ext φ => obtain ⟨_, ⟨o, e⟩, _⟩ := z; exact ⟨_, e⟩
    rw [e] at z'
    cases z'
section
variable {P : Program} {w : World} {K : PySem.W.Frag} {mg : Str → Option Value} {base : Heap} {N : List Str} {qual : Str} {scope : Scope} {f : Addr} {cd : Value} {A : Around} {outer : List Env} {s₀ : Shared} {H₀ : Hp} {E : XK}
theorem frs_mem {l : List Env} {b : Addr} {env : Env} (he : env ∈ l) (hb : env.frame = some b) : b ∈ frs l := List.mem_filterMap.mpr ⟨env, he, hb⟩
/-- an exception has left the def: it lies as CXe says. B: a block's own dict that was let go, or a itself -/
theorem left_cx {pins : List (Addr × Obj)} {σ : St} {H : Hp} {s : Shared} {a C T B : Addr} {h₂ : Heap} (I : Inv (cxOf (CXe P w) P w K mg base N qual scope f cd A outer s₀ H₀ E) pins σ H s)
    (n1 : s₀.heap.get? a = none) (n2 : s₀.heap.get? T = none) (n3 : H a = none) (n4 : H T = none) (hB1 : H B = none) (hB2 : s₀.heap.get? B = none)
    (f1 : (PySem.W.hideAll s.heap (B :: a :: T :: frs (envOfC qual scope s₀.heap.objs.size f cd :: outer))).StaysIn h₂) (slot : ∀ b o, s.heap.get? b = some o → b ∈ frs (envOfC qual scope s₀.heap.objs.size f cd :: outer) → ∃ sl, h₂.get? b = some { o with slots := sl })
    (f4 : TrV h₂ (PySem.W.hideAll s.heap (B :: a :: T :: frs (envOfC qual scope s₀.heap.objs.size f cd :: outer))) a (.ref C) .none) (hE : E (.ref a) (some C) H) : CXe P w outer H₀ s₀ E (.ref a) { s with heap := h₂ } := by
  have hst := I.stack
  have hfree := I.stkFree
  have hok := I.hok
  have hsub : ∀ b ∈ frs outer, b ∈ frs (envOfC qual scope s₀.heap.objs.size f cd :: outer) := fun b hb => by
    obtain ⟨env, he, hf⟩ := List.mem_filterMap.mp hb
    exact List.mem_filterMap.mpr ⟨env, List.mem_cons_of_mem _ he, hf⟩
  have hown : ∀ b ∈ frs (envOfC qual scope s₀.heap.objs.size f cd :: outer), b = s₀.heap.objs.size ∨ b ∈ frs outer := fun b hb => by
    obtain ⟨env, he, hf⟩ := List.mem_filterMap.mp hb
    rcases List.mem_cons.mp he with rfl | he
    · exact .inl (Option.some.inj hf).symm
    · exact .inr (List.mem_filterMap.mpr ⟨env, he, hf⟩)
  have out : ∀ {b : Addr}, b ≠ a → b ≠ T → b ≠ B → b ∉ frs (envOfC qual scope s₀.heap.objs.size f cd :: outer) → b ∉ B :: a :: T :: frs (envOfC qual scope s₀.heap.objs.size f cd :: outer) := fun {b} z1 z2 z4 z3 z => by
    rcases List.mem_cons.mp z with z | z
    · exact z4 z
    · rcases List.mem_cons.mp z with z | z
      · exact z1 z
      · rcases List.mem_cons.mp z with z | z
        · exact z2 z
        · exact z3 z
  have keep : ∀ b o, s.heap.get? b = some o → b ≠ a → b ≠ T → b ≠ B → b ∉ frs (envOfC qual scope s₀.heap.objs.size f cd :: outer) → h₂.get? b = some o := fun b o q z1 z2 z4 z3 => f1 b o (PySem.W.hideAll_get _ q (out z1 z2 z4 z3))
  have ne : ∀ {c : Addr}, s₀.heap.get? c = none → ∀ b o, s₀.heap.get? b = some o → b ≠ c := fun {c} hc b o q z => by rw [z, hc] at q; cases q
  have neL : ∀ b o, s₀.heap.get? b = some o → b ≠ s₀.heap.objs.size := fun b o z => Nat.ne_of_lt (Heap.lt_size z)
  obtain ⟨oe', vs', T', oT', ts', a0', he', hcls', hd', h0', h2', h1', hnT', hTe', hT', hdT', h3'⟩ := f4
  have far : ∀ o, s.heap.get? T' = some o → T' ≠ a → T' ≠ T → T' ≠ B → False := fun o q z1 z2 z4 => by
    by_cases n : T' ∈ frs (envOfC qual scope s₀.heap.objs.size f cd :: outer)
    · obtain ⟨_, o', ho', hdn⟩ := Heap.FunFrames.mem hst n
      rw [q] at ho'
      cases ho'
      obtain ⟨sl, z⟩ := slot T' o q n
      rw [hT'] at z
      cases z
      exact hdn ts' hdT'
    · rw [PySem.W.hideAll_get _ q (out z1 z2 z4 n)] at hnT'
      cases hnT'
  have e1 : s₀.heap.get? T' = none := by
    cases q : s₀.heap.get? T' with
    | none => rfl
    | some o =>
      obtain ⟨o', z'⟩ := I.base.there T' o q (fun y => nomatch y)
      exact (far o' z' (ne n1 _ _ q) (ne n2 _ _ q) (ne hB2 _ _ q)).elim
  have e2 : H T' = none := by
    cases q : H T' with
    | none => rfl
    | some u =>
      cases z : s.heap.get? T' with
      | none => rw [hok_there hok z] at q; cases q
      | some o => exact (far o z (fun y => by rw [y, n3] at q; cases q) (fun y => by rw [y, n4] at q; cases q) (fun y => by rw [y, hB1] at q; cases q)).elim
  refine ⟨a, C, T', H, rfl, I.os, I.bare, ⟨fun b o q n hb hx => ?_, fun b o q n hb hx => ?_, fun b o q n hx => I.base.free b o q n (fun y => nomatch y), fun b o q hx => ?_, I.base.tups, I.base.frzs, I.base.tbls⟩, ?_,
    ⟨n1, e1, n3, e2, hTe', oe', vs', oT', ts', _, he', hcls', hd', h0', h1', hT', hdT', h3', h2'⟩, hE⟩
  · exact keep b o (I.base.keep b o q n hb (fun y => nomatch y)) (ne n1 _ _ q) (ne n2 _ _ q) (ne hB2 _ _ q) fun z => (hown b z).elim (neL b o q) hb
  · obtain ⟨sl, q1⟩ := I.base.slot b o q n hb (fun y => nomatch y)
    obtain ⟨sl2, q2⟩ := slot b _ q1 (hsub b hb)
    exact ⟨sl2, q2⟩
  · obtain ⟨o', q1⟩ := I.base.there b o q (fun y => nomatch y)
    by_cases n : b ∈ frs (envOfC qual scope s₀.heap.objs.size f cd :: outer)
    · obtain ⟨sl, q2⟩ := slot b o' q1 n
      exact ⟨_, q2⟩
    · exact ⟨o', keep b o' q1 (ne n1 _ _ q) (ne n2 _ _ q) (ne hB2 _ _ q) n⟩
  · refine hok_stay hok fun b o hb q => keep b o q (fun z => ?_) (fun z => ?_) (fun z => ?_) fun z => ?_
    · rw [z, n3] at hb; cases hb
    · rw [z, n4] at hb; cases hb
    · rw [z, hB1] at hb; cases hb
    · rw [hfree b z] at hb; cases hb
theorem stay_hid {h : Heap} {l : List Addr} : (PySem.W.hideAll h l).StaysIn h := fun b o q => PySem.W.of_hideAll _ q
theorem slot_of {h h1 h2 base : Heap} {l : List Env} (hst : h.FunFrames base l) (k : ∀ b o, h.get? b = some o → (∀ vs, o.data ≠ .fields vs) → ∃ sl, h1.get? b = some { o with slots := sl }) (up : h1.UpToSlots h2) :
    ∀ b o, h.get? b = some o → b ∈ frs l → ∃ sl, h2.get? b = some { o with slots := sl } := fun b o q n => by
  obtain ⟨_, o', ho', hdn⟩ := Heap.FunFrames.mem hst n
  rw [q] at ho'
  cases ho'
  obtain ⟨sl, q1⟩ := k b o q hdn
  obtain ⟨sl2, q2⟩ := up b _ q1 hdn
  exact ⟨sl2, q2⟩
/-- a new exception leaves the def -/
theorem leave_made {pins : List (Addr × Obj)} {σ : St} {H : Hp} {s : Shared} {h' : Heap} {e C : Addr} {vs : List Value} (I : Inv (cxOf (CXe P w) P w K mg base N qual scope f cd A outer s₀ H₀ E) pins σ H s)
    (hm : Heap.MadeExcOf s.heap h' e (.ref C) vs) (hE : E (.ref e) (some C) H) : (cxOf (CXe P w) P w K mg base N qual scope f cd A outer s₀ H₀ E).xe (.ref e) { s with heap := h' } := by
  show wpAny (model P w) (A.deeper (envOfC qual scope s₀.heap.objs.size f cd)) (leaving (envOfC qual scope s₀.heap.objs.size f cd) (.ref e)) _ _ _
  have hst := I.stack
  have ne0 : s₀.heap.get? e = none := by
    cases z : s₀.heap.get? e with
    | none => rfl
    | some o =>
      obtain ⟨o', z'⟩ := I.base.there e o z (by exact (fun y => nomatch y))
      rw [hm.new] at z'
      cases z'
  refine leaves_madeV (base := PySem.W.hideAll s.heap (e :: e :: e :: frs (envOfC qual scope s₀.heap.objs.size f cd :: outer))) (h := s.heap) (outer := outer) (L := s₀.heap.objs.size) I.ok.frames rfl stay_hid
    (PySem.W.funFrames_hide hst fun env he b hb => .tail _ (.tail _ (.tail _ (frs_mem he hb)))) hm fun h₂ ⟨f1, f2, f3, f4⟩ hup => ?_
  have hH := hok_there I.hok hm.new
  show CXe P w outer H₀ s₀ E (.ref e) { s with heap := h₂ }
  exact left_cx (s := s) I ne0 ne0 hH hH hH ne0 f1 (slot_of hst (fun b o q _ => ⟨o.slots, hm.keeps b o q⟩) hup) f4 hE
end
section
variable {K : PySem.W.Frag} {mg : Str → Option Value} {base : Heap} {x : Str} {C : Addr} {bmB : List Value} {newId : String}
/-- a class of exceptions of the module's, as the heap has it -/
theorem exc_own (M : Mod K mg base) (hm : mg x = some (.ref C)) (q : PySem.W.excIn K C bmB newId = true) : OwnCls x C bmB newId mg base := by
  refine ⟨hm, ?_⟩
  have X := M.kin
  unfold PySem.W.excIn at q
  split at q
  case h_2 => cases q
  case h_1 dd cd sl ho =>
    split at q
    case h_2 => cases q
    case h_1 C' bm k0 k1 k2 k3 n k5 hmro hs =>
      simp only [Bool.and_eq_true, beq_iff_eq, Bool.not_eq_true'] at q
      obtain ⟨⟨⟨⟨⟨e1, e2⟩, e3⟩, e4⟩, e5⟩, e6⟩ := q
      subst e1 e2
      cases cd with
      | mk nm bs mro ns qn hdc sn sub ab col del =>
        dsimp only at hmro e3 e5 e6
        subst hmro e3
        cases sl with
        | mk l =>
          dsimp only at hs
          subst hs
          exact ⟨bm, ns, nm, qn, bs, hdc, sn, sub, ab, col, dd, k0, k1, k2, k3, k5, _, X _ _ ho, .of_isNs (PySem.W.isNs_of_in X e5), PySem.W.nsMap_none_of_in X e5 e6, PySem.W.tail_of_in X e4⟩
end
/-- an exception of one's own class, made by raise, reaches what this body wants of exceptions -/
def Raises (X : Cx) (E : XK) : Prop := ∀ (pins : List (Addr × Obj)) (σ : St) (H : Hp) (s : Shared) (h' : Heap) (e C : Addr) (vs : List Value), Inv X pins σ H s → Heap.MadeExcOf s.heap h' e (.ref C) vs → E (.ref e) (some C) H → X.xe (.ref e) { s with heap := h' }
section
variable {X : Cx} {x : Str} {C : Addr} {e : Expr} {es : List Expr} {t : TA} {E : XK} {B newId initId : String} {bmB : List Value} {np cpos pos : Pos}
/-- raise C(e, ..) -/
def tRaise (C : Addr) (E : XK) (t : TA) : L2.TS := fun _ σ H => t σ H fun vs H1 => vs.length ≤ 1000 ∧ ∀ a, E (.ref a) (some C) H1
theorem ps_raise (hr : Raises X E) (hh : X.calm = true) (hg : Gl X x) (hm : X.mg x = some (.ref C)) (q : PySem.W.excIn X.K C bmB newId = true) (FB : ExcBaseFacts B newId initId bmB) (ha : PA X (e :: es) t)
    (hdb : (x == ("__debug__" : Str)) = false := by decide) (he : starEach (e :: es) X.env = (false, eval e X.env) :: starEach es X.env := by rfl) (hpl : (backTo cpos (starEach es X.env)).any (·.1) = false := by rfl) :
    PS X (.Raise (some (.Call (.Name x np) (e :: es) [] cpos)) none pos) (tRaise C E t) := by
  intro pins s σ H D I h
  have OC : OwnCls x C bmB newId X.mg X.base := exc_own I.ok.mod hm q
  obtain ⟨tl, N, nm, qn, bs, hdct, sn, sub, ab, col, dd, k0, k1, k2, k3, k5, mN, hC, hN, hni, T⟩ := OC.obj
  refine wpAny_Raise_call_subT (C := C) (nm := nm) (q := qn) (N := N) (bs := bs) (bm := tl) (hdct := hdct) (sn := sn) (sub := sub) (ab := ab) (col := col) (dd := dd) (k0 := k0) (k1 := k1) (k2 := k2) (k3 := k3) (k5 := k5)
    FB (mN := mN) (T.hasType FB.hasBase) (I.ok.hd hh) (by rw [he]; show (false || (backTo cpos (starEach es X.env)).any (·.1)) = false; rw [hpl]; rfl) hni (ld_glob I hg hm ⟨rfl, ?_⟩ hdb)
  have h2 := ha cpos pins s σ H _ I h
  rw [he] at h2 ⊢
  refine Calls.evalArgs_plain (wpAny_mono h2 (fun us s2 h3 => ?_) fun _ _ y => y)
  obtain ⟨vs, H1, I1, r, hl, hE⟩ := h3
  refine ⟨rfl, by rw [← r.length, sizeLine_eq]; omega, I1.bk _ _ hC, hN.keeps I1.bk, T.keeps I1.bk, fun h' a hma => hr pins σ H1 s2 h' a C us I1 hma (hE a)⟩
end
end L3

set_option Elab.async false
set_option linter.all false
set_option maxRecDepth 100000
set_option maxHeartbeats 4000000
namespace L3
open PySem PySem.Spec PyProof.Rows L2
/-! ### try, except -/
/-- what is wanted of an exception that a suite lets out: the names and the heap behind it -/
abbrev XS := Value → Option Addr → L2.St → Hp → Prop
def XP (X : Cx) (pins : List (Addr × Obj)) (E : XS) (e : Value) (s' : Shared) : Prop := ∃ σ H s, L2.Inv X pins σ H s ∧ CXe X.prog X.w X.stack H s (fun e c H' => E e c σ H') e s'
/-- an expression that may let an exception out -/
def PEx (X : Cx) (ex : Expr) (t : L2.St → Hp → VK → XK → Prop) : Prop :=
  ∀ (pins : List (Addr × Obj)) (s : Shared) (σ : L2.St) (H : Hp) (Q : VK) (E : XK), L2.Inv X pins σ H s → t σ H Q E → wpAny (model X.prog X.w) X.A (eval ex X.env) (EP X pins σ Q) (XP X pins fun e c σ' H' => σ' = σ ∧ E e c H') s
/-- a suite that may let an exception out -/
def PSx (X : Cx) (b : List Stmt) (t : L2.Ends → XS → L2.St → Hp → Prop) : Prop :=
  ∀ (pins : List (Addr × Obj)) (s : Shared) (σ : L2.St) (H : Hp) (D : L2.Ends) (E : XS), L2.Inv X pins σ H s → t D E σ H → wpAny (model X.prog X.w) X.A (execs b X.env) (SP X pins D) (XP X pins E) s
section
variable {X : Cx} {k : Nat} {f C : Addr} {fd : FuncData} {ps : List Str} {sp : Sp} {x : Str} {p pos : Pos} {e : Expr} {es : List Expr} {t : TA}
/-- a statement that is an expression -/
def tDropX (te : L2.St → Hp → VK → XK → Prop) : L2.Ends → XS → L2.St → Hp → Prop := fun D E σ H => te σ H (fun _ H1 => D.nx σ H1) (fun e c H1 => E e c σ H1)
theorem xp_mono {pins : List (Addr × Obj)} {E E' : XS} (h : ∀ e c σ H, E e c σ H → E' e c σ H) {v : Value} {s' : Shared} (x : XP X pins E v s') : XP X pins E' v s' := by
  obtain ⟨σ, H, s, I, a, C, T, H', e1, e2, e3, e4, e5, e6, e7⟩ := x
  exact ⟨σ, H, s, I, a, C, T, H', e1, e2, e3, e4, e5, e6, h _ _ _ _ e7⟩
theorem psx_expr {te : L2.St → Hp → VK → XK → Prop} (h0 : PEx X e te) (hs : swapsWith e none pos.line X.env = pure false := by rfl) : PSx X [.Expr e pos] (tDropX te) := by
  intro pins s σ H D E I h
  refine wpAny_execs_cons (wpAny_Expr_any (wpAny_mono (h0 pins s σ H _ _ I h) (fun v s1 h1 => ?_) fun v s1 z => ?_) I.quiet hs)
  · obtain ⟨y, H1, I1, r1, q1⟩ := h1
    exact wpAny_execs_nil ⟨σ, H1, I1, q1⟩
  · exact xp_mono (fun e c σ' H' ⟨q1, q2⟩ => by subst q1; exact q2) z
end
section
variable {X : Cx} {pins : List (Addr × Obj)} {σ : L2.St} {H : Hp} {s : Shared}
/-- within an except suite -/
abbrev _root_.L2.Cx.caught (X : Cx) (a : Addr) : Cx := { X with A := X.A.mark (some (.ref a)), calm := false, xe := fun _ _ => False }
theorem inv_caught (I : L2.Inv X pins σ H s) (a : Addr) : L2.Inv (X.caught a) pins σ H s :=
  ⟨⟨I.ok.mod, I.ok.kind, I.ok.glob, I.ok.blt, I.ok.above, I.ok.inj, I.ok.has, I.ok.cab, fun z => (nomatch z), I.ok.frames, I.ok.stk, I.ok.exf, I.ok.bs, I.ok.bsz, I.ok.noex, I.ok.exfs, I.ok.funs, I.ok.frf⟩, I.os, I.bare, I.base, I.loc, I.cell, I.free, I.freeC, I.pin, I.hok, I.len⟩
/-- the name of an except clause goes behind its suite -/
theorem unbind_ok {M : Model} {A : Around} {E : Value → Shared → Prop} {i : Nat} {n : Str} {pos : Pos} {Q : Unit → Shared → Prop} (I : L2.Inv X pins σ H s) (hN : X.N.Nodup) (hi : X.N[i]? = some n) (hl : X.env.scope.names.lookup n = some .local)
    (h : ∀ s', L2.Inv X pins (σ.set i none) H s' → Q () s') : wpAny M A (do bindName X.env n .none; unbindBehindTheSuite X.env n pos) Q E s := by
  obtain ⟨m, hn, hlk⟩ := id I.loc
  have hcls : (X.env.scope.kind == .class || (X.env.scope.kind == .module && X.env.locals != X.env.globals)) = false := by rw [I.ok.kind]; rfl
  refine wpAny_nameGoes_keeps hl hn hcls fun h' v hn' hs => ?_
  have hnone : H X.env.locals = none := I.free
  have up : ∀ b o, X.s₀.heap.get? b = some o → h'.get? b = s.heap.get? b := fun b o e => hs.2 b (Nat.ne_of_lt (Nat.lt_of_lt_of_le (Heap.lt_size e) I.ok.above))
  refine h _ ⟨I.ok, I.os, I.bare, ⟨fun b o e z hb hx => ?_, fun b o e z hb hx => ?_, I.base.free, fun b o e hx => ?_, I.base.tups, I.base.frzs, I.base.tbls⟩, ⟨_, hn', fun j y v' e1 e2 e3 => ?_⟩, fun y c e => ?_, I.free, I.freeC, fun p hp => ?_, ?_, ?_⟩
  · exact (up b o e).trans (I.base.keep b o e z hb hx)
  · obtain ⟨sl, e1⟩ := I.base.slot b o e z hb hx
    exact ⟨sl, (up b o e).trans e1⟩
  · obtain ⟨o', e1⟩ := I.base.there b o e hx
    exact ⟨o', (up b o e).trans e1⟩
  · by_cases hj : j = i
    · subst hj
      rw [List.getElem?_set] at e2
      split at e2
      · split at e2 <;> cases e2
      · exact absurd rfl ‹_›
    · rw [List.getElem?_set_ne (Ne.symm hj)] at e2
      obtain ⟨u', r', q⟩ := hlk j y v' e1 e2 e3
      refine ⟨u', r', ?_⟩
      rcases q with ⟨k, e⟩ | ⟨k, c, e, z⟩
      · refine .inl ⟨k, ?_⟩
        have : y ≠ n := fun e => hj (nodup_ix hN e1 (e ▸ hi))
        simp [this, e]
      · exact .inr ⟨k, c, e, z.sameBut hs (I.cne y c e)⟩
  · obtain ⟨w', z⟩ := I.cell y c e
    exact ⟨w', z.sameBut hs (I.cne y c e)⟩
  · obtain ⟨e, z, ne, nf, d⟩ := I.pin p hp
    exact ⟨(hs.2 p.1 ne).trans e, z, ne, nf, d⟩
  · refine hok_stay I.hok fun b o hb q => (hs.2 b fun z => ?_).trans q
    rw [z, hnone] at hb
    cases hb
  · rw [List.length_set]
    exact I.len
end
end L3

set_option Elab.async false
set_option linter.all false
set_option maxRecDepth 100000
set_option maxHeartbeats 4000000
namespace L3
open PySem PySem.Spec PyProof.Rows L2
/-- a caught exception of the class at C -/
def XcAt (a C : Addr) (h : Heap) : Prop := ∃ o vs, h.get? a = some o ∧ o.cls = .ref C ∧ o.data = .fields vs ∧ vs[2]? = some .none
def XcO (a C : Addr) : HO := .ext (XcAt a C)
theorem xc_ok {P : Program} {w : World} {H : Hp} {h : Heap} {a C : Addr} (x : XcAt a C h) : ObjOk P w H h a (XcO a C) := by
  obtain ⟨o, vs, e, c, d, z⟩ := x
  exact ⟨⟨o, vs, e, c, d, z⟩, ⟨o, e⟩, fun h1 h2 ⟨o', vs', e', c', d'⟩ k => ⟨o', vs', k _ e', c', d'⟩⟩
section
variable {X : Cx} {pins : List (Addr × Obj)} {σ : L2.St} {H H' : Hp} {s s' : Shared} {a C T : Addr}
/-- the state behind an exception, however often it was looked at since -/
theorem landed_un {h₅ : Heap} (I : L2.Inv X pins σ H s) (hos : s'.os = s.os) (hba : AllBare s'.gens) (hun : Un (frs X.stack) [] H H' s.heap s'.heap) (hok : HOk X.prog X.w H' s'.heap) (fly : FlyN s.heap H' s'.heap a C T)
    (fl : FlV (PySem.W.hideAll s'.heap (a :: T :: frs X.stack)) X.stack a (.ref C) .none h₅) (up : s'.heap.UpToSlots h₅) :
    Un (frs X.stack) [] H H' s.heap h₅ ∧ HOk X.prog X.w H' h₅ := by
  have I' : L2.Inv X pins σ H' s' := I.call' hos hun hok hba (fun b z => nomatch z)
  obtain ⟨f1, f2, f3, f4⟩ := fl
  obtain ⟨n1, n2, n3, n4, _, _⟩ := fly
  have keep : ∀ b o, s'.heap.get? b = some o → b ≠ a → b ≠ T → b ∉ frs X.stack → h₅.get? b = some o := fun b o q z1 z2 z3 => f1 b o (PySem.W.hideAll_get _ q fun z => by
    rcases List.mem_cons.mp z with z | z
    · exact z1 z
    · rcases List.mem_cons.mp z with z | z
      · exact z2 z
      · exact z3 z)
  have slot : ∀ b o, s'.heap.get? b = some o → b ∈ frs X.stack → ∃ sl, h₅.get? b = some { o with slots := sl } := fun b o q n => by
    obtain ⟨_, o', ho', hd⟩ := Heap.FunFrames.mem I'.stack n
    rw [q] at ho'
    cases ho'
    exact up b o q hd
  have na : ∀ b o, s.heap.get? b = some o → b ≠ a := fun b o q z => by rw [z, n1] at q; cases q
  have nT : ∀ b o, s.heap.get? b = some o → b ≠ T := fun b o q z => by rw [z, n2] at q; cases q
  refine ⟨⟨fun b o q n hb hx => ?_, fun b o q n hb hx => ?_, fun b o q n hx => hun.free b o q n hx, fun b o q hx => ?_, hun.tups, hun.frzs, hun.tbls⟩, ?_⟩
  · exact keep b o (hun.keep b o q n hb hx) (na b o q) (nT b o q) hb
  · obtain ⟨sl, q1⟩ := hun.slot b o q n hb hx
    obtain ⟨sl2, q2⟩ := slot b _ q1 hb
    exact ⟨sl2, q2⟩
  · obtain ⟨o', q1⟩ := hun.there b o q hx
    by_cases n : b ∈ frs X.stack
    · obtain ⟨sl, q2⟩ := slot b o' q1 n
      exact ⟨_, q2⟩
    · exact ⟨o', keep b o' q1 (na b o q) (nT b o q) n⟩
  · refine hok_stay hok fun b o hb q => keep b o q (fun z => ?_) (fun z => ?_) fun z => ?_
    · rw [z, n3] at hb; cases hb
    · rw [z, n4] at hb; cases hb
    · rw [I'.stkFree b z] at hb; cases hb
/-- .. and with the exception tracked -/
theorem landed_inv {h₅ : Heap} {tk : Nat} (I : L2.Inv X pins σ H s) (hos : s'.os = s.os) (hba : AllBare s'.gens) (hun : Un (frs X.stack) [] H H' s.heap s'.heap) (hok : HOk X.prog X.w H' s'.heap) (fly : FlyN s.heap H' s'.heap a C T)
    (fl : FlV (PySem.W.hideAll s'.heap (a :: T :: frs X.stack)) X.stack a (.ref C) .none h₅) (up : s'.heap.UpToSlots h₅) : L2.Inv X pins σ (upd H' a (XcO a C)) { s' with heap := h₅ } := by
  obtain ⟨u, hk⟩ := landed_un I hos hba hun hok fly fl up
  obtain ⟨n1, n2, n3, n4, _, _⟩ := fly
  obtain ⟨_, _, _, oe, vs, _, _, _, _, he, hc, hd, _, h2, _⟩ := id fl
  have ne : ∀ b u, H' b = some u → b ≠ a := fun b u q z => by rw [z, n3] at q; cases q
  have hk2 : HOk X.prog X.w (upd H' a (XcO a C)) h₅ := fun b o q => by
    by_cases hb : b = a
    · subst hb
      rw [upd_same] at q
      cases q
      exact xc_ok ⟨oe, vs, he, hc, hd, h2⟩
    · rw [upd_ne hb] at q
      exact (hk b o q).stay (fun c u _ z => z) (fun c z => by rw [upd_ne (ne c _ z)]; exact z) fun c xs z => by rw [upd_ne (ne c _ z)]; exact z
  refine I.call' (s' := { s' with heap := h₅ }) hos ⟨u.keep, u.slot, fun b o q n hx => ?_, u.there, fun b xs q => ?_, fun b o w q => ?_, fun b ps q => ?_⟩ hk2 hba (fun b z => nomatch z)
  · have : b ≠ a := fun z => by rw [z, n1] at q; cases q
    rw [upd_ne this]
    exact u.free b o q n hx
  · have z := u.tups b xs q
    rw [upd_ne (ne b _ z)]
    exact z
  · have z := u.frzs b o w q
    rw [upd_ne (ne b _ z)]
    exact z
  · obtain ⟨more, z⟩ := u.tbls b ps q
    exact ⟨more, by rw [upd_ne (ne b _ z)]; exact z⟩
end
section
variable {X : Cx} {i : Nat} {n cn : Str} {D : Addr} {b₀ : Stmt} {body suite : List Stmt} {np hpos pos : Pos}
end
end L3

set_option Elab.async false
set_option linter.all false
set_option maxRecDepth 100000
set_option maxHeartbeats 4000000
namespace L3
open PySem PySem.Spec PySem.Calls PyProof.Rows PySem.W L2 Builtin Builtin.ObjectAttr Builtin.Getset_descriptor
/-! ### isinstance of a caught exception -/
section
variable {prog : Program} {w : PySem.World} {A : Around} {E : Value → Shared → Prop} {h : Heap} {g : Array GenState} {d : Drawn} {t : Nat} {os : OsState} {K : Frag} {a C : Addr}
theorem exc_class_get {tp : Value} {R : Result → Shared → Prop} (X : K.In h) (LT : Looks (model prog w) h (typeOf (.ref a)) (.ref C)) (hm : mroIn K C (.type "object") = some true)
    (hq : R (.ok (.ret (.ref C))) ⟨h, g, d, t, os⟩) : codeAny (model prog w) A (.call (.builtin "getset_descriptor.__get__") ⟨[.builtin "object.__class__", .ref a, tp], []⟩) R ⟨h, g, d, t, os⟩ := by
  have L1 := looks_mroIn (M := model prog w) X hm
  refine codeAny_call_builtin KF.slot_gs.plain KF.entry_gs (KF.slot_gs.check _ _ _ _ _ _ _ _ KF.type_class (KF.args_gs _ _ _) ?_)
  unfold Builtin.«getset_descriptor.__get__» descrGet
  rw [dga_obj]
  refine wpAny_bind (wpAny_pure ?_)
  unfold descrGetter descrCheckInstance descrNameAndClass isInstance
  simp only [KF.owner_class]
  repeat lk
  refine ⟨Code.quiet_builtin _ (by decide +kernel), codeAny_builtin KF.entry_class ?_⟩
  unfold Builtin.«object.__class__» shownTypeOf
  repeat lk
  exact hq
theorem exc_class_find (X : K.In h) (ha : findIn K (.ref C) "__class__" = some (some (.builtin "object.__class__"))) (hn : specialIn K (.builtin "object.__class__") "__get__" = some (some (.builtin "getset_descriptor.__get__")))
    (htk : takesIn K (.builtin "object.__class__") = some true) : Looks (model prog w) h (find (.ref a) (.ref C) "__class__") (.bind (.builtin "getset_descriptor.__get__") (.builtin "object.__class__")) := by
  have L1 := looks_findIn (M := model prog w) X ha
  have L2 : Looks (model prog w) h (getOf (some (.builtin "object.__class__"))) (some (.builtin "getset_descriptor.__get__")) := looks_specialIn X hn
  have L3 := looks_takesIn (M := model prog w) X htk
  refine L1.andThen (L2.andThen ?_)
  exact (show Looks (model prog w) h (dataDescriptor? (some (.builtin "object.__class__")) (some (.builtin "getset_descriptor.__get__"))) (some (.builtin "getset_descriptor.__get__", .builtin "object.__class__")) from L3.andThen .now).andThen (Looks.tag .now)
theorem exc_class_entry {tk : Tok} {Q : Fin → Shared → Prop} (X : K.In h) (LT : Looks (model prog w) h (typeOf (.ref a)) (.ref C)) (hm : mroIn K C (.type "object") = some true)
    (ha : findIn K (.ref C) "__class__" = some (some (.builtin "object.__class__"))) (hn : specialIn K (.builtin "object.__class__") "__get__" = some (some (.builtin "getset_descriptor.__get__"))) (htk : takesIn K (.builtin "object.__class__") = some true)
    (hq : Q (.done (.ret (.ref C))) ⟨h, g, d, t, os⟩) : wpAny (model prog w) A (Builtin.«object.__getattribute__» ⟨[.ref a, .str "__class__" tk], []⟩) Q E ⟨h, g, d, t, os⟩ := by
  have LF := exc_class_find (prog := prog) (w := w) (a := a) X ha hn htk
  refine wpAny_bind (wpAny_pure (wpAny_bind (wpAny_pure (wpAny_bind (LT.at (wpAny_bind (LF.at ?_)))))))
  show wpAny _ _ (holding [_] (call (.builtin "getset_descriptor.__get__") [.builtin "object.__class__", .ref a, .ref C]) >>= ret) _ _ _
  exact wpAny_bind (wpAny_holding (wpAny_call (exc_class_get X LT hm (wpAny_pure hq))))
theorem exc_class_call {tk : Tok} {R : Result → Shared → Prop} (X : K.In h) (LT : Looks (model prog w) h (typeOf (.ref a)) (.ref C)) (hm : mroIn K C (.type "object") = some true) (hbe : mroIn K C (.type "BaseException") = some true)
    (ha : findIn K (.ref C) "__class__" = some (some (.builtin "object.__class__"))) (hn : specialIn K (.builtin "object.__class__") "__get__" = some (some (.builtin "getset_descriptor.__get__"))) (htk : takesIn K (.builtin "object.__class__") = some true)
    (hq : R (.ok (.ret (.ref C))) ⟨h, g, d, t, os⟩) : codeAny (model prog w) A (.call (.builtin "BaseException.__getattribute__") ⟨[.ref a, .str "__class__" tk], []⟩) R ⟨h, g, d, t, os⟩ := by
  have hk : builtinKind "BaseException.__getattribute__" = some .slot := by decide +kernel
  have hsplit : splitId "BaseException.__getattribute__" = some ("BaseException", "__getattribute__") := by decide +kernel
  have LB : Looks (model prog w) h (isInstance (.ref a) (.type "BaseException")) true := LT.andThen (looks_mroIn (M := model prog w) X hbe)
  have hargs := F.args_bexc_ga (.ref a) (.str "__class__" tk)
  refine codeAny_call_builtin F.excAttr_ValueError.ga.plain F.entry_bexc_ga ?_
  simp only [checkBuiltinCall, hk, hsplit]
  refine wpAny_bind (LB.at ?_)
  refine wpAny_of_eq (a := ()) (by first | exact hargs | simpa using hargs) ?_
  exact exc_class_entry X LT hm ha hn htk hq
theorem exc_class_attr {Q : Option Value → Shared → Prop} (X : K.In h) (LT : Looks (model prog w) h (typeOf (.ref a)) (.ref C)) (hga : findIn K (.ref C) "__getattribute__" = some (some (.builtin "BaseException.__getattribute__")))
    (hgh : findIn K (.ref C) "__getattr__" = some none) (hm : mroIn K C (.type "object") = some true) (hbe : mroIn K C (.type "BaseException") = some true)
    (ha : findIn K (.ref C) "__class__" = some (some (.builtin "object.__class__"))) (hn : specialIn K (.builtin "object.__class__") "__get__" = some (some (.builtin "getset_descriptor.__get__"))) (htk : takesIn K (.builtin "object.__class__") = some true)
    (hq : Q (some (.ref C)) ⟨h, g, d, t + 1, os⟩) : wpAny (model prog w) A (getAttr? (.ref a) "__class__") Q E ⟨h, g, d, t, os⟩ := by
  have L1 := looks_findIn (M := model prog w) X hga
  have L2 := looks_findIn (M := model prog w) X hgh
  have hbs := F.excAttr_ValueError.ga.bind (.ref a)
  have hx2 : (Value.builtin "BaseException.__getattribute__" == Value.builtin "object.__getattribute__") = false := by decide +kernel
  unfold getAttr? getAttrBy? getAttrBy
  refine wpAny_bind (wpAny_mkText (wpAny_bind (wpAny_attempt (wpAny_holding (wpAny_bind (LT.at (wpAny_bind (L1.at ?_))))))))
  dsimp only
  rw [hx2, Bool.and_false, if_neg Bool.false_ne_true]
  unfold getAttrByItsOwn hookBefore
  rw [if_pos (show onTheHeap (.ref C) = true from rfl)]
  refine wpAny_bind (L2.at (wpAny_bind (wpAny_attempt (wpAny_holding ?_))))
  unfold callGetattribute boundAndCalled
  rw [Bool.false_and, if_neg Bool.false_ne_true, hbs]
  refine wpAny_bind (wpAny_pure ?_)
  refine wpAny_call (exc_class_call X LT hm hbe ha hn htk ?_)
  exact wpAny_pure (wpAny_pure hq)
/-- what is needed of a class of exceptions -/
structure ExcK (K : Frag) (C : Addr) : Prop where
  ga : findIn K (.ref C) "__getattribute__" = some (some (.builtin "BaseException.__getattribute__"))
  gh : findIn K (.ref C) "__getattr__" = some none
  ob : mroIn K C (.type "object") = some true
  be : mroIn K C (.type "BaseException") = some true
  cl : findIn K (.ref C) "__class__" = some (some (.builtin "object.__class__"))
  gt : specialIn K (.builtin "object.__class__") "__get__" = some (some (.builtin "getset_descriptor.__get__"))
  tk : takesIn K (.builtin "object.__class__") = some true
  hd : hasDictIn K C = true
theorem xc_type {M : Model} (x : XcAt a C h) : Looks M h (typeOf (.ref a)) (.ref C) := by
  obtain ⟨o, vs, e, c, dd⟩ := x
  exact c ▸ (Looks.ld e).andThen .now
theorem kitx_exc (B : ExcK K C) : KitX K (.ref a) (.ref C) (XcAt a C) where
  ty := fun _ _ _ x => xc_type x
  it := fun _ _ X _ => by
    obtain ⟨cdD, hcD, _⟩ := any_some B.hd
    unfold clsIn at hcD
    split at hcD
    · rename_i c' d' cd' sl' ho
      intro A' Q' E' s' k q
      unfold isType loadHead
      exact wpAny_bind (wpAny_loadPart (k _ _ (X _ _ ho)) (wpAny_pure q))
    · cases hcD
  ne := fun h tp dd its n sl X htp => by
    obtain ⟨cdD, hcD, _⟩ := any_some B.hd
    refine Bool.eq_false_iff.mpr fun q => ?_
    have e : C = tp := Value.ref.inj (beq_iff_eq.mp q)
    subst e
    unfold clsIn at hcD
    split at hcD
    · rename_i c' d' cd' sl' ho
      have z := (X _ _ ho).symm.trans htp
      cases z
    · cases hcD
  ca := fun {prog w A E Q s} X x k => by
    obtain ⟨hh, g, d, t, os⟩ := s
    exact exc_class_attr X (xc_type x) B.ga B.gh B.ob B.be B.cl B.gt B.tk k
end
section
variable {X : Cx}
/-- isinstance(e, c), e a caught exception, c a class -/
inductive rIsX_R (K : Frag) (c : V) (xs : List V) (H : Hp) (Q : VK) : Prop
  | mk (p : _) (C : _) (u : _) (b : _) (h0 : xs = [.ref p, c]) (h1 : H p = some (XcO p C)) (h2 : ExcK K C) (h3 : RelV c u) (h4 : kitOne K (.ref C) u = some b) (h5 : Q (.bl b) H) : rIsX_R K c xs H Q
def rIsX (K : Frag) (c : V) : List V → Hp → VK → Prop := fun xs H Q => rIsX_R K c xs H Q
theorem relV_cls {c : V} {u v : Value} (h : RelV c u) (h2 : RelV c v) (hc : (∃ C, c = .ref C) ∨ ∃ n, c = .ty n) : u = v := by
  rcases hc with ⟨C, rfl⟩ | ⟨n, rfl⟩
  · exact (show u = Value.ref C from h).trans (show v = Value.ref C from h2).symm
  · exact (show u = Value.type n from h).trans (show v = Value.type n from h2).symm
theorem call_isX {K : Frag} (hK : X.K = K) {c : V} (hc : (∃ C, c = .ref C) ∨ ∃ n, c = .ty n) : CallR X (.builtin "isinstance") (rIsX K c) := by
  subst hK
  intro pins s σ H xs us Q I r h
  obtain ⟨p, C, u', b, rfl, hp, B, rc, hk, q⟩ := h
  obtain ⟨u, v, rfl, ru, rv⟩ := vals2 r
  cases (show u = Value.ref p from ru)
  obtain rfl := relV_cls rc rv hc
  have x : XcAt p C s.heap := (I.hok p _ hp).1
  exact kia_one (kitx_exc (a := p) B) I.kIn x hk (fun z => nomatch z) fun tk => ⟨.bl b, H, I.tok _, rfl, q⟩
theorem refs_same : ∀ {cs : List V} {us ws : List Value}, (∀ c ∈ cs, ∃ C, c = V.ref C) → Vals cs us → Vals cs ws → us = ws
  | [], _, _, _, .nil, .nil => rfl
  | c :: r, _, _, h, .cons a b, .cons a' b' => by
    obtain ⟨C, rfl⟩ := h c (.head _)
    have e1 := (show _ = Value.ref C from a).trans (show _ = Value.ref C from a').symm
    rw [e1, refs_same (fun c hc => h c (.tail _ hc)) b b']
/-- isinstance(e, (c, ..)), e a caught exception -/
inductive rIsXT_R (K : Frag) (cs : List V) (us : List Value) (xs : List V) (H : Hp) (Q : VK) : Prop
  | mk (p : _) (C : _) (t : _) (b : _) (h0 : xs = [.ref p, .ref t]) (h1 : H p = some (XcO p C)) (h2 : ExcK K C) (h3 : H t = some (.tup cs)) (h4 : kitAny K (.ref C) us = some b) (h5 : Q (.bl b) H) : rIsXT_R K cs us xs H Q
def rIsXT (K : Frag) (cs : List V) (us : List Value) : List V → Hp → VK → Prop := fun xs H Q => rIsXT_R K cs us xs H Q
theorem call_isXT {K : Frag} (hK : X.K = K) {cs : List V} {ws : List Value} (hc : ∀ c ∈ cs, ∃ C, c = V.ref C) (rw' : Vals cs ws) : CallR X (.builtin "isinstance") (rIsXT K cs ws) := by
  subst hK
  intro pins s σ H xs us Q I r h
  obtain ⟨p, C, t, b, rfl, hp, B, ht, hk, q⟩ := h
  obtain ⟨u, v, rfl, ru, rv⟩ := vals2 r
  cases (show u = Value.ref p from ru)
  cases (show v = Value.ref t from rv)
  have x : XcAt p C s.heap := (I.hok p _ hp).1
  obtain ⟨_, its, rt, ⟨oc, od, oda, osl⟩, e1, e2, n, e3⟩ := (show ObjOk X.prog X.w H s.heap t (.tup cs) from I.hok t _ ht)
  dsimp only at e2 e3
  subst e2 e3
  obtain rfl := refs_same hc rw' rt
  exact kia_tup (kitx_exc (a := p) B) I.kIn x e1 hk (fun z => nomatch z) fun tk => ⟨.bl b, H, I.tok _, rfl, q⟩
end
end L3

set_option Elab.async false
set_option linter.all false
set_option maxRecDepth 100000
set_option maxHeartbeats 4000000
namespace L3
open PySem PySem.Spec PyProof.Rows L2
/-! ### defs that raise -/
/-- statements that are not reached -/
theorem pss_never {X : Cx} {sts : List Stmt} : PSs X sts (fun _ _ _ => False) := fun _ _ _ _ _ _ h => False.elim h
/-- a def that lets no exception out -/
theorem fn_up {P : Program} {w : World} {K : PySem.W.Frag} {mg : Str → Option Value} {base : Heap} {CX : CXT} {k : Nat} {f : Addr} {fd : FuncData} {ps : List Str} {sp : Sp} (F : FnOk P w K mg base CX0 k f fd ps sp) : FnOk P w K mg base CX k f fd ps sp :=
  ⟨F.len, fun A outer s H args us vs Q E hr e0 hb r h => codeAny_mono (F.run A outer s H args us vs Q E hr e0 hb r h) fun res s' q => by
    cases res with
    | error e => exact False.elim q
    | ok fl => cases fl <;> exact q⟩
section
variable {P : Program} {w : World} {K : PySem.W.Frag} {mg : Str → Option Value} {base : Heap}
/-- a def that may raise: its body as a term of rules -/
theorem fun_okX {x qual : Str} {st : Stmt} {f : Addr} {fd : FuncData} {N ps : List Str} {k : Nat} {sp : Sp} (F : Fun K x qual st f fd) (S : FnScope N ps (defScope st)) (len : ∀ vs H Q E, sp vs H Q E → vs.length = ps.length)
    (hbody : ∀ (cdv : Value) (A : Around) (outer : List Env) (s : Shared) (H : Hp) (vs : List V) (Q : VK) (E : XK), Room k (A.deeper (envOfC qual (defScope st) s.heap.objs.size f cdv)) → sp vs H Q E →
      ∃ t, PSs (cxOf (CXe P w) P w K mg base N qual (defScope st) f cdv A outer s H E) (defBody st) t ∧ t { nx := fun _ H' => Q .non H', rt := Q } (start N vs) H) : FnOk P w K mg base (CXe P w) (k + 1) f fd ps sp := by
  obtain ⟨oc, od, kV, doc, pm, an, cdv, ct, osl, rfl, lk, hcd⟩ := F.ex
  exact fn_of lk hcd S len fun A outer s H vs Q E hr hsp => hbody cdv A outer s H vs Q E hr hsp
end
section
variable {P : Program} {w : World} {K : PySem.W.Frag} {mg : Str → Option Value} {base : Heap} {N : List Str} {qual : Str} {scope : Scope} {f : Addr} {cd : Value} {A : Around} {outer : List Env} {s₀ : Shared} {H₀ : Hp} {E : XK}
theorem raises_cx : Raises (cxOf (CXe P w) P w K mg base N qual scope f cd A outer s₀ H₀ E) E := fun pins σ H s h' e C vs I hm hE => leave_made I hm hE
/-- an exception of a callee goes on -/
theorem passes_cx : Passes (CXe P w) (cxOf (CXe P w) P w K mg base N qual scope f cd A outer s₀ H₀ E) E := by
  intro pins σ H s e s' I hx
  obtain ⟨a, C, T, H', rfl, hos, hba, hun, hok, fly, hE⟩ := hx
  have I' : L2.Inv (cxOf (CXe P w) P w K mg base N qual scope f cd A outer s₀ H₀ E) pins σ H' s' := I.call' hos hun hok hba (fun b z => nomatch z)
  obtain ⟨n1, n2, n3, n4, nTa, oe, vs, oT, ts, a0, he, hc, hd, h0, hT1, hT, hdT, h3, h2⟩ := id fly
  show wpAny (model P w) (A.deeper (envOfC qual scope s₀.heap.objs.size f cd)) (leaving (envOfC qual scope s₀.heap.objs.size f cd) (.ref a)) _ _ _
  have hst := I'.stack
  have old : ∀ b, s.heap.get? b = none → s₀.heap.get? b = none := fun b q => by
    cases z : s₀.heap.get? b with
    | none => rfl
    | some o =>
      obtain ⟨o', z'⟩ := I.base.there b o z (fun y => nomatch y)
      rw [q] at z'
      cases z'
  have fl1 : FlV (PySem.W.hideAll s'.heap (a :: a :: T :: frs (envOfC qual scope s₀.heap.objs.size f cd :: outer))) (envOfC qual scope s₀.heap.objs.size f cd :: outer) a (.ref C) .none s'.heap :=
    ⟨stay_hid, PySem.W.hideAll_none _ (.head _), PySem.W.funFrames_hide hst fun env hev b hbv => .tail _ (.tail _ (.tail _ (frs_mem hev hbv))),
      oe, vs, T, oT, ts, a0, he, hc, hd, h0, h2, hT1, PySem.W.hideAll_none _ (.tail _ (.tail _ (.head _))), nTa, hT, hdT, h3⟩
  refine leaves_onV (outer := outer) (L := s₀.heap.objs.size) I.ok.frames rfl fl1 fun h₂ fl₂ up => ?_
  obtain ⟨f1, f2, f3, f4⟩ := fl₂
  exact left_cx I' (old a n1) (old T n2) n3 n4 n3 (old a n1) f1 (slot_of hst (fun b o q _ => ⟨o.slots, q⟩) up) f4 hE
end
section
variable {X : Cx} {k : Nat} {f C : Addr} {fd : FuncData} {ps : List Str} {sp : Sp} {x : Str} {p pos : Pos} {e : Expr} {es : List Expr} {t : TA}
/-- f(e, ..), f may let an exception out -/
def tCallX (sp : Sp) (t : TA) : L2.St → Hp → VK → XK → Prop := fun σ H Q E => t σ H fun vs H1 => sp vs H1 Q E
theorem pex_call (F : FnOk X.prog X.w X.K X.mg X.base (CXe X.prog X.w) k f fd ps sp) (hr : Room k X.A) (hg : Gl X x) (hm : X.mg x = some (.ref f)) (hk : PySem.W.keepIn X.K (.ref f) = true) (hb : Binds X.K fd ps []) (ha : PA X.nox (e :: es) t)
    (hdb : (x == ("__debug__" : Str)) = false := by decide) (he : starEach (e :: es) X.env = (false, eval e X.env) :: starEach es X.env := by rfl) (hpl : (backTo pos (starEach es X.env)).any (·.1) = false := by rfl) :
    PEx X (.Call (.Name x p) (e :: es) [] pos) (tCallX sp t) := by
  intro pins s σ H Q E I h
  refine wpAny_Call_Name_kw (ld_glob I hg hm ?_ hdb)
  refine PySem.W.callWith_K (h₀ := X.base) I.ok.mod.kin hk (wpAny_mono (ha pos pins s σ H _ (I.wish _) h) (fun us s1 h1 => ?_) fun _ _ z => False.elim z) he hpl
  obtain ⟨vs, H1, I1', r, q⟩ := h1
  have I1 : L2.Inv X pins σ H1 s1 := I1'.unwish
  refine ⟨I1.kIn, ?_⟩
  have hl : (us ++ []).length = ps.length := by rw [List.append_nil, ← r.length]; exact F.len _ _ _ _ q
  have hbd := hb s1 us I1.kIn hl
  rw [List.append_nil] at hbd
  refine wpAny_call (codeAny_mono (F.run X.A X.stack s1 H1 ⟨us, []⟩ us vs Q E hr I1.env0 hbd r q) fun res s' hq => ?_)
  cases res with
  | error v =>
    obtain ⟨a, C', T, H', e1, e2, e3, e4, e5, e6, e7⟩ := hq
    exact ⟨σ, _, _, I1, a, C', T, H', e1, e2, e3, e4, e5, e6, rfl, e7⟩
  | ok fl =>
    cases fl with
    | ret u => exact I1.after hq
    | next => exact False.elim hq
    | brk => exact False.elim hq
    | cont => exact False.elim hq
end
end L3

set_option Elab.async false
set_option linter.all false
set_option maxRecDepth 100000
set_option maxHeartbeats 1000000
namespace L3
open PySem PySem.Spec PyProof.Rows L2
/-! ### displays of many constants, in one step -/
section
variable {X : Cx} {e : Expr} {es : List Expr} {v : V} {vs : List V} {t : TA}
end
/-! ### an argument, a display's item, that is no starred one: the item's own form is looked at alone -/
def starB : Expr → Bool
  | .Starred _ _ => true
  | _ => false
theorem star_c {e : Expr} {es : List Expr} {env : Env} (h : starB e = false) : starEach (e :: es) env = (false, eval e env) :: starEach es env := by
  cases e <;> first | rfl | cases h
theorem pa_c {X : Cx} {e : Expr} {es : List Expr} {te : TE} {t : TA} (ha : PE X e te) (hr : PA X es t) (h : starB e = false := by rfl) : PA X (e :: es) (tCons te t) := pa_cons ha hr (star_c h)
end L3

set_option Elab.async false
set_option linter.all false
set_option maxRecDepth 100000
set_option maxHeartbeats 4000000
namespace L3
open PySem PySem.Spec PyProof.Rows L2
theorem newE {H : Hp} {a : Addr} {o : HO} (h : H a = none) : ∃ H1, upd H a o = H1 ∧ Same H H1 ∧ H1 a = some o := ⟨_, rfl, same_upd h, upd_same⟩
/-! ### what a text writes -/
/-! ### the texts of the law -/
end L3

set_option Elab.async false
set_option linter.all false
set_option maxRecDepth 100000
set_option maxHeartbeats 4000000
namespace L3
open PySem PySem.Spec PyProof.Rows L2
/-! ### words spoilt -/
/-! ### lines spoilt -/
/-! ### rules -/
section
variable {X : Cx} {K : PySem.W.Frag}
theorem fn_or2 {P : Program} {w : PySem.World} {mg : Str → Option Value} {base : Heap} {CX : CXT} {k : Nat} {f : Addr} {fd : FuncData} {ps : List Str} {s1 s2 : Sp} (F : FnOk P w K mg base CX k f fd ps s1) (G : FnOk P w K mg base CX k f fd ps s2) :
    FnOk P w K mg base CX k f fd ps (fun vs H Q E => s1 vs H Q E ∨ s2 vs H Q E) :=
  ⟨fun vs H Q E h => h.elim (F.len vs H Q E) (G.len vs H Q E), fun A outer s H args us vs Q E hr e0 hb r h => h.elim (F.run A outer s H args us vs Q E hr e0 hb r) (G.run A outer s H args us vs Q E hr e0 hb r)⟩
end
end L3

set_option Elab.async false
set_option linter.all false
set_option maxRecDepth 100000
set_option maxHeartbeats 4000000
namespace L3
open PySem PySem.Spec PyProof.Rows L2
/-- a text said n times -/
def repS (i : Str) (n : Nat) : Str := ⟨(List.replicate n i.cps).foldl (· ++ ·) #[]⟩
inductive rRepS_R (x y : V) (H : Hp) (Q : VK) : Prop
  | mk (i : _) (n : Nat) (h0 : x = .str i) (h1 : y = .int n) (h2 : 1 ≤ n) (h3 : i.length * n ≤ 4096) (h4 : n ≤ 4096) (h5 : Q (.str (repS i n)) H) : rRepS_R x y H Q
def rRepS : V → V → Hp → VK → Prop := fun x y H Q => rRepS_R x y H Q
theorem repS_one (i : Str) : repS i 1 = i := by
  cases i with | mk c => simp [repS]
theorem repS_nil {i : Str} (h : i.length = 0) (n : Nat) : repS i n = i := by
  cases i with | mk c =>
    have hc : c = #[] := Array.eq_empty_of_size_eq_zero h
    subst hc
    have : ∀ n, (List.replicate n (#[] : Array _)).foldl (· ++ ·) (#[] : Array Nat) = #[] := by
      intro n
      induction n with
      | zero => rfl
      | succ n ih => simpa [List.replicate_succ] using ih
    unfold repS
    exact congrArg Str.mk (this n)
theorem repS_cps (i : Str) (n : Nat) : (repS i n).cps.toList = (List.replicate n i.cps.toList).flatten := by
  have : ∀ (n : Nat) (a : Array Nat), ((List.replicate n i.cps).foldl (· ++ ·) a).toList = a.toList ++ (List.replicate n i.cps.toList).flatten := by
    intro n
    induction n with
    | zero => intro a; simp
    | succ n ih => intro a; rw [List.replicate_succ, List.foldl_cons, ih, List.replicate_succ, List.flatten_cons, Array.toList_append, List.append_assoc]
  exact (this n #[]).trans (by simp)
theorem repS_len (i : Str) (n : Nat) : (repS i n).length = i.length * n := by
  have h := congrArg List.length (repS_cps i n)
  rw [List.length_flatten, List.map_replicate, List.sum_replicate_nat] at h
  show (repS i n).cps.size = i.cps.size * n
  rw [← Array.length_toList, h, Array.length_toList, Nat.mul_comm]
theorem op_repS : OpR X (binaryOp .Mult) rRepS := by
  intro pins s σ H x y v u Q I rx ry h
  obtain ⟨i, n, rfl, rfl, h1, h3, h4, q⟩ := h
  obtain ⟨t, rfl⟩ := rx
  obtain ⟨t', rfl⟩ := ry
  have hn : ¬ ((n : Int) < 1) := by omega
  have hN : (n : Int).toNat = n := by omega
  refine P.mul_str ?_ (fun _ _ => ?_) (fun _ _ => ?_) ?_
  · have a1 : ¬ ((n : Int) < -(2 ^ 63 : Int)) := by omega
    have a2 : ¬ ((n : Int) ≥ 2 ^ 63) := by omega
    rw [decide_eq_false a1, decide_eq_false a2]; rfl
  · intro hh
    have : ((2 : Int) ^ 63 - 1) / n ≥ 4096 * 4096 := by
      apply Int.le_ediv_of_mul_le (by omega)
      have : (n : Int) ≤ 4096 := by omega
      omega
    have h5 : i.length ≤ i.length * n := Nat.le_mul_of_pos_right _ h1
    omega
  · rw [hN]
    unfold Builtin.Str.tooLong
    exact decide_eq_false (by have : (4096 : Nat) ≤ sizeLine := by decide
                              omega)
  · rw [if_neg hn, hN]
    by_cases h6 : ((n : Int) == 1 || i.length == 0) = true
    · rw [if_pos h6]
      have e : repS i n = i := by
        rcases Bool.or_eq_true _ _ ▸ h6 with h7 | h7
        · have : n = 1 := by have := eq_of_beq h7; omega
          subst this; exact repS_one i
        · exact repS_nil (eq_of_beq h7) n
      rw [e] at q
      exact ⟨.str i, H, I, ⟨t, rfl⟩, q⟩
    · rw [if_neg h6]
      refine ⟨?_, .str (repS i n), H, I.tok _, ⟨_, rfl⟩, q⟩
      have := repS_len i n
      have hz : (4096 : Nat) ≤ sizeLine := by decide
      show (repS i n).length ≤ sizeLine
      omega
end L3

set_option Elab.async false
set_option linter.all false
set_option maxRecDepth 100000
set_option maxHeartbeats 4000000
namespace L3
open PySem PySem.Spec PyProof.Rows L2
/-! machines as plain data (k82, k81) -/
/-! a machine as an object -/
/-! names of one letter (k82, k81, k61 ..) -/
theorem letter_is (n : Int) : atI ("abcdefghijklmnopqrstuvwxyz" : Str).cps.toList (n % 26) = some (97 + (n % 26).toNat) := by
  have h0 := Int.emod_nonneg n (show (26 : Int) ≠ 0 by decide)
  have h1 := Int.emod_lt_of_pos n (show (0 : Int) < 26 by decide)
  obtain ⟨j, e⟩ := Int.eq_ofNat_of_zero_le h0
  rw [e] at h1 ⊢
  have hj : j < 26 := by omega
  have ha : ∀ i : Fin 26, ("abcdefghijklmnopqrstuvwxyz" : Str).cps.toList[i.val]? = some (97 + i.val) := by decide +kernel
  exact atI_nat (ha ⟨j, hj⟩)
def nameAt (x : Int) (k n : Nat) : Str := repS ⟨#[97 + ((x + 7 * (k : Int)) % 26).toNat]⟩ n
theorem nameAt_cps (x : Int) (k n : Nat) : (nameAt x k n).cps.toList = List.replicate n (97 + ((x + 7 * (k : Int)) % 26).toNat) := by
  unfold nameAt
  rw [repS_cps]
  show (List.replicate n [_]).flatten = _
  induction n with
  | zero => rfl
  | succ n ih => rw [List.replicate_succ, List.flatten_cons, ih]; rfl
theorem nameAt_len (x : Int) (k n : Nat) : (nameAt x k n).length = n := by
  unfold nameAt
  rw [repS_len]
  show 1 * n = n
  omega
theorem nameAt_ok {x : Int} {k n : Nat} (h1 : 1 ≤ n) (h2 : n ≤ 8) : isNameS (nameAt x k n) = true := by
  have e := nameAt_len x k n
  refine name_of (by omega) (by omega) ?_
  rw [nameAt_cps]
  have h0 := Int.emod_nonneg (x + 7 * (k : Int)) (show (26 : Int) ≠ 0 by decide)
  have h3 := Int.emod_lt_of_pos (x + 7 * (k : Int)) (show (0 : Int) < 26 by decide)
  refine List.all_eq_true.mpr fun c hc => ?_
  rw [List.eq_of_mem_replicate hc]
  exact decide_eq_true (by omega)
theorem nameAt_ne {x : Int} {k j n m : Nat} (h1 : 1 ≤ n) (hk : k < j) (hj : j < 3) : nameAt x k n ≠ nameAt x j m := fun e => by
  have e2 := congrArg (fun z : Str => z.cps.toList) e
  simp only [nameAt_cps] at e2
  have hm : (97 + ((x + 7 * (k : Int)) % 26).toNat) ∈ List.replicate m (97 + ((x + 7 * (j : Int)) % 26).toNat) := by
    rw [← e2]
    exact List.mem_replicate.mpr ⟨by omega, rfl⟩
  have := List.eq_of_mem_replicate hm
  have h0 := Int.emod_nonneg (x + 7 * (k : Int)) (show (26 : Int) ≠ 0 by decide)
  have h3 := Int.emod_nonneg (x + 7 * (j : Int)) (show (26 : Int) ≠ 0 by decide)
  omega
end L3

set_option Elab.async false
set_option linter.all false
set_option maxRecDepth 100000
set_option maxHeartbeats 4000000
namespace L3
open PySem PySem.Spec PyProof.Rows L2
/-! ### comprehensions of any kind, with one for or two -/
abbrev TEm := St → Hp → (St → Hp → Prop) → Prop
/-- what a turn does behind its tests -/
def PEm (X : Cx) (em : Sem Unit) (t : TEm) : Prop :=
  ∀ (pins : List (Addr × Obj)) (s : Shared) (σ : St) (H : Hp) (Q : St → Hp → Prop), L2.Inv X pins σ H s → t σ H Q → wpAny (model X.prog X.w) X.A em (fun _ s' => ∃ σ' H', L2.Inv X pins σ' H' s' ∧ Q σ' H') X.xe s
/-- the turns of one for, by an invariant -/
def LoopW (J : It) (g : TG) (tt : TT) (em : TEm) (σ0 : St) (H1 : Hp) (Q : St → Hp → Prop) : Prop :=
  ∃ W : Nat → Nat → St → Hp → Prop, (∃ m, W 0 m σ0 H1) ∧ ∀ i m σ' H', W i m σ' H' → (J.stop i H' ∧ Q σ' H') ∨
    (J.go i H' ∧ ∃ N : St → Hp → Prop, (∀ σ2 H5, N σ2 H5 → ∃ m', m' < m ∧ W (i + 1) m' σ2 H5) ∧ ∀ x H2, J.yld i H' x H2 → g x σ' H2 fun σ2 H3 => tt σ2 H3 fun c H4 => if c = true then em σ2 H4 N else N σ2 H4)
def turnOf (p : Pos) (tg : Expr) (ifs : List Expr) (it : Value) (env : Env) (body : Sem Unit) (c : Code) : Sem Fin := do
  standAt p
  match ← pyNext it with
  | none => pure (.done .next)
  | some v =>
    letOwnedTupleGo tg it v
    assign tg env v
    let mut ok := true
    for c in ifs do
      if ok then ok ← isTrue c env (eval c env)
    if ok then body
    again c
theorem den_loop {prog : Program} {w : World} {e : Expr} {d : Nat} {it acc : Value} {env : Env} (h : (Code.compLoop e d it acc env).isFrame = false) :
    (model prog w).den (.compLoop e d it acc env) = (compTurn e d it acc env).onRaise (fun x => do noteFrame x env; theTreesLotGoes x) := by
  show (if (Code.compLoop e d it acc env).isFrame then (compTurn e d it acc env).onRaise (leaving env) else (compTurn e d it acc env).onRaise (fun x => do noteFrame x env; theTreesLotGoes x)) = _
  rw [h]; rfl
theorem den_start {prog : Program} {w : World} {e : Expr} {d : Nat} {it acc : Value} {env : Env} (h : (Code.compStart e d it acc env).isFrame = false) :
    (model prog w).den (.compStart e d it acc env) = (compStart e d it acc env).onRaise (fun x => do noteFrame x env; standAt theWindowsPlace) := by
  show (if (Code.compStart e d it acc env).isFrame then (compStart e d it acc env).onRaise (leaving env) else (compStart e d it acc env).onRaise (fun x => do noteFrame x env; standAt theWindowsPlace)) = _
  rw [h]; rfl
theorem start_any {prog : Program} {w : World} {A : Around} {R : Result → Shared → Prop} {s : Shared} {e tg iter : Expr} {ifs : List Expr} {d : Nat} {it acc : Value} {env : Env} (cl : (clausesOf e)[d]? = some ⟨tg, iter, ifs, 0⟩) (hf : (Code.compStart e d it acc env).isFrame = false)
    (h0 : codeAny (model prog w) A (.compLoop e d it acc env) R s)
    (h : wpAny (model prog w) A (pyIter it) (fun it' s' => codeAny (model prog w) A (.compLoop e d it' acc env) R s') (fun _ _ => False) s) (hu : A.under (.compStart e d it acc env) = A := by rfl) (hq : ∀ it', (Code.compLoop e d it' acc env).quiet = true := by intro _; rfl) :
    codeAny (model prog w) A (.compStart e d it acc env) R s := by
  refine codeAny_of_tree ?_
  rw [den_start hf, hu]
  refine wpAny_notedAt ?_
  unfold compStart
  rw [cl]
  show wpAny _ A (ask >>= _) _ _ s
  refine wpAny_bind (wpAny_askSetting (wpAny_ite ?_))
  split
  · first
      | exact wpAny_bind (wpAny_pure (wpAny_pure (And.intro (hq _) h0)))
      | exact wpAny_pure (And.intro (hq _) h0)
  · first
      | exact wpAny_bind (wpAny_rule (wpAny_bind (wpAny_standAt (wpAny_bind (thnF h fun it' s' h' => wpAny_pure (And.intro (hq _) h'))))))
      | (refine wpAny_bind (wpAny_rule ?_); show wpAny _ _ (standAt iter.pos >>= _) _ _ s; exact wpAny_bind (wpAny_standAt (wpAny_bind (thnF h fun it' s' h' => wpAny_pure (And.intro (hq _) h')))))
section
variable {Y : Cx} {pins : List (Addr × Obj)} {σ0 : St} {H1 : Hp} {s : Shared} {J : It} {fp : List Addr} {it : Addr} {tn : Nat → Heap → Prop} {tg : Expr} {ifs : List Expr} {g : TG} {tt : TT} {em : TEm} {p : Pos} {body : Sem Unit} {e : Expr} {d : Nat} {acc : Value} {Q : St → Hp → Prop} {R : Result → Shared → Prop}
theorem loop_em (hf : (Code.compLoop e d (.ref it) acc Y.env).isFrame = false) (ht : compTurn e d (.ref it) acc Y.env = turnOf p tg ifs (.ref it) Y.env body (.compLoop e d (.ref it) acc Y.env))
    (T : Turn Y.prog Y.w Y.K tg J fp it tn) (I : L2.Inv Y pins σ0 H1 s) (st : tn 0 s.heap) (hfp : ∀ b ∈ fp, FpOk Y pins H1 b) (hc : Y.calm = true) (hx : Y.xe = fun _ _ => False)
    (hg : PG Y tg g) (hT : PTs Y ifs tt) (he : PEm Y body em) (h : LoopW J g tt em σ0 H1 Q) (hR : ∀ σ' H' s', L2.Inv Y pins σ' H' s' → Q σ' H' → R (.ok .next) s')
    (hu : Y.A.under (.compLoop e d (.ref it) acc Y.env) = Y.A := by rfl) (hq : (Code.compLoop e d (.ref it) acc Y.env).quiet = true := by rfl) :
    codeAny (model Y.prog Y.w) Y.A (.compLoop e d (.ref it) acc Y.env) R s := by
  obtain ⟨W, ⟨m0, w0⟩, turn⟩ := h
  have stat : ∀ {H' : Hp}, (∀ b ∈ fp, H' b = none) → ∀ b ∈ fp, FpOk Y pins H' b := fun {H'} hn b hb => by
    obtain ⟨f0, fr⟩ := hfp b hb
    exact ⟨hn b hb, fr⟩
  unfold PG at hg
  unfold PTs at hT
  unfold PEm at he
  rw [hx] at hg hT he
  refine codeAny_loop hq (fun n s' => ∃ i σ' H', L2.Inv Y pins σ' H' s' ∧ tn i s'.heap ∧ (∀ b ∈ fp, H' b = none) ∧ W i n σ' H') ?_ m0 ⟨0, σ0, H1, I, st, fun b hb => (hfp b hb).1, w0⟩
  rintro n s5 ⟨i, σ5, H5, I5, st5, fr5, w5⟩
  rw [den_loop hf, hu, ht]
  refine wpAny_noted ?_
  unfold turnOf
  have TI := T.item Y rfl rfl rfl hc i pins s5 σ5 H5 (fun _ _ => False) I5 (stat fr5) st5
  have TD := T.done Y rfl rfl rfl hc i pins s5 σ5 H5 (fun _ _ => False) I5 (stat fr5) st5
  rcases turn i n σ5 H5 w5 with ⟨stop, qn⟩ | ⟨go, N, hN, step⟩
  · refine wpAny_bind (wpAny_standAt (wpAny_bind (thnF (TD stop) fun r s6 ⟨hr, I6⟩ => ?_)))
    subst hr
    exact wpAny_pure (hR _ _ _ I6 qn)
  · refine wpAny_bind (wpAny_standAt (wpAny_bind (thnF (TI go) fun r s6 ⟨u, hr, h6⟩ => ?_)))
    subst hr
    refine wpAny_bind (thnF h6 fun _ s7 ⟨x, H7, I7, r7, y7, st7, fr7⟩ => ?_)
    have I7' := I7.pinned (stat fr7) (T.obj _ _ st7)
    refine wpAny_bind (thnF (hg _ s7 σ5 H7 x u _ I7' r7 (step x H7 y7)) fun _ s8 ⟨σ8, H8, I8, q8⟩ => ?_)
    refine wpAny_bind (thnF (hT _ s8 σ8 H8 _ I8 q8) fun c s9 ⟨H9, I9, q9⟩ => ?_)
    have back : ∀ {σa : St} {Ha : Hp} {sa : Shared}, L2.Inv Y (pins ++ pinsAt fp s7.heap) σa Ha sa → (∃ m', m' < n ∧ W (i + 1) m' σa Ha) → ∃ m, m < n ∧ ∃ i σ' H', L2.Inv Y pins σ' H' sa ∧ tn i sa.heap ∧ (∀ b ∈ fp, H' b = none) ∧ W i m σ' H' := fun {σa Ha sa} Ia ⟨m', hm, wa⟩ => by
      refine ⟨m', hm, i + 1, σa, Ha, Ia.unpinned, T.keep _ _ _ st7 fun b hb o e => (Ia.pin (b, o) (List.mem_append_right _ (List.mem_append_right _ (mem_pinsAt hb e)))).1, fun b hb => ?_, wa⟩
      obtain ⟨o, e, d⟩ := T.obj _ _ st7 b hb
      exact (Ia.pin (b, o) (List.mem_append_right _ (List.mem_append_right _ (mem_pinsAt hb e)))).2.1
    cases c with
    | false => exact wpAny_pure ⟨rfl, back I9 (hN _ _ (by simpa using q9))⟩
    | true =>
      rw [if_pos rfl] at q9
      exact wpAny_bind (thnF (he _ s9 σ8 H9 _ I9 q9) fun _ s10 ⟨σ10, H10, I10, q10⟩ => wpAny_pure ⟨rfl, back I10 (hN _ _ q10)⟩)
end
end L3

set_option Elab.async false
set_option linter.all false
set_option maxRecDepth 100000
set_option maxHeartbeats 4000000
namespace L3
open PySem PySem.Spec PyProof.Rows L2
def tCompE (wi : TI) (ix : List (Option Nat)) (o0 : Addr → HO) (g : TG) (tt : TT) (em : Addr → TEm) : TE := fun σ H Q => wi σ H fun J H1 => ∀ D, H1 D = none → LoopW J g tt (em D) (sub ix σ) (upd H1 D (o0 D)) (fun _ H' => Q (.ref D) H')
section
variable {X : Cx} {pins : List (Addr × Obj)} {σ : St} {H : Hp} {s : Shared} {Nc : List Str} {ix : List (Option Nat)} {scope : Scope}
/-- a comprehension e of any kind; bd: what its innermost turn does, or its inner for -/
theorem comp_runE {e tg iter : Expr} {ifs : List Expr} {rest : List Comprehension} {pos2 : Pos} {nA : Sem Value} {ob : Obj} {o0 : Addr → HO} {bd : Addr → Env → Sem Unit} {wi : TI} {g : TG} {tt : TT} {em : Addr → TEm} {use : Option (Value → Sem Unit)} {QV : Value → Shared → Prop} {Q : VK}
    (I : L2.Inv X pins σ H s) (h : tCompE wi ix o0 g tt em σ H Q)
    (fin : ∀ (D C : Addr) (H' : Hp) (s' : Shared) (m : Str → Option Value), L2.Inv X pins σ H' s' → FpOk X pins H' C → s'.heap.Ns C m → Q (.ref D) H' → compPost (model X.prog X.w) X.A X.xe use QV (.ref D) C (.ok .next) s')
    (hcl : clausesOf e = ⟨tg, iter, ifs, 0⟩ :: rest) (hfr : ∀ it acc env, (Code.compLoop e 0 it acc env).isFrame = false ∧ (Code.compStart e 0 it acc env).isFrame = false)
    (htn : ∀ it D env, compTurn e 0 it (.ref D) env = turnOf iter.pos tg ifs it env (bd D env) (.compLoop e 0 it (.ref D) env))
    (hun : ∀ (A : Around) it acc env, A.under (.compLoop e 0 it acc env) = A ∧ A.under (.compStart e 0 it acc env) = A) (hqt : ∀ it acc env, (Code.compLoop e 0 it acc env).quiet = true)
    (hnA : ∀ (A : Around) (E : Value → Shared → Prop) (Q : Value → Shared → Prop) (s : Shared), Q (.ref s.heap.objs.size) { s with heap := s.heap.push ob } → wpAny (model X.prog X.w) A nA Q E s)
    (hpl : ∀ s2 : Shared, ∀ H1, L2.Inv X pins σ H1 s2 → L2.Inv X pins σ (upd H1 s2.heap.objs.size (o0 s2.heap.objs.size)) { s2 with heap := s2.heap.push ob })
    (ok : CompOk X.env.scope X.N Nc ix scope) (hc : X.calm = true) (hi : PI X tg iter wi)
    (hg : ∀ cl C s H fp, PG (cxComp X Nc scope cl C s H fp) tg g) (ht : ∀ cl C s H fp, PTs (cxComp X Nc scope cl C s H fp) ifs tt) (he : ∀ cl C s H fp D, PEm (cxComp X Nc scope cl C s H fp) (bd D (compEnvC scope cl C X.env)) (em D))
    (hs : ∀ x, foldedSetIterable iter X.env x = pure x := by intro _; rfl) : wpAny (model X.prog X.w) X.A (comprehension e scope X.env pos2 nA false (eval iter X.env) use) QV X.xe s := by
  refine wpAny_comprehension_free (use := use) (cl := closOf scope X.env) hcl hs (clos_eq (all_cells I ok)) ok.kind ok.names (thn (hi pins s σ H _ I h) fun v s1 q1 => thn q1 fun itv s2 q2 => ?_)
  obtain ⟨it, fp, tn, J, H1, e1, I2, T, st2, f2, q⟩ := q2
  subst e1
  have hD : H1 s2.heap.objs.size = none := I2.hok.fresh (Nat.le_refl _)
  have lw := q _ hD
  refine hnA _ _ _ _ ?_
  have I3 := hpl s2 H1 I2
  have hob2 := T.obj 0 _ st2
  have f3 : ∀ b ∈ fp, FpOk X pins (upd H1 s2.heap.objs.size (o0 s2.heap.objs.size)) b := fun b hb => by
    obtain ⟨o, e, _⟩ := hob2 b hb
    obtain ⟨f0, fr⟩ := f2 b hb
    exact ⟨by rw [upd_ne (Nat.ne_of_lt (Heap.lt_size e))]; exact f0, fr⟩
  have st3 : tn 0 (s2.heap.push ob) := T.keep 0 _ _ st2 fun b _ o e => Heap.get?_push_of_some _ e
  generalize hs3 : ({ s2 with heap := s2.heap.push ob } : Shared) = s3 at I3 ⊢
  have st3' : tn 0 s3.heap := by rw [← hs3]; exact st3
  refine wpAny_newFunctionEnv ok.nocell (by intro y hy; simp at hy) (fun h1 hns hsb => ?_) ok.kind
  have k1 : ∀ b o, s3.heap.get? b = some o → h1.get? b = some o := fun b o e => (hsb.2 b (Nat.ne_of_lt (Heap.lt_size e))).trans (Heap.get?_push_of_some _ e)
  have hob3 : ∀ b ∈ fp, ∃ o, s3.heap.get? b = some o := fun b hb => let ⟨o, e, _⟩ := T.obj 0 _ st3' b hb; ⟨o, e⟩
  have I4 : L2.Inv (cxComp X Nc scope (closOf scope X.env) s3.heap.objs.size s3 (upd H1 s2.heap.objs.size (o0 s2.heap.objs.size)) fp) pins (sub ix σ) (upd H1 s2.heap.objs.size (o0 s2.heap.objs.size)) { s3 with heap := h1, toks := s3.toks + ([] : List (Str × Value)).length } :=
    comp_start I3 ok f3 hob3 hns k1
  have st4 : tn 0 h1 := T.keep 0 _ _ st3' fun b _ o e => k1 b o e
  have hC : s3.heap.get? s3.heap.objs.size = none := Heap.get?_none_of_le (Nat.le_refl _)
  have f4 : ∀ b ∈ fp, FpOk (cxComp X Nc scope (closOf scope X.env) s3.heap.objs.size s3 (upd H1 s2.heap.objs.size (o0 s2.heap.objs.size)) fp) pins (upd H1 s2.heap.objs.size (o0 s2.heap.objs.size)) b := fun b hb => by
    obtain ⟨o, e⟩ := hob3 b hb
    obtain ⟨f0, f1, ff, f3', f4, f5⟩ := f3 b hb
    have nst : b ∉ frs X.stack := fun z => by
      rcases List.mem_cons.mp (I3.stkSub b z) with z | z
      · exact f1 z
      · exact ff z
    exact ⟨f0, Nat.ne_of_lt (Heap.lt_size e), nst, .inl hb, fun x c q => f4 x c (clos_some (all_cells I3 ok) q), f5⟩
  have loop := loop_em (Y := cxComp X Nc scope (closOf scope X.env) s3.heap.objs.size s3 (upd H1 s2.heap.objs.size (o0 s2.heap.objs.size)) fp) (e := e) (d := 0) (acc := .ref s2.heap.objs.size) (p := iter.pos) (R := compPost (model X.prog X.w) X.A X.xe use QV (.ref s2.heap.objs.size) s3.heap.objs.size)
    (hfr _ _ _).1 (htn _ _ _) T I4 st4 f4 hc rfl (hg _ _ _ _ _) (ht _ _ _ _ _) (he _ _ _ _ _ _) lw (fun σ' H' s' J' qq => by
      obtain ⟨m', hn', _⟩ := id J'.loc
      have hCn : H' s3.heap.objs.size = none := J'.free
      exact fin _ _ H' s' m' (comp_end (h' := s'.heap) I3 f3 hC J' (.refl ..)) (I3.fpOk (Nat.le_refl _) hCn) hn' qq) (hun _ _ _ _).1 (hqt _ _ _)
  exact start_any (by rw [hcl]; rfl) (hfr _ _ _).2 loop (T.self X.A 0 _ _ _ st4 loop) (hun _ _ _ _).2 (fun _ => hqt _ _ _)
end
end L3

set_option Elab.async false
set_option linter.all false
set_option maxRecDepth 100000
set_option maxHeartbeats 4000000
namespace L3
open PySem PySem.Spec PyProof.Rows L2
/-- a for of a comprehension that walks n things -/
theorem loop_gen {J : It} {n : Nat} {g : TG} {tt : TT} {em : TEm} {σ0 : St} {H0 : Hp} {Q : St → Hp → Prop} (Pv : Nat → St → Hp → Prop) (h0 : Pv 0 σ0 H0)
    (hgo : ∀ i σ H, i < n → Pv i σ H → J.go i H) (hst : ∀ σ H, Pv n σ H → J.stop n H)
    (hs : ∀ i x σ H H2, i < n → Pv i σ H → J.yld i H x H2 → ∀ (N : St → Hp → Prop), (∀ σ2 H4, Pv (i + 1) σ2 H4 → N σ2 H4) →
      g x σ H2 fun σ2 H3 => tt σ2 H3 fun c H4 => if c = true then em σ2 H4 N else N σ2 H4)
    (hd : ∀ σ H, Pv n σ H → Q σ H) : LoopW J g tt em σ0 H0 Q := by
  refine ⟨fun i m σ H => m = n - i ∧ i ≤ n ∧ Pv i σ H, ⟨n, by simp, Nat.zero_le _, h0⟩, ?_⟩
  rintro i m σ H ⟨rfl, hi, p⟩
  by_cases hlt : i < n
  · refine .inr ⟨hgo i σ H hlt p, fun σ2 H4 => Pv (i + 1) σ2 H4, fun σ2 H4 q => ⟨n - (i + 1), by omega, rfl, hlt, q⟩, fun x H2 y => hs i x σ H H2 hlt p y _ fun σ2 H4 q => q⟩
  · have : i = n := by omega
    subst this
    exact .inl ⟨hst σ H p, hd σ H p⟩
/-! ### what is done with the thing: a list, a set of texts, a dict -/
def emL (te : TE) (D : Addr) : TEm := fun σ H Q => te σ H fun v H5 => ∃ xs, H5 D = some (.lst xs) ∧ xs.length < sizeLine ∧ Q σ (upd H5 D (.lst (xs ++ [v])))
theorem pem_list {Y : Cx} {elt : Expr} {te : TE} {D : Addr} (h : PE Y elt te) : PEm Y (do let _ ← call (.builtin "list.append") [.ref D, ← eval elt Y.env]) (emL te D) := by
  intro pins s σ H Q I q
  refine wpAny_bind (thn (h pins s σ H _ I q) fun z s1 ⟨v, H1, I1, r1, xs, hx, hz, q1⟩ => ?_)
  have ap := mt_append (X := Y) pins s1 σ H1 (.ref D) [v] (.ref D) [z] (fun _ Hb => Q σ Hb) I1 rfl (.cons r1 .nil) ⟨_, xs, v, rfl, rfl, hx, hz, q1⟩
  exact wpAny_bind (thn ap fun _ s11 ⟨_, H11, I11, _, q11⟩ => wpAny_pure ⟨σ, H11, I11, q11⟩)
section
variable {X : Cx} {pins : List (Addr × Obj)} {σ : L2.St} {H : Hp} {s : Shared} {a : Addr} {y v : V} {u r : Value} {A : Around} {E : Value → Shared → Prop}
end
end L3

set_option Elab.async false
set_option linter.all false
set_option maxRecDepth 100000
set_option maxHeartbeats 4000000
namespace L3
open PySem PySem.Spec PyProof.Rows L2
section
variable {X : Cx} {pins : List (Addr × Obj)} {σ : St} {H : Hp} {s : Shared} {Nc : List Str} {ix : List (Option Nat)} {scope : Scope}
theorem laid_list {s2 : Shared} {H1 : Hp} (I2 : L2.Inv X pins σ H1 s2) : L2.Inv X pins σ (upd H1 s2.heap.objs.size (.lst [])) { s2 with heap := s2.heap.push { cls := .type "list", data := .seq ([] : List Value).toArray } } :=
  I2.laid (t' := s2.toks) (fun b u e => Heap.get?_push_of_some _ e) (Nat.le_refl _) ⟨Nat.zero_le _, [], 0, .nil, Heap.get?_push_size _ rfl⟩
/-- the name is stored, then the block's own dict goes -/
theorem assign_end {i : Nat} {x : Str} {pos' : Pos} {D : Ends} {L C : Addr} {H' : Hp} {s' : Shared} {m : Str → Option Value} (hN : X.N.Nodup) (hi : X.N[i]? = some x) (hx : X.env.kindOf x = some .local) (I' : L2.Inv X pins σ H' s') (f : FpOk X pins H' C) (hn : s'.heap.Ns C m) (qq : D.nx (σ.set i (some (.ref L))) H') :
    compPost (model X.prog X.w) X.A X.xe (some (assign (.Name x pos') X.env)) (fun _ s' => SP X pins D .next s') (.ref L) C (.ok .next) s' := by
  obtain ⟨f0, f1, f2, f3, f4, f5⟩ := f
  refine wpAny_assign_Name (store_ok2 (v := .ref L) I' hN hi (.inl hx) rfl (fun s2 I2 ⟨a, sb, ha⟩ => ?_) (.inr hx))
  have hCa : C ≠ a := by
    rintro rfl
    rcases ha with z | z
    · exact f1 z
    · exact f4 _ _ z rfl
  exact ⟨m, hn.sameBut sb hCa, fun h' sb' => ⟨_, H', I2.turned (t' := s2.toks) (fun b o hb e => (sb'.2 b hb).trans e) f0 f1 f3 f4 f5, qq⟩⟩
end
end L3

set_option Elab.async false
set_option linter.all false
set_option maxRecDepth 100000
set_option maxHeartbeats 4000000
namespace L3
open PySem PySem.Spec PyProof.Rows L2
/-! ### [.. for ..] by the general rule -/
def CompL (J : It) (D : Addr) (g : TG) (tt : TT) (te : TE) (σ0 : St) (H1 : Hp) (Q : VK) : Prop := LoopW J g tt (emL te D) σ0 (upd H1 D (.lst [])) (fun _ H' => Q (.ref D) H')
def tCompL (wi : TI) (ix : List (Option Nat)) (g : TG) (tt : TT) (te : TE) : TE := fun σ H Q => wi σ H fun J H1 => ∀ D, H1 D = none → CompL J D g tt te (sub ix σ) H1 Q
section
variable {X : Cx} {pins : List (Addr × Obj)} {σ : St} {H : Hp} {s : Shared} {Nc : List Str} {ix : List (Option Nat)} {scope : Scope}
theorem comp_runL {elt tg iter : Expr} {ifs : List Expr} {pos pos2 : Pos} {wi : TI} {g : TG} {tt : TT} {te : TE} {use : Option (Value → Sem Unit)} {QV : Value → Shared → Prop} {Q : VK} (I : L2.Inv X pins σ H s) (h : tCompL wi ix g tt te σ H Q)
    (fin : ∀ (D C : Addr) (H' : Hp) (s' : Shared) (m : Str → Option Value), L2.Inv X pins σ H' s' → FpOk X pins H' C → s'.heap.Ns C m → Q (.ref D) H' → compPost (model X.prog X.w) X.A X.xe use QV (.ref D) C (.ok .next) s')
    (ok : CompOk X.env.scope X.N Nc ix scope) (hc : X.calm = true) (hi : PI X tg iter wi)
    (hg : ∀ cl C s H fp, PG (cxComp X Nc scope cl C s H fp) tg g) (ht : ∀ cl C s H fp, PTs (cxComp X Nc scope cl C s H fp) ifs tt) (he : ∀ cl C s H fp, PE (cxComp X Nc scope cl C s H fp) elt te)
    (hs : ∀ x, foldedSetIterable iter X.env x = pure x) : wpAny (model X.prog X.w) X.A (comprehension (.ListComp elt [⟨tg, iter, ifs, 0⟩] scope pos) scope X.env pos2 (newList []) false (eval iter X.env) use) QV X.xe s :=
  comp_runE (em := fun D => emL te D) (o0 := fun _ => .lst []) (ob := { cls := .type "list", data := .seq ([] : List Value).toArray }) (bd := fun D env => do let _ ← call (.builtin "list.append") [.ref D, ← eval elt env]) I h fin rfl (fun _ _ _ => ⟨rfl, rfl⟩) (fun _ _ _ => rfl) (fun _ _ _ _ => ⟨rfl, rfl⟩) (fun _ _ _ => rfl)
    (fun _ _ _ _ q => wpAny_newObj_type q) (fun _ _ I2 => laid_list I2) ok hc hi hg ht (fun cl C s H fp D => pem_list (he cl C s H fp)) hs
theorem pe_compL {elt tg iter : Expr} {ifs : List Expr} {pos : Pos} {wi : TI} {g : TG} {tt : TT} {te : TE} (ok : CompOk X.env.scope X.N Nc ix scope) (hc : X.calm = true) (hi : PI X tg iter wi)
    (hg : ∀ cl C s H fp, PG (cxComp X Nc scope cl C s H fp) tg g) (ht : ∀ cl C s H fp, PTs (cxComp X Nc scope cl C s H fp) ifs tt) (he : ∀ cl C s H fp, PE (cxComp X Nc scope cl C s H fp) elt te)
    (hs : ∀ x, foldedSetIterable iter X.env x = pure x := by intro _; rfl) : PE X (.ListComp elt [⟨tg, iter, ifs, 0⟩] scope pos) (tCompL wi ix g tt te) := by
  intro pins s σ H Q I h
  rw [eval_ListComp]
  refine comp_runL (use := none) I h (fun D C H' s' m I' f hn qq => ?_) ok hc hi hg ht he hs
  obtain ⟨f0, f1, f2, f3, f4, f5⟩ := f
  exact ⟨m, hn, fun h' sb => ⟨.ref D, H', I'.turned (t' := s'.toks) (fun b o hb e => (sb.2 b hb).trans e) f0 f1 f3 f4 f5, rfl, qq⟩⟩
theorem ps_setCompL {i : Nat} {x : Str} {elt tg iter : Expr} {ifs : List Expr} {pos spos pos' : Pos} {wi : TI} {g : TG} {tt : TT} {te : TE} (hN : X.N.Nodup) (hi : X.N[i]? = some x) (hx : X.env.kindOf x = some .local)
    (ok : CompOk X.env.scope X.N Nc ix scope) (hc : X.calm = true) (hit : PI X tg iter wi)
    (hg : ∀ cl C s H fp, PG (cxComp X Nc scope cl C s H fp) tg g) (ht : ∀ cl C s H fp, PTs (cxComp X Nc scope cl C s H fp) ifs tt) (he : ∀ cl C s H fp, PE (cxComp X Nc scope cl C s H fp) elt te)
    (hsw : swapsWith (.ListComp elt [⟨tg, iter, ifs, 0⟩] scope pos) (some (.Name x pos')) spos.line X.env = pure true := by rfl)
    (hs : ∀ x, foldedSetIterable iter X.env x = pure x := by intro _; rfl) : PS X (.Assign [.Name x pos'] (.ListComp elt [⟨tg, iter, ifs, 0⟩] scope pos) spos) (tAsg (tCompL wi ix g tt te) (gName i)) := by
  intro pins s σ H D I h
  rw [exec_Assign_Name_used _ _ _ _ hsw]
  refine wpAny_bind (wpAny_standAt (wpAny_bind ?_))
  show wpAny _ X.A (do let _ ← comprehension (.ListComp elt [⟨tg, iter, ifs, 0⟩] scope pos) scope X.env _ (newList []) false (eval iter X.env) (some (assign (.Name x pos') X.env))) _ _ s
  refine wpAny_bind (thn (comp_runL (use := some (assign (.Name x pos') X.env)) (QV := fun _ s' => SP X pins D .next s') I h (fun L C H' s' m I' f hn qq => ?_) ok hc hit hg ht he hs) fun _ s' q => wpAny_pure (wpAny_pure q))
  exact assign_end hN hi hx I' f hn qq
end
theorem comp_genL {J : It} {n : Nat} {D : Addr} {g : TG} {tt : TT} {te : TE} {σ0 : St} {H0 : Hp} {Q : VK} (Pv : Nat → St → Hp → Prop) (h0 : Pv 0 σ0 (upd H0 D (.lst [])))
    (hgo : ∀ i σ H, i < n → Pv i σ H → J.go i H) (hst : ∀ σ H, Pv n σ H → J.stop n H)
    (hs : ∀ i x σ H H2, i < n → Pv i σ H → J.yld i H x H2 → ∀ (N : V → St → Hp → Prop) (N0 : St → Hp → Prop), (∀ v σ2 H5 ys, H5 D = some (.lst ys) → ys.length < sizeLine → Pv (i + 1) σ2 (upd H5 D (.lst (ys ++ [v]))) → N v σ2 H5) → (∀ σ2 H4, Pv (i + 1) σ2 H4 → N0 σ2 H4) →
      g x σ H2 fun σ2 H3 => tt σ2 H3 fun c H4 => if c = true then te σ2 H4 fun v H5 => N v σ2 H5 else N0 σ2 H4)
    (hd : ∀ σ H, Pv n σ H → Q (.ref D) H) : CompL J D g tt te σ0 H0 Q := by
  refine loop_gen (n := n) Pv h0 hgo hst (fun i x σ H H2 hi p y N hN => ?_) hd
  exact hs i x σ H H2 hi p y (fun v σ2 H5 => ∃ ys, H5 D = some (.lst ys) ∧ ys.length < sizeLine ∧ N σ2 (upd H5 D (.lst (ys ++ [v])))) N (fun v σ2 H5 ys a b c => ⟨ys, a, b, hN _ _ c⟩) hN
theorem comp_mapL {K : PySem.W.Frag} {a D : Addr} {xs : List V} {te : TE} {τ : St} {H0 : Hp} {Q : VK} (hD : H0 D = none) (hq : SqL K H0 a xs) (hz : xs.length ≤ sizeLine) (R : Nat → V → Hp → Prop) (mono : ∀ i v H H', Same H H' → R i v H → R i v H')
    (step : ∀ i x H (N : V → Hp → Prop), xs[i]? = some x → Same H0 H → (∀ v H4, Same H H4 → R i v (New H H4) → N v H4) → te (some x :: τ) H N)
    (fin : ∀ H' ys, H' D = some (.lst ys) → Same H0 H' → ys.length = xs.length → (∀ i v, ys[i]? = some v → R i v (New H0 H')) → Q (.ref D) H') :
    CompL (Itl K a) D (gName 0) tTrue te (none :: τ) H0 Q := by
  refine comp_genL (n := xs.length) (fun i σ H => ∃ z ys, σ = z :: τ ∧ H D = some (.lst ys) ∧ ys.length = i ∧ Same H0 H ∧ ∀ j v, ys[j]? = some v → R j v (hide D (New H0 H))) ?_ ?_ ?_ ?_ ?_
  · exact ⟨none, [], rfl, upd_same, rfl, same_upd hD, fun j v e => by simp at e⟩
  · rintro i σ H hi ⟨z, ys, rfl, _, _, s, _⟩
    exact ⟨xs, xs[i], s.seq hq, by simp [hi]⟩
  · rintro σ H ⟨z, ys, rfl, _, _, s, _⟩
    exact ⟨xs, s.seq hq, Nat.le_refl _⟩
  · rintro i x σ H H2 hi ⟨z, ys, rfl, hy, hl, s, r⟩ ⟨rfl, hx⟩ N N0 hN hN0
    show te (some x :: τ) H2 _
    refine step i x H2 _ (hx xs (s.seq hq)) s fun v H4 s4 r4 => ?_
    refine hN v _ H4 ys (s4 _ _ hy) (by omega) ⟨some x, ys ++ [v], rfl, upd_same, by rw [List.length_append, List.length_singleton, hl], ?_, ?_⟩
    · exact (SameX.upd (Same.x (s.trans s4))).same hD
    · intro j w e
      by_cases hj : j < ys.length
      · rw [List.getElem?_append_left hj] at e
        refine mono j w _ _ ?_ (r j w e)
        intro b o hb
        obtain ⟨nb, hb⟩ := hide_some hb
        obtain ⟨h1, h2⟩ := New.of hb
        exact hide_mk nb (New.mk h1 (by rw [upd_ne nb]; exact s4 _ _ h2))
      · have ej : j = ys.length := by
          have := (List.getElem?_eq_some_iff.mp e).1
          rw [List.length_append, List.length_singleton] at this
          omega
        subst ej
        simp at e
        subst e
        rw [hl]
        refine mono i v _ _ ?_ r4
        intro b o hb
        obtain ⟨h1, h2⟩ := New.of hb
        have nb : b ≠ D := fun z => by subst z; rw [hy] at h1; cases h1
        exact hide_mk nb (New.mk (s.free h1) (by rw [upd_ne nb]; exact h2))
  · rintro σ H ⟨z, ys, rfl, hy, hl, s, r⟩
    exact fin H ys hy s hl fun i v e => mono i v _ _ hide_sub (r i v e)

end L3

set_option Elab.async false
set_option linter.all false
namespace L3
open PySem PySem.Spec PyProof.Rows L2
theorem sl_tupK {X : Cx} {K : PySem.W.Frag} (hK : X.K = K) : SlR X (rSlT K) := by subst hK; exact sl_tup
end L3

set_option Elab.async false
set_option linter.all false
set_option maxRecDepth 100000
set_option maxHeartbeats 4000000
namespace L3
open PySem PySem.Spec PyProof.Rows L2
/-! ### [f(x) for x in xs if p(x)], elements that are plain -/
theorem tTrue_if {te : TE} {σ : St} {H : Hp} {N : V → Hp → Prop} {N0 : Hp → Prop} (h : te σ H N) : tTrue σ H fun c H4 => if c = true then te σ H4 N else N0 H4 := by
  show (if true = true then te σ H N else N0 H)
  rw [if_pos rfl]; exact h
end L3

set_option Elab.async false
set_option linter.all false
set_option maxRecDepth 100000
set_option maxHeartbeats 4000000
namespace L3
open PySem PySem.Spec PyProof.Rows L2
/-! ### lists of lists, each with what it is; two lists that grow side by side -/
def ZL {α : Type} (r : Hp → V → α → Prop) (H : Hp) (z : List (V × α)) : Prop := ∀ x ∈ z, r H x.1 x.2
theorem ZL.ll {α : Type} {r : Hp → V → α → Prop} {H : Hp} {a : Addr} {z : List (V × α)} (h : H a = some (.lst (z.map Prod.fst))) (q : ZL r H z) : LL r H (.ref a) (z.map Prod.snd) := by
  refine ⟨a, _, rfl, h, by rw [List.length_map, List.length_map], fun i v p h1 h2 => ?_⟩
  rw [List.getElem?_map] at h1 h2
  cases e : z[i]? with
  | none => rw [e] at h1; cases h1
  | some x =>
    rw [e] at h1 h2
    cases h1; cases h2
    exact q x (List.mem_of_getElem? e)
theorem LL.z {α : Type} {r : Hp → V → α → Prop} {H : Hp} {v : V} {xs : List α} (h : LL r H v xs) : ∃ a z, v = .ref a ∧ H a = some (.lst (z.map Prod.fst)) ∧ z.map Prod.snd = xs ∧ ZL r H z := by
  obtain ⟨a, vs, rfl, e, l, q⟩ := h
  refine ⟨a, vs.zip xs, rfl, by rw [e, List.map_fst_zip (by omega)], List.map_snd_zip (by omega), fun x hx => ?_⟩
  obtain ⟨i, hi, rfl⟩ := List.getElem_of_mem hx
  rw [List.length_zip] at hi
  rw [List.getElem_zip]
  exact q i _ _ (List.getElem?_eq_getElem (by omega)) (List.getElem?_eq_getElem (by omega))
theorem ZL.mono {α : Type} {r : Hp → V → α → Prop} (m : Mon r) {H H' : Hp} {z : List (V × α)} (s : Same H H') (q : ZL r H z) : ZL r H' z := fun x hx => m _ _ _ _ s (q x hx)
theorem ZL.app {α : Type} {r : Hp → V → α → Prop} {H : Hp} {z y : List (V × α)} (h : ZL r H z) (g : ZL r H y) : ZL r H (z ++ y) := fun x hx => (List.mem_append.mp hx).elim (h x) (g x)
theorem ZL.one {α : Type} {r : Hp → V → α → Prop} {H : Hp} {v : V} {x : α} (g : r H v x) : ZL r H [(v, x)] := fun y hy => by cases List.mem_singleton.mp hy; exact g
theorem ZL.nil {α : Type} {r : Hp → V → α → Prop} {H : Hp} : ZL r H ([] : List (V × α)) := fun x hx => by cases hx
def Same2 (S W : Addr) (G G' : Hp) : Prop := ∀ b o, b ≠ S → b ≠ W → G b = some o → G' b = some o
theorem Same2.trans {S W : Addr} {G G1 G2 : Hp} (a : Same2 S W G G1) (b : Same2 S W G1 G2) : Same2 S W G G2 := fun c o n m e => b c o n m (a c o n m e)
theorem Same.two {S W : Addr} {G G' : Hp} (h : Same G G') : Same2 S W G G' := fun b o _ _ e => h b o e
theorem Same2.upd1 {S W : Addr} {G G' : Hp} {o : HO} (h : Same2 S W G G') : Same2 S W G (upd G' S o) := fun b u n m e => by rw [upd_ne n]; exact h b u n m e
theorem Same2.upd2 {S W : Addr} {G G' : Hp} {o : HO} (h : Same2 S W G G') : Same2 S W G (upd G' W o) := fun b u n m e => by rw [upd_ne m]; exact h b u n m e
theorem Same2.same {S W : Addr} {G G' : Hp} (h : Same2 S W G G') (hS : G S = none) (hW : G W = none) : Same G G' := fun b o e => h b o (ne_of_none e hS) (ne_of_none e hW) e
def hid2 (S W : Addr) (H : Hp) : Hp := hide S (hide W H)
theorem hid2_sub {S W : Addr} {H : Hp} : Same (hid2 S W H) H := fun b o h => hide_sub _ _ (hide_sub _ _ h)
theorem hid2_mk {S W b : Addr} {H : Hp} {o : HO} (n : b ≠ S) (m : b ≠ W) (h : H b = some o) : hid2 S W H b = some o := hide_mk n (hide_mk m h)
theorem Same2.new {S W : Addr} {H G G' : Hp} (h : Same2 S W G G') : Same (hid2 S W (New H G)) (hid2 S W (New H G')) := fun b o e => by
  obtain ⟨n, e⟩ := hide_some e
  obtain ⟨m, e⟩ := hide_some e
  obtain ⟨h1, h2⟩ := New.of e
  exact hid2_mk n m (New.mk h1 (h b o n m h2))
end L3

set_option Elab.async false
set_option linter.all false
set_option maxRecDepth 100000
set_option maxHeartbeats 4000000
namespace L3
open PySem PySem.Spec PyProof.Rows L2
/-! ### a list made longer by a tuple -/
theorem ext_tup (l : Addr) (items : Array Value) (n : Nat) (b : Addr) (items2 : Array Value) (n2 : Nat) (dd : Option Addr) (sl : Array (Option Value)) (hs0 : ¬(!items.isEmpty && Builtin.List.listTooLong (items.size + items2.size)) = true) (hs1 : items.size ≤ sizeLine) (hs2 : items.size + items2.size ≤ sizeLine + 1) :
    Meets (Builtin.«list.extend» ⟨[.ref l, .ref b], []⟩) (fun _ R s => s.heap.get? l = some { cls := .type "list", dict := none, data := .seq items n, slots := #[] } ∧ s.heap.get? b = some { cls := .type "tuple", dict := dd, data := .seq items2 n2, slots := sl } ∧ R (.ok (.ret Value.none)) { s with heap := s.heap.update l (Obj.mapSeq fun x => x ++ items2), toks := s.toks }) :=
  .of_wp fun prog w A R s h => by
    obtain ⟨hp, g, d, tk, os⟩ := s; obtain ⟨hl, hb, h⟩ := h; have f1 := AutoSeq1.idx_int; have f2 := AutoSeq1.sub_tuple_tuple; have f3 := AutoSeq1.sub_list_list; have f4 := AutoSeq1.sub_tuple_list; have f5 := AutoSeq1.sub_list_tuple;
    have hz' : (items ++ items2).size ≤ sizeLine + 1 := by rw [Array.size_append]; exact hs2
    wp_walk using (wpAny_updateSeq hl rfl (hz := hs1) (_hz' := hz')), wpAny_loadPart' hl, wpAny_loadPart' hb; exact ⟨_, rfl, h⟩
section
variable {X : Cx} {K : PySem.W.Frag}
inductive rExtendT_R (K : PySem.W.Frag) (x : V) (vs : List V) (H : Hp) (Q : VK) : Prop
  | mk (l : _) (b : _) (xs : _) (zs : _) (h0 : x = .ref l) (h1 : vs = [.ref b]) (h2 : H l = some (.lst xs)) (h3 : SqT K H b zs) (h4 : xs.length + zs.length ≤ sizeLine) (h5 : Q .non (upd H l (.lst (xs ++ zs)))) : rExtendT_R K x vs H Q
def rExtendT (K : PySem.W.Frag) : V → List V → Hp → VK → Prop := fun x vs H Q => rExtendT_R K x vs H Q
theorem mt_extendT (hK : X.K = K) : MtM X "list.extend" (rExtendT K) := by
  subst hK
  intro pins s σ H x vs v us Q I rx rv h
  obtain ⟨l, b, xs, zs, rfl, rfl, hH, hB, hz, q⟩ := h
  cases rx
  obtain ⟨u, rfl, ru⟩ := rv.one
  cases ru
  obtain ⟨z, its, n, r, hl, e⟩ := I.lstM hH
  obtain ⟨its2, r2, ⟨o, e2, hc, n2, hd⟩, z2⟩ := I.tuple hB
  obtain ⟨c, dd, da, sl⟩ := o
  have hc' : c = .type "tuple" := hc
  have hd' : da = .seq its2.toArray n2 := hd
  subst hc' hd'
  have hl2 := r2.length
  have hsz : its.toArray.size + its2.toArray.size ≤ sizeLine := by rw [List.size_toArray, List.size_toArray]; omega
  have hlong : ¬ (!its.toArray.isEmpty && Builtin.List.listTooLong (its.toArray.size + its2.toArray.size)) = true := by
    rw [notLongL hsz, Bool.and_false]
    exact Bool.false_ne_true
  refine call_meets F.slot_list_extend ⟨_, e, rfl⟩ F.entry_list_extend (F.args_list_extend_2 _ _)
    (ext_tup l its.toArray n b its2.toArray n2 dd sl hlong (by rw [List.size_toArray]; omega) (by omega)) ⟨e, e2, ?_⟩
  refine ⟨.non, _, I.lset (its' := its ++ its2) hH e (by simp) (r.append r2) ?_, rfl, q⟩
  rw [List.length_append]
  omega
end
/-! ### del xs[k:] -/
theorem del_cut {sel : Nat → Bool} : ∀ (xs : List Value) (n k : Nat), (∀ i, n ≤ i → i < n + xs.length → sel i = decide (n + k ≤ i)) → ((xs.zipIdx n).filterMap fun (x, i) => if sel i = true then none else some x) = xs.take k
  | [], n, k, _ => by simp
  | x :: r, n, k, h => by
    have h0 := h n (Nat.le_refl _) (by simp)
    rw [List.zipIdx_cons, List.filterMap_cons]
    cases k with
    | zero =>
      have e : sel n = true := by rw [h0]; simp
      simp only [e, if_true]
      have := del_cut (sel := sel) r (n + 1) 0 fun i h1 h2 => by rw [h i (by omega) (by simp; omega)]; exact decide_eq_decide.mpr ⟨fun _ => by omega, fun _ => by omega⟩
      simpa using this
    | succ k =>
      have e : sel n = false := by rw [h0]; exact decide_eq_false (by omega)
      simp only [e, Bool.false_eq_true, if_false]
      rw [List.take_succ_cons, del_cut (sel := sel) r (n + 1) k fun i h1 h2 => by rw [h i (by omega) (by simp; omega)]; exact decide_eq_decide.mpr ⟨fun _ => by omega, fun _ => by omega⟩]
theorem del_from {prog : Program} {w : World} {A : Around} {E : Value → Shared → Prop} {s : Shared} {l sl : Addr} {items : Array Value} {n : Nat} {vl : Value} {k : Nat} {Q : Unit → Shared → Prop} (ho : s.heap.get? l = some { cls := .type "list", data := .seq items n }) (hs : s.heap.IsSliceOf sl vl .none .none) (pl : IsPart vl (some (k : Int))) (hk : k ≤ items.size) (hsz : items.size ≤ sizeLine)
    (h : ∀ f : Array Value → Array Value, f items = (items.toList.take k).toArray → Q () { s with heap := s.heap.update l (Obj.mapSeq f) }) : wpAny (model prog w) A (delItem (.ref l) (.ref sl)) Q E s := by
  have hT : s.TypeIs (.ref l) "list" := ⟨_, ho, rfl⟩
  obtain ⟨os, hos, hcs, hds⟩ := id hs
  have hTs : s.TypeIs (.ref sl) "slice" := ⟨os, hos, hcs⟩
  refine wpAny_delItem_slot hT (by decide) F.slot_list_delitem (wpAny_call_entry F.slot_list_delitem hT F.entry_list_delitem ?_ (F.args_list_delitem_2 _ _))
  show wpAny _ _ (Builtin.List.listSubscript? (.ref sl) >>= _) _ _ s
  refine wpAny_bind ?_
  unfold Builtin.List.listSubscript?
  refine wpAny_bind (wpAny_specialOf hTs slice_no_index ?_)
  simp only [Option.isNone_none, if_true]
  refine wpAny_pure ?_
  show wpAny _ _ (typeOf (.ref sl) >>= _) _ _ s
  refine wpAny_bind (wpAny_typeOf hTs ?_)
  rw [if_neg (by decide)]
  rw [listSliceParts_eq]
  refine wpAny_bind (wpAny_bind (wpAny_field hos hds (x := .none) rfl (wpAny_bind (wpAny_listPart .none ?_))))
  rw [if_neg (show ¬ ((rawPart none == rawInt 0) = true) from Bool.false_ne_true)]
  refine wpAny_bind (wpAny_field hos hds (x := vl) rfl (wpAny_bind (wpAny_listPart pl ?_)))
  refine wpAny_bind (wpAny_field hos hds (x := .none) rfl (wpAny_bind (wpAny_listPart .none (wpAny_pure ?_))))
  refine wpAny_bind (m := Builtin.List.listItems (.ref l)) ?_
  unfold Builtin.List.listItems
  refine wpAny_bind (wpAny_seqItems ho rfl (wpAny_pure ?_))
  have eb : sliceIndices (rawPart (some (k : Int))) (rawPart none) (rawPart none) items.size = pure ((k : Int), (items.size : Int), (1 : Int)) := by
    rw [sliceIndices_raw _ _ _ _ (by simp)]
    have e1 : (sliceBounds (some (k : Int)) none none items.size) = ((k : Int), (items.size : Int), (1 : Int)) := by
      unfold sliceBounds
      simp
      omega
    rw [e1]
  refine wpAny_bind (wpAny_of_eq eb ?_)
  refine wpAny_bind (wpAny_rule (wpAny_bind ?_))
  show wpAny _ _ (updateSeq l _) _ _ s
  have hf := del_cut (sel := fun i => if (1 : Int) > 0 then decide ((k : Int) ≤ i) && decide ((i : Int) < (items.size : Int)) && ((i : Int) - k) % 1 == 0 else decide ((items.size : Int) < i) && decide ((i : Int) ≤ k) && ((k : Int) - i) % (-1) == 0) items.toList 0 k fun i h1 h2 => by
    have h2' : i < items.size := by simpa using h2
    simp only [show (1 : Int) > 0 by decide, if_true]
    rw [Int.emod_one]
    simp
    omega
  have hf' := congrArg List.toArray hf
  refine wpAny_updateSeq ho rfl ?_ hsz ?_
  · exact wpAny_bind (wpAny_letGo (wpAny_pure ⟨_, rfl, h _ hf'⟩))
  · refine Nat.le_trans (Nat.le_of_eq (congrArg Array.size hf')) ?_
    rw [List.size_toArray, List.length_take]
    omega
section
variable {X : Cx}
def tDelFrom (te : TE) (tl : TE) : L2.TS := fun D σ H => te σ H fun x H1 => tl σ H1 fun y H2 => ∃ l xs k, x = .ref l ∧ y = .int ((k : Nat) : Int) ∧ H2 l = some (.lst xs) ∧ k ≤ xs.length ∧ D.nx σ (upd H2 l (.lst (xs.take k)))
theorem ps_delFrom {o lo : Expr} {te tl : TE} {p2 p3 pos : Pos} (ho : PE X o te) (hl : PE X lo tl) : PS X (.Delete [.Subscript o (.Slice (some lo) none none p2) p3] pos) (tDelFrom te tl) := by
  intro pins s σ H D I h
  refine wpAny_Delete (wpAny_deleteEach_cons (wpAny_delete_Subscript (thn (ho pins s σ H _ I h) fun u s1 ⟨x, H1, I1, rx, q1⟩ => ?_)))
  refine wpAny_Slice ?_
  rw [evalPart_some]
  refine thn (hl pins s1 σ H1 _ I1 q1) fun vl s2 ⟨y, H2, I2, ry, l, xs, k, ex, ey, hH, hk, q⟩ => ?_
  subst ex ey
  obtain rfl : u = Value.ref l := rx
  obtain ⟨t, rfl⟩ := (show ∃ t, vl = Value.int ((k : Nat) : Int) t from ry)
  rw [evalPart_none]
  refine wpAny_pure (wpAny_pure ?_)
  have I3 : Inv X pins σ H2 { s2 with heap := s2.heap.push { cls := .type "slice", data := .fields #[.int ((k : Nat) : Int) t, .none, .none] } } := I2.kept (t' := s2.toks) fun b ob q => Heap.get?_push_of_some _ q
  obtain ⟨z, its, n, r, hlen, e⟩ := I3.lstM hH
  refine del_from e (Heap.IsSliceOf.new ..) (.int _ t) (by rw [List.size_toArray]; omega) (by rw [List.size_toArray]; omega) fun f hf => wpAny_deleteEach_nil ?_
  refine ⟨σ, _, I3.lset (its' := its.take k) (t' := s2.toks) hH e ?_ (r.take k) (by rw [List.length_take]; omega), q⟩
  simpa using hf
end
/-! ### a dict of the module: texts to ints -/
structure DicK (K : PySem.W.Frag) (P : Params) (D : Addr) (kvs : List (Str × Int)) : Prop where
  ex : ∃ (es : Array DictEntry) (n : Nat), K.lookup D = some ⟨.type "dict", none, .dict es n, #[]⟩ ∧ PySem.W.KeysLit P es.toList
  at_ : ∀ p ∈ kvs, ∃ t, PySem.W.nsIn K D p.1 = some (some (.int p.2 t))
  lo : (D == sysModules) = false
inductive rIxD_R (K : PySem.W.Frag) (P : Params) (x : V) (y : V) (H : Hp) (Q : VK) : Prop
  | mk (D : _) (z : _) (kvs : _) (i : _) (h0 : x = .ref D) (h1 : y = .str z) (h2 : DicK K P D kvs) (h3 : (z, i) ∈ kvs) (h4 : Q (.int i) H) : rIxD_R K P x y H Q
def rIxD (K : PySem.W.Frag) (P : Params) : R2 := fun x y H Q => rIxD_R K P x y H Q
section
variable {X : Cx} {K : PySem.W.Frag} {P : Params}
theorem ix_dic (hK : X.K = K) (hw : X.w.params = P) : IxR X (rIxD K P) := by
  subst hK hw
  intro value slice pins s σ H x y v u Q I rx ry h hs
  obtain ⟨D, z, kvs, i, rfl, rfl, d, hm, q⟩ := h
  obtain ⟨t, rfl⟩ := (show ∃ t, u = Value.str z t from ry)
  obtain rfl : v = Value.ref D := rx
  obtain ⟨m, F⟩ := I.fr
  obtain ⟨es, n, lk, hk⟩ := d.ex
  obtain ⟨t2, ea⟩ := d.at_ _ hm
  exact PySem.W.topItem_K F I.mod.kin lk hk ea ⟨.int i, H, I.tok _, ⟨t2, rfl⟩, q⟩ hs
end
/-! ### the script + a list -/
end L3

set_option Elab.async false
set_option linter.all false
set_option maxRecDepth 100000
set_option maxHeartbeats 4000000
namespace L3
open PySem PySem.Spec L2
/-! ### sentences: trees of tuples -/
inductive Lb where
  | yes
  | sign (s : Str)
  | op (w : Str)
  | wit (m : Int)
  | many (w : Str)
inductive Tr where
  | node (c : Lb) (ks : List Tr)
def Tr.lb : Tr → Lb
  | .node c _ => c
def Tr.ks : Tr → List Tr
  | .node _ ks => ks
def W1 : List Str := ["all", "some", "not", "next", "always", "ever", "before", "once", "sofar"]
def W2 : List Str := ["until", "since"]
def lbOk : Lb → Nat → Prop
  | .yes, n => n = 0
  | .sign s, n => n = 0 ∧ isNameS s = true
  | .op w, n => (w ∈ W1 ∧ n = 1) ∨ (w ∈ W2 ∧ n = 2)
  | .wit m, n => (0 ≤ m ∧ m ≤ 5) ∧ n = 2
  | .many w, n => (w = "and" ∨ w = "or") ∧ n ≤ 8
def wordL : Lb → Str
  | .yes => "yes"
  | .sign _ => "sign"
  | .op w => w
  | .wit _ => "within"
  | .many w => w
/-- the tuple at a, of the heap or of the module; vs: the sentences that stand right in it -/
def Shape (K : PySem.W.Frag) (H : Hp) (a : Addr) (vs : List V) : Lb → Prop
  | .yes => vs = [] ∧ SqT K H a [.str "yes"]
  | .sign s => vs = [] ∧ SqT K H a [.str "sign", .str s]
  | .op w => SqT K H a (.str w :: vs)
  | .wit m => SqT K H a (.str "within" :: .int m :: vs)
  | .many w => ∃ b, SqT K H a [.str w, .ref b] ∧ SqT K H b vs
def At (K : PySem.W.Frag) : Nat → Hp → V → Tr → Prop
  | 0, _, _, _ => False
  | n + 1, H, v, t => ∃ a vs, v = .ref a ∧ Shape K H a vs t.lb ∧ lbOk t.lb t.ks.length ∧ vs.length = t.ks.length ∧ ∀ (i : Nat) u k, vs[i]? = some u → t.ks[i]? = some k → At K n H u k
def SameT (H H' : Hp) : Prop := ∀ (K : PySem.W.Frag) b xs, SqT K H b xs → SqT K H' b xs
theorem Same.tup {H H' : Hp} (s : Same H H') : SameT H H' := fun K b xs e => Same.seqT s e
theorem SameX.tup {p : Addr} {H H' : Hp} {xs : List V} (s : SameX p H H') (hp : H p = some (.lst xs)) : SameT H H' := fun K b ys h => by
  rcases h with (h | ⟨o, h⟩) | h
  · exact .inl (.inl (s _ _ (ne_of h hp (by intro z; cases z)) h))
  · exact .inl (.inr ⟨o, s _ _ (ne_of h hp (by intro z; cases z)) h⟩)
  · exact .inr h
theorem SameT.trans {H H1 H2 : Hp} (a : SameT H H1) (b : SameT H1 H2) : SameT H H2 := fun K c xs e => b _ _ _ (a _ _ _ e)
variable {K : PySem.W.Frag}
theorem Shape.mono {H H' : Hp} (s : SameT H H') {a : Addr} {vs : List V} {c : Lb} (h : Shape K H a vs c) : Shape K H' a vs c := by
  cases c with
  | yes => exact ⟨h.1, s _ _ _ h.2⟩
  | sign z => exact ⟨h.1, s _ _ _ h.2⟩
  | op w => exact s _ _ _ h
  | wit m => exact s _ _ _ h
  | many w => obtain ⟨b, h1, h2⟩ := h; exact ⟨b, s _ _ _ h1, s _ _ _ h2⟩
theorem At.mono {H H' : Hp} (s : SameT H H') : ∀ {n : Nat} {v : V} {t : Tr}, At K n H v t → At K n H' v t
  | 0, _, _, h => h
  | n + 1, v, t, ⟨a, vs, e, sh, ok, l, q⟩ => ⟨a, vs, e, sh.mono s, ok, l, fun i u k h1 h2 => At.mono s (q i u k h1 h2)⟩
theorem At.up {H : Hp} : ∀ {n : Nat} {v : V} {t : Tr}, At K n H v t → At K (n + 1) H v t
  | 0, _, _, h => h.elim
  | n + 1, v, t, ⟨a, vs, e, sh, ok, l, q⟩ => ⟨a, vs, e, sh, ok, l, fun i u k h1 h2 => At.up (q i u k h1 h2)⟩
theorem At.le {H : Hp} {n m : Nat} {v : V} {t : Tr} (h : At K n H v t) (hm : n ≤ m) : At K m H v t := by
  induction hm with
  | refl => exact h
  | step _ ih => exact ih.up
def AtL (K : PySem.W.Frag) (n : Nat) (H : Hp) (vs : List V) (ts : List Tr) : Prop := vs.length = ts.length ∧ ∀ (i : Nat) u k, vs[i]? = some u → ts[i]? = some k → At K n H u k
theorem AtL.mono {n : Nat} {H H' : Hp} {vs : List V} {ts : List Tr} (s : SameT H H') (h : AtL K n H vs ts) : AtL K n H' vs ts := ⟨h.1, fun i u k h1 h2 => (h.2 i u k h1 h2).mono s⟩
theorem AtL.le {n m : Nat} {H : Hp} {vs : List V} {ts : List Tr} (h : AtL K n H vs ts) (hm : n ≤ m) : AtL K m H vs ts := ⟨h.1, fun i u k h1 h2 => (h.2 i u k h1 h2).le hm⟩
theorem AtL.nil {n : Nat} {H : Hp} : AtL K n H [] [] := ⟨rfl, fun i u k h => by simp at h⟩
theorem AtL.one {n : Nat} {H : Hp} {v : V} {t : Tr} (h : At K n H v t) : AtL K n H [v] [t] := ⟨rfl, fun i u k h1 h2 => by
  cases i with
  | zero => cases h1; cases h2; exact h
  | succ i => simp at h1⟩
theorem AtL.app {n : Nat} {H : Hp} {vs us : List V} {ts rs : List Tr} (h : AtL K n H vs ts) (g : AtL K n H us rs) : AtL K n H (vs ++ us) (ts ++ rs) := by
  refine ⟨by rw [List.length_append, List.length_append, h.1, g.1], fun i u k h1 h2 => ?_⟩
  by_cases hi : i < vs.length
  · rw [List.getElem?_append_left hi] at h1
    rw [List.getElem?_append_left (by rw [← h.1]; exact hi)] at h2
    exact h.2 i u k h1 h2
  · rw [List.getElem?_append_right (by omega)] at h1
    rw [List.getElem?_append_right (by rw [← h.1]; omega), ← h.1] at h2
    exact g.2 _ u k h1 h2
theorem AtL.rev {n : Nat} {H : Hp} {vs : List V} {ts : List Tr} (h : AtL K n H vs ts) : AtL K n H vs.reverse ts.reverse := by
  refine ⟨by rw [List.length_reverse, List.length_reverse, h.1], fun i u k h1 h2 => ?_⟩
  have hi := (List.getElem?_eq_some_iff.mp h1).1
  rw [List.length_reverse] at hi
  rw [List.getElem?_reverse hi] at h1
  rw [List.getElem?_reverse (by rw [← h.1]; exact hi), ← h.1] at h2
  exact h.2 _ u k h1 h2
theorem AtL.last {n : Nat} {H : Hp} {vs : List V} {ts : List Tr} (h : AtL K n H vs ts) (hne : vs ≠ []) : ∃ us u rs r, vs = us ++ [u] ∧ ts = rs ++ [r] ∧ AtL K n H us rs ∧ At K n H u r := by
  have hl := List.length_pos_iff.mpr hne
  have ht : ts ≠ [] := fun e => by rw [e] at h; have := h.1; simp at this; exact hne this
  have e1 := List.dropLast_concat_getLast hne
  have e2 := List.dropLast_concat_getLast ht
  have hl1 : vs.dropLast.length = ts.dropLast.length := by rw [List.length_dropLast, List.length_dropLast, h.1]
  refine ⟨vs.dropLast, vs.getLast hne, ts.dropLast, ts.getLast ht, e1.symm, e2.symm, ⟨hl1, fun i u k h1 h2 => ?_⟩, ?_⟩
  · have hi := (List.getElem?_eq_some_iff.mp h1).1
    refine h.2 i u k ?_ ?_
    · rw [← e1, List.getElem?_append_left hi]; exact h1
    · rw [← e2, List.getElem?_append_left (by rw [← hl1]; exact hi)]; exact h2
  · refine h.2 (vs.length - 1) _ _ ?_ ?_
    · rw [List.getLast_eq_getElem]; exact List.getElem?_eq_getElem _
    · rw [List.getLast_eq_getElem, h.1]; exact List.getElem?_eq_getElem _
/-! ### rooms or ways; the order in which they are gone through -/
mutual
def roomT : Tr → Bool
  | .node c ks => match c with
    | .yes => true
    | .sign _ => true
    | .op w => if w = "all" ∨ w = "some" then true else if w = "not" then roomL ks else false
    | .wit _ => false
    | .many _ => roomL ks
def roomL : List Tr → Bool
  | [] => true
  | t :: r => roomT t && roomL r
end
theorem roomL_all : ∀ ks : List Tr, roomL ks = ks.all roomT
  | [] => by rw [roomL]; rfl
  | t :: r => by rw [roomL, roomL_all r, List.all_cons]
mutual
def post : Tr → List Tr
  | .node c ks => postL ks ++ [.node c ks]
def postL : List Tr → List Tr
  | [] => []
  | t :: r => post t ++ postL r
end
theorem post_eq (t : Tr) : post t = postL t.ks ++ [t] := by cases t; rw [post]; rfl
theorem postL_app : ∀ (a b : List Tr), postL (a ++ b) = postL a ++ postL b
  | [], b => by rw [List.nil_append, postL, List.nil_append]
  | t :: r, b => by rw [List.cons_append, postL, postL_app r b, postL, List.append_assoc]
theorem postL_one (t : Tr) : postL [t] = post t := by rw [postL, postL, List.append_nil]
theorem post_turn (ws : List Tr) (w : Tr) : (postL (ws ++ [w])).reverse = w :: (postL (ws ++ w.ks)).reverse := by
  rw [postL_app, postL_app, postL_one, post_eq w]
  simp
/-! the stack: what is told of all so far, by F -/
mutual
def valT {α : Type} (F : Lb → List α → α) : Tr → α
  | .node c ks => F c (valL F ks)
def valL {α : Type} (F : Lb → List α → α) : List Tr → List α
  | [] => []
  | t :: r => valT F t :: valL F r
end
theorem valL_map {α : Type} (F : Lb → List α → α) : ∀ ks : List Tr, valL F ks = ks.map (valT F)
  | [] => by rw [valL]; rfl
  | t :: r => by rw [valL, valL_map F r]; rfl
theorem valT_eq {α : Type} (F : Lb → List α → α) (t : Tr) : valT F t = F t.lb (t.ks.map (valT F)) := by
  cases t with
  | node c ks => rw [valT, valL_map]; rfl
section
variable {α : Type} {F : Lb → List α → α}
def stepF (F : Lb → List α → α) (st : List α) (t : Tr) : List α := st.take (st.length - t.ks.length) ++ [F t.lb (st.drop (st.length - t.ks.length))]
def okRun (F : Lb → List α → α) : List α → List Tr → Prop
  | _, [] => True
  | st, t :: r => (t.ks.length ≤ st.length ∧ st.drop (st.length - t.ks.length) = t.ks.map (valT F)) ∧ okRun F (stepF F st t) r
def runF (F : Lb → List α → α) : List α → List Tr → List α
  | st, [] => st
  | st, t :: r => runF F (stepF F st t) r
theorem stepF_app (st : List α) (t : Tr) : stepF F (st ++ t.ks.map (valT F)) t = st ++ [valT F t] := by
  unfold stepF
  have e : (st ++ t.ks.map (valT F)).length - t.ks.length = st.length := by rw [List.length_append, List.length_map]; omega
  rw [e, List.take_left, List.drop_left, ← valT_eq F t]
mutual
theorem run_post : ∀ (t : Tr) (st : List α) (r : List Tr), (okRun F (st ++ [valT F t]) r → okRun F st (post t ++ r)) ∧ runF F st (post t ++ r) = runF F (st ++ [valT F t]) r
  | .node c ks, st, r => by
    obtain ⟨h1, h2⟩ := run_postL ks st (.node c ks :: r)
    have e' : stepF F (st ++ ks.map (valT F)) (.node c ks) = st ++ [valT F (.node c ks)] := stepF_app st (.node c ks)
    rw [post, List.append_assoc, List.singleton_append]
    refine ⟨fun h => h1 ⟨⟨?_, ?_⟩, ?_⟩, ?_⟩
    · show ks.length ≤ _
      rw [List.length_append, List.length_map]; omega
    · show (st ++ ks.map (valT F)).drop ((st ++ ks.map (valT F)).length - ks.length) = ks.map (valT F)
      have e : (st ++ ks.map (valT F)).length - ks.length = st.length := by rw [List.length_append, List.length_map]; omega
      rw [e, List.drop_left]
    · rw [e']; exact h
    · rw [h2, runF, e']
theorem run_postL : ∀ (ks : List Tr) (st : List α) (r : List Tr), (okRun F (st ++ ks.map (valT F)) r → okRun F st (postL ks ++ r)) ∧ runF F st (postL ks ++ r) = runF F (st ++ ks.map (valT F)) r
  | [], st, r => by
    rw [postL, List.nil_append, List.map_nil, List.append_nil]
    exact ⟨id, rfl⟩
  | t :: ks, st, r => by
    obtain ⟨h1, h2⟩ := run_post t st (postL ks ++ r)
    obtain ⟨h3, h4⟩ := run_postL ks (st ++ [valT F t]) r
    rw [postL, List.append_assoc, List.map_cons]
    have e : st ++ valT F t :: ks.map (valT F) = st ++ [valT F t] ++ ks.map (valT F) := by simp
    rw [e]
    exact ⟨fun h => h1 (h3 h), by rw [h2, h4]⟩
end
theorem run_all (t : Tr) : okRun F [] (post t) ∧ runF F [] (post t) = [valT F t] := by
  obtain ⟨h1, h2⟩ := run_post (F := F) t [] []
  rw [List.append_nil] at h1 h2
  exact ⟨h1 trivial, h2⟩
end

/-! ### small helps -/
theorem iteD {p A B : Prop} [Decidable p] (h : p) (a : A) : if decide p = true then A else B := by rw [if_pos (decide_eq_true h)]; exact a
theorem iteN {p A B : Prop} [Decidable p] (h : ¬ p) (b : B) : if decide p = true then A else B := by rw [if_neg (by simpa using h)]; exact b
theorem qD {p : Prop} [Decidable p] {Q : VK} {H : Hp} (h : p) (q : Q (.bl true) H) : Q (.bl (decide p)) H := by rw [decide_eq_true h]; exact q
theorem iteIn {w : Str} {ss : List Str} {A B : Prop} (h : w ∈ ss) (a : A) : if inV (.str w) (ss.map V.str) = true then A else B := by rw [if_pos (inV_str.mpr h)]; exact a
theorem iteNin {w : Str} {ss : List Str} {A B : Prop} (h : w ∉ ss) (b : B) : if inV (.str w) (ss.map V.str) = true then A else B := by rw [if_neg (fun e => h (inV_str.mp e))]; exact b
def LK : List (Str × Int) := [("all", 2), ("some", 2), ("not", 2), ("next", 2), ("always", 2), ("ever", 2), ("before", 2), ("once", 2), ("sofar", 2), ("until", 3), ("since", 3)]
theorem op_words : ∀ w ∈ W1 ++ W2, w ≠ "yes" ∧ w ≠ "sign" ∧ w ∉ (["and", "or"] : List Str) ∧ w ≠ "within" ∧ w ∉ (["yes", "sign"] : List Str) := by decide +kernel
theorem many_words : ∀ w ∈ (["and", "or"] : List Str), w ≠ "yes" ∧ w ≠ "sign" ∧ w ≠ "within" ∧ w ∉ (["yes", "sign"] : List Str) ∧ w ∉ (["yes", "sign", "all", "some"] : List Str) ∧ w ∈ (["not", "and", "or"] : List Str) := by decide +kernel
theorem lk1 : ∀ w ∈ W1, (w, (2 : Int)) ∈ LK := by decide +kernel
theorem lk2 : ∀ w ∈ W2, (w, (3 : Int)) ∈ LK := by decide +kernel
theorem str_ty {K : PySem.W.Frag} {H : Hp} (z : Str) : ∃ t, TyOf K H (.str z) t ∧ PySem.W.kitOne K t (.type "str") = some true := ⟨_, .str _, rfl⟩
/-- a sentence's tuple: its word stands first -/
theorem Shape.tup {H : Hp} {a : Addr} {vs : List V} {c : Lb} (h : Shape K H a vs c) : ∃ xs, SqT K H a (.str (wordL c) :: xs) := by
  cases c with
  | yes => exact ⟨[], h.2⟩
  | sign s => exact ⟨[.str s], h.2⟩
  | op w => exact ⟨vs, h⟩
  | wit m => exact ⟨.int m :: vs, h⟩
  | many w => obtain ⟨b, h1, _⟩ := h; exact ⟨[.ref b], h1⟩
/-! ### isinstance(x, tuple), also of the module's; == of deep things -/
inductive rIsT_R (K : PySem.W.Frag) (xs : List V) (H : Hp) (Q : VK) : Prop
  | mk (x : _) (h0 : xs = [x, .ty "tuple"]) (h1 : ((∃ a ys, x = .ref a ∧ SqT K H a ys ∧ Q (.bl true) H) ∨ ∃ t, TyOf K H x t ∧ PySem.W.kitOne K t (.type "tuple") = some false ∧ Q (.bl false) H)) : rIsT_R K xs H Q
def rIsT (K : PySem.W.Frag) : List V → Hp → VK → Prop := fun xs H Q => rIsT_R K xs H Q
theorem call_isT {X : Cx} (hK : X.K = K) : CallR X (.builtin "isinstance") (rIsT K) := by
  subst hK
  intro pins s σ H xs us Q I r h
  obtain ⟨x, rfl, h⟩ := h
  obtain ⟨u, v, rfl, ru, rv⟩ := vals2 r
  obtain rfl : v = Value.type "tuple" := rv
  rcases h with ⟨a, ys, rfl, hq, q⟩ | ⟨t, ht, hk, q⟩
  · obtain rfl : u = Value.ref a := ru
    obtain ⟨its, r, ⟨o, h1, h2, h3⟩, hz⟩ := I.tuple hq
    exact PySem.W.kia_one (b := true) PySem.W.kitx_tuple I.kIn ⟨o, h1, h2⟩ rfl (fun z => nomatch z) fun tk => ⟨.bl true, H, I.tok _, rfl, q⟩
  · exact isinst_ok I ru ht hk fun tk => ⟨.bl false, H, I.tok _, rfl, q⟩
end L3

set_option Elab.async false
set_option linter.all false
set_option maxRecDepth 100000
set_option maxHeartbeats 4000000
namespace L3
open PySem PySem.Spec L2
/-! ### cores -/
abbrev nYes : Tr := .node .yes []
abbrev nNot (t : Tr) : Tr := .node (.op "not") [t]
abbrev nNext (t : Tr) : Tr := .node (.op "next") [t]
abbrev nSome (t : Tr) : Tr := .node (.op "some") [t]
abbrev nAnd (a b : Tr) : Tr := .node (.many "and") [a, b]
abbrev nUnt (a b : Tr) : Tr := .node (.op "until") [a, b]
abbrev nSin (a b : Tr) : Tr := .node (.op "since") [a, b]
def andT : List Tr → Tr
  | [] => nYes
  | [x] => x
  | x :: y :: r => nAnd x (andT (y :: r))
def orT : List Tr → Tr
  | [] => nNot nYes
  | [x] => x
  | x :: y :: r => nNot (nAnd (nNot x) (nNot (orT (y :: r))))
def withinT : Nat → Tr → Tr → Tr
  | 0, _, s => s
  | n + 1, f, s => nNot (nAnd (nNot s) (nNot (nAnd f (nNext (withinT n f s)))))
def coreF (c : Lb) (cs : List Tr) : Tr := match c with
  | .yes => nYes
  | .sign s => .node (.sign s) []
  | .many w => if w = "and" then andT cs else orT cs
  | .wit m => withinT m.toNat (cs.getD 0 nYes) (cs.getD 1 nYes)
  | .op w => if w = "all" then nNot (nSome (nNot (cs.getD 0 nYes))) else if w = "ever" then nUnt nYes (cs.getD 0 nYes) else if w = "always" then nNot (nUnt nYes (nNot (cs.getD 0 nYes)))
    else if w = "once" then nSin nYes (cs.getD 0 nYes) else if w = "sofar" then nNot (nSin nYes (nNot (cs.getD 0 nYes))) else .node (.op w) cs
/-! measures: each by one step -/
/-! what is true of a measure at coreF -/
section
end
/-! ### cores of cores -/
def W6 : List Str := ["not", "next", "until", "before", "since", "some"]
/-! ### all of it, by the height -/
def Bz : Nat → Nat
  | 0 => 1
  | n + 1 => 11 * Bz n + 35
/-! ### tuples that are sentences -/
theorem post_len (c : Lb) (ks : List Tr) : (post (.node c ks)).length = (postL ks).length + 1 := by rw [post, List.length_append]; rfl
theorem at_yes {K : PySem.W.Frag} {n : Nat} {H : Hp} {t : Addr} (e : SqT K H t [.str "yes"]) : At K (n + 1) H (.ref t) (.node .yes []) := ⟨t, [], rfl, ⟨rfl, e⟩, rfl, rfl, fun i u k h => by simp at h⟩
theorem at_sign {K : PySem.W.Frag} {n : Nat} {H : Hp} {t : Addr} {z : Str} (e : SqT K H t [.str "sign", .str z]) (hz : isNameS z = true) : At K (n + 1) H (.ref t) (.node (.sign z) []) := ⟨t, [], rfl, ⟨rfl, e⟩, ⟨rfl, hz⟩, rfl, fun i u k h => by simp at h⟩
theorem at_op1 {K : PySem.W.Frag} {n : Nat} {H : Hp} {t : Addr} {w : Str} {u : V} {k : Tr} (e : SqT K H t [.str w, u]) (hw : w ∈ W1) (h : At K n H u k) : At K (n + 1) H (.ref t) (.node (.op w) [k]) := ⟨t, [u], rfl, e, .inl ⟨hw, rfl⟩, rfl, (AtL.one h).2⟩
theorem at_op2 {K : PySem.W.Frag} {n : Nat} {H : Hp} {t : Addr} {w : Str} {u v : V} {k r : Tr} (e : SqT K H t [.str w, u, v]) (hw : w ∈ W2) (h : At K n H u k) (g : At K n H v r) : At K (n + 1) H (.ref t) (.node (.op w) [k, r]) := ⟨t, [u, v], rfl, e, .inr ⟨hw, rfl⟩, rfl, ((AtL.one h).app (AtL.one g)).2⟩
theorem at_wit {K : PySem.W.Frag} {n : Nat} {H : Hp} {t : Addr} {m : Int} {u v : V} {k r : Tr} (e : SqT K H t [.str "within", .int m, u, v]) (hm : 0 ≤ m ∧ m ≤ 5) (h : At K n H u k) (g : At K n H v r) : At K (n + 1) H (.ref t) (.node (.wit m) [k, r]) := ⟨t, [u, v], rfl, e, ⟨hm, rfl⟩, rfl, ((AtL.one h).app (AtL.one g)).2⟩
theorem at_mny {K : PySem.W.Frag} {n : Nat} {H : Hp} {t b : Addr} {w : Str} {us : List V} {ks : List Tr} (e : SqT K H t [.str w, .ref b]) (eb : SqT K H b us) (h : AtL K n H us ks) (hw : w = "and" ∨ w = "or") (hk : ks.length ≤ 8) : At K (n + 1) H (.ref t) (.node (.many w) ks) := ⟨t, us, rfl, ⟨b, e, eb⟩, ⟨hw, hk⟩, h.1, h.2⟩
theorem AtL.two {K : PySem.W.Frag} {n : Nat} {H : Hp} {u v : V} {a b : Tr} (h : At K n H u a) (g : At K n H v b) : AtL K n H [u, v] [a, b] := (AtL.one h).app (AtL.one g)
end L3

set_option Elab.async false
set_option linter.all false
set_option maxRecDepth 100000
set_option maxHeartbeats 4000000
namespace L3
open PySem PySem.Spec L2
/-! ### what is_formed says False of -/
abbrev NW : List Str := ["yes", "sign", "and", "or", "within"]
inductive Fm (K : PySem.W.Frag) (H : Hp) : V → Prop
  | noT {v : V} : Kd H v → isTy H "tuple" v = false → Fm K H v
  | emp {a : Addr} : SqT K H a [] → Fm K H (.ref a)
  | noS {a : Addr} {x : V} {xs : List V} : SqT K H a (x :: xs) → Kd H x → isTy H "str" x = false → Fm K H (.ref a)
  | yes {a : Addr} {xs : List V} : SqT K H a (.str "yes" :: xs) → xs.length ≠ 0 → Fm K H (.ref a)
  | sgnL {a : Addr} {xs : List V} : SqT K H a (.str "sign" :: xs) → xs.length ≠ 1 → Fm K H (.ref a)
  | sgn {a : Addr} {x : V} : SqT K H a [.str "sign", x] → Kd H x → isNameV x = false → Fm K H (.ref a)
  | manyL {a : Addr} {w : Str} {xs : List V} : w ∈ (["and", "or"] : List Str) → SqT K H a (.str w :: xs) → xs.length ≠ 1 → Fm K H (.ref a)
  | manyN {a : Addr} {w : Str} {x : V} : w ∈ (["and", "or"] : List Str) → SqT K H a [.str w, x] → Kd H x → isTy H "tuple" x = false → Fm K H (.ref a)
  | witL {a : Addr} {xs : List V} : SqT K H a (.str "within" :: xs) → xs.length ≠ 3 → Fm K H (.ref a)
  | witN {a : Addr} {x y z : V} : SqT K H a [.str "within", x, y, z] → Kd H x → isIntV x = false → Fm K H (.ref a)
  | witM {a : Addr} {m : Int} {y z : V} : SqT K H a [.str "within", .int m, y, z] → ¬ (0 ≤ m ∧ m ≤ 5) → Fm K H (.ref a)
  | word {a : Addr} {w : Str} {xs : List V} : SqT K H a (.str w :: xs) → w ∈ (["signs", "Next", "maybe"] : List Str) → Fm K H (.ref a)
  | lens {a : Addr} {w : Str} {i : Int} {xs : List V} : SqT K H a (.str w :: xs) → w ∉ NW → (w, i) ∈ LK → ((xs.length + 1 : Nat) : Int) ≠ i → Fm K H (.ref a)
theorem Fm.mono {K : PySem.W.Frag} {H H' : Hp} (s : Same H H') {v : V} (h : Fm K H v) : Fm K H' v := by
  cases h with
  | noT k e => exact .noT (k.mono s) ((isTy_same s k).trans e)
  | emp e => exact .emp (Same.tup s _ _ _ e)
  | noS e k h => exact .noS (Same.tup s _ _ _ e) (k.mono s) ((isTy_same s k).trans h)
  | yes e h => exact .yes (Same.tup s _ _ _ e) h
  | sgnL e h => exact .sgnL (Same.tup s _ _ _ e) h
  | sgn e k h => exact .sgn (Same.tup s _ _ _ e) (k.mono s) h
  | manyL w e h => exact .manyL w (Same.tup s _ _ _ e) h
  | manyN w e k h => exact .manyN w (Same.tup s _ _ _ e) (k.mono s) ((isTy_same s k).trans h)
  | witL e h => exact .witL (Same.tup s _ _ _ e) h
  | witN e k h => exact .witN (Same.tup s _ _ _ e) (k.mono s) h
  | witM e h => exact .witM (Same.tup s _ _ _ e) h
  | word e h1 => exact .word (Same.tup s _ _ _ e) h1
  | lens e h1 h2 h3 => exact .lens (Same.tup s _ _ _ e) h1 h2 h3
/-! ### sentences with something in them that is none -/
inductive Bt where
  | lf
  | nd (c : Lb) (ks : List Bt)
mutual
def hasBad : Bt → Bool
  | .lf => true
  | .nd _ ks => hasBadL ks
def hasBadL : List Bt → Bool
  | [] => false
  | b :: r => hasBad b || hasBadL r
end
mutual
def bsz : Bt → Nat
  | .lf => 1
  | .nd _ ks => bszL ks + 1
def bszL : List Bt → Nat
  | [] => 0
  | b :: r => bsz b + bszL r
end
theorem bszL_app : ∀ a b : List Bt, bszL (a ++ b) = bszL a + bszL b
  | [], b => by simp [bszL]
  | x :: r, b => by rw [List.cons_append, bszL, bszL, bszL_app r b]; omega
theorem hasBadL_app : ∀ a b : List Bt, hasBadL (a ++ b) = (hasBadL a || hasBadL b)
  | [], b => by simp [hasBadL]
  | x :: r, b => by rw [List.cons_append, hasBadL, hasBadL, hasBadL_app r b, Bool.or_assoc]
/-- as lbOk, with more room behind and, or -/
def lbOkB : Lb → Nat → Prop
  | .yes, n => lbOk .yes n
  | .sign s, n => lbOk (.sign s) n
  | .op w, n => lbOk (.op w) n
  | .wit m, n => lbOk (.wit m) n
  | .many w, n => (w = "and" ∨ w = "or") ∧ n ≤ 1000
theorem lbOk.b {c : Lb} {n : Nat} (h : lbOk c n) : lbOkB c n := by
  cases c with
  | many w => exact ⟨h.1, Nat.le_trans h.2 (by decide)⟩
  | yes => exact h
  | sign s => exact h
  | op w => exact h
  | wit m => exact h
def BAt (K : PySem.W.Frag) : Nat → Hp → V → Bt → Prop
  | 0, _, _, _ => False
  | _ + 1, H, v, .lf => Fm K H v
  | n + 1, H, v, .nd c ks => ∃ a vs, v = .ref a ∧ Shape K H a vs c ∧ lbOkB c ks.length ∧ vs.length = ks.length ∧ ∀ (i : Nat) u k, vs[i]? = some u → ks[i]? = some k → BAt K n H u k
theorem BAt.mono {K : PySem.W.Frag} {H H' : Hp} (s : Same H H') : ∀ {n : Nat} {v : V} {b : Bt}, BAt K n H v b → BAt K n H' v b
  | 0, _, _, h => h.elim
  | n + 1, v, .lf, h => Fm.mono s h
  | n + 1, v, .nd c ks, ⟨a, vs, e, sh, ok, l, q⟩ => ⟨a, vs, e, sh.mono (Same.tup s), ok, l, fun i u k h1 h2 => BAt.mono s (q i u k h1 h2)⟩
theorem BAt.up {K : PySem.W.Frag} {H : Hp} : ∀ {n : Nat} {v : V} {b : Bt}, BAt K n H v b → BAt K (n + 1) H v b
  | 0, _, _, h => h.elim
  | n + 1, v, .lf, h => h
  | n + 1, v, .nd c ks, ⟨a, vs, e, sh, ok, l, q⟩ => ⟨a, vs, e, sh, ok, l, fun i u k h1 h2 => BAt.up (q i u k h1 h2)⟩
theorem BAt.le {K : PySem.W.Frag} {H : Hp} {n m : Nat} {v : V} {b : Bt} (h : BAt K n H v b) (hm : n ≤ m) : BAt K m H v b := by
  induction hm with
  | refl => exact h
  | step _ ih => exact ih.up
mutual
def bOf : Tr → Bt
  | .node c ks => .nd c (bOfL ks)
def bOfL : List Tr → List Bt
  | [] => []
  | t :: r => bOf t :: bOfL r
end
theorem bOfL_map : ∀ ks : List Tr, bOfL ks = ks.map bOf
  | [] => by rw [bOfL]; rfl
  | t :: r => by rw [bOfL, bOfL_map r]; rfl
theorem bOf_eq (t : Tr) : bOf t = .nd t.lb (t.ks.map bOf) := by
  cases t with
  | node c ks => rw [bOf, bOfL_map]; rfl
theorem At.bat {K : PySem.W.Frag} {H : Hp} : ∀ {n : Nat} {v : V} {t : Tr}, At K n H v t → BAt K n H v (bOf t)
  | 0, _, _, h => h.elim
  | n + 1, v, t, ⟨a, vs, e, sh, ok, l, q⟩ => by
    rw [bOf_eq]
    refine ⟨a, vs, e, sh, by rw [List.length_map]; exact ok.b, by rw [List.length_map]; exact l, fun i u k h1 h2 => ?_⟩
    rw [List.getElem?_map] at h2
    cases hk : t.ks[i]? with
    | none => rw [hk] at h2; cases h2
    | some kk => rw [hk] at h2; cases h2; exact At.bat (q i u kk h1 hk)

def BAtL (K : PySem.W.Frag) (n : Nat) (H : Hp) (vs : List V) (bs : List Bt) : Prop := vs.length = bs.length ∧ ∀ (i : Nat) u k, vs[i]? = some u → bs[i]? = some k → BAt K n H u k
theorem BAtL.one {K : PySem.W.Frag} {n : Nat} {H : Hp} {v : V} {b : Bt} (h : BAt K n H v b) : BAtL K n H [v] [b] := ⟨rfl, fun i u k h1 h2 => by
  cases i with
  | zero => cases h1; cases h2; exact h
  | succ i => simp at h1⟩
theorem BAtL.le {K : PySem.W.Frag} {n m : Nat} {H : Hp} {vs : List V} {bs : List Bt} (h : BAtL K n H vs bs) (hm : n ≤ m) : BAtL K m H vs bs := ⟨h.1, fun i u k h1 h2 => (h.2 i u k h1 h2).le hm⟩
theorem BAtL.app {K : PySem.W.Frag} {n : Nat} {H : Hp} {vs us : List V} {ts rs : List Bt} (h : BAtL K n H vs ts) (g : BAtL K n H us rs) : BAtL K n H (vs ++ us) (ts ++ rs) := by
  refine ⟨by rw [List.length_append, List.length_append, h.1, g.1], fun i u k h1 h2 => ?_⟩
  by_cases hi : i < vs.length
  · rw [List.getElem?_append_left hi] at h1
    rw [List.getElem?_append_left (by rw [← h.1]; exact hi)] at h2
    exact h.2 i u k h1 h2
  · rw [List.getElem?_append_right (by omega)] at h1
    rw [List.getElem?_append_right (by rw [← h.1]; omega), ← h.1] at h2
    exact g.2 _ u k h1 h2
theorem BAtL.last {K : PySem.W.Frag} {n : Nat} {H : Hp} {vs : List V} {ts : List Bt} (h : BAtL K n H vs ts) (hne : vs ≠ []) : ∃ us u rs r, vs = us ++ [u] ∧ ts = rs ++ [r] ∧ BAtL K n H us rs ∧ BAt K n H u r := by
  have hl := List.length_pos_iff.mpr hne
  have ht : ts ≠ [] := fun e => by rw [e] at h; have := h.1; simp at this; exact hne this
  have e1 := List.dropLast_concat_getLast hne
  have e2 := List.dropLast_concat_getLast ht
  have hl1 : vs.dropLast.length = ts.dropLast.length := by rw [List.length_dropLast, List.length_dropLast, h.1]
  refine ⟨vs.dropLast, vs.getLast hne, ts.dropLast, ts.getLast ht, e1.symm, e2.symm, ⟨hl1, fun i u k h1 h2 => ?_⟩, ?_⟩
  · have hi := (List.getElem?_eq_some_iff.mp h1).1
    refine h.2 i u k ?_ ?_
    · rw [← e1, List.getElem?_append_left hi]; exact h1
    · rw [← e2, List.getElem?_append_left (by rw [← hl1]; exact hi)]; exact h2
  · refine h.2 (vs.length - 1) _ _ ?_ ?_
    · rw [List.getLast_eq_getElem]; exact List.getElem?_eq_getElem _
    · rw [List.getLast_eq_getElem, h.1]; exact List.getElem?_eq_getElem _
theorem len_bszL : ∀ bs : List Bt, bs.length ≤ bszL bs
  | [] => by simp [bszL]
  | b :: r => by
    have := len_bszL r
    have h1 : 1 ≤ bsz b := by cases b <;> simp [bsz]
    rw [bszL, List.length_cons]
    omega
/-- what is_formed says True of -/
def FmT (K : PySem.W.Frag) (H : Hp) (v : V) : Prop := ∃ a us c, v = .ref a ∧ Shape K H a us c ∧ lbOkB c us.length
theorem At.fmT {K : PySem.W.Frag} {H : Hp} {n : Nat} {v : V} {t : Tr} (h : At K n H v t) : FmT K H v := by
  cases n with
  | zero => exact h.elim
  | succ n =>
    obtain ⟨a, vs, e, sh, ok, l, _⟩ := h
    exact ⟨a, vs, t.lb, e, sh, by rw [l]; exact ok.b⟩
/-- x in a dict of the module: yes or no -/
inductive rInD2_R (K : PySem.W.Frag) (P : Params) (x : V) (y : V) (H : Hp) (Q : VK) : Prop
  | mk (z : _) (D : _) (kvs : _) (b : _) (h0 : x = .str z) (h1 : y = .ref D) (h2 : DicK K P D kvs) (h3 : ((b = true ∧ ∃ i, (z, i) ∈ kvs) ∨ (b = false ∧ PySem.W.nsIn K D z = some none))) (h4 : Q (.bl b) H) : rInD2_R K P x y H Q
def rInD2 (K : PySem.W.Frag) (P : Params) : R2 := fun x y H Q => rInD2_R K P x y H Q
theorem op_inD2 {X : Cx} {K : PySem.W.Frag} {P : Params} (hK : X.K = K) (hw : X.w.params = P) : OpR X (compareOp .In) (rInD2 K P) := by
  subst hK hw
  intro pins s σ H x y v u Q I rx ry h
  obtain ⟨z, D, kvs, b, rfl, rfl, d, hb, q⟩ := h
  obtain ⟨t, rfl⟩ := (show ∃ t, v = Value.str z t from rx)
  obtain rfl : u = Value.ref D := ry
  obtain ⟨m, F⟩ := I.fr
  obtain ⟨es, n, lk, hk⟩ := d.ex
  rcases hb with ⟨rfl, i, hm⟩ | ⟨rfl, ea⟩
  · obtain ⟨t2, ea⟩ := d.at_ _ hm
    exact PySem.W.topIn_K F I.mod.kin lk hk ea d.lo ⟨.bl true, H, I.tok _, rfl, q⟩
  · exact PySem.W.topIn_K F I.mod.kin lk hk ea d.lo ⟨.bl false, H, I.tok _, rfl, q⟩
theorem qN {p : Prop} [Decidable p] {Q : VK} {H : Hp} (h : ¬ p) (q : Q (.bl false) H) : Q (.bl (decide p)) H := by rw [decide_eq_false h]; exact q
/-- if, in a suite that may let an exception out -/
def tIfX (tc : L2.TT) (ta tb : L2.Ends → XS → L2.St → Hp → Prop) : L2.Ends → XS → L2.St → Hp → Prop := fun D E σ H => tc σ H fun b H1 => if b = true then ta D E σ H1 else tb D E σ H1
theorem psx_if {X : Cx} {c : Expr} {a b : List Stmt} {pos : Pos} {tc : L2.TT} {ta tb : L2.Ends → XS → L2.St → Hp → Prop} (hc : PT X.nox c tc) (ha : PSx X a ta) (hb : PSx X b tb) : PSx X [.If c a b pos] (tIfX tc ta tb) := by
  intro pins s σ H D E I h
  have fin : ∀ (f : Flow) (s1 : Shared), SP X pins D f s1 → (match f with | .next => wpAny (model X.prog X.w) X.A (execs [] X.env) (SP X pins D) (XP X pins E) s1 | f => SP X pins D f s1) := fun f s1 h1 => by
    cases f with
    | next => exact wpAny_execs_nil h1
    | ret u => exact h1
    | brk => exact h1
    | cont => exact h1
  refine wpAny_execs_cons (wpAny_If (wpAny_mono (hc pins s σ H _ (I.wish _) h) (fun d s1 ⟨H1, I1, q1⟩ => ?_) fun _ _ z => False.elim z))
  cases d with
  | true => exact wpAny_mono (ha pins s1 σ H1 D E I1.unwish q1) (fun f s2 h2 => fin f s2 h2) fun _ _ z => z
  | false => exact wpAny_mono (hb pins s1 σ H1 D E I1.unwish q1) (fun f s2 h2 => fin f s2 h2) fun _ _ z => z
end L3

set_option Elab.async false
set_option linter.all false
set_option maxRecDepth 100000
set_option maxHeartbeats 4000000
namespace L3
open PySem PySem.Spec L2
/-! ### k12: where something that is none is put in -/
def SameL (H H' : Hp) : Prop := ∀ b o, H b = some o → H' b = some o ∨ ∃ xs ys, o = .lst xs ∧ H' b = some (.lst ys)
theorem Same.l {H H' : Hp} (s : Same H H') : SameL H H' := fun b o e => .inl (s b o e)
theorem SameL.trans {H H1 H2 : Hp} (a : SameL H H1) (b : SameL H1 H2) : SameL H H2 := fun c o e => by
  rcases a c o e with h | ⟨xs, ys, rfl, h⟩
  · exact b c o h
  · rcases b c _ h with h2 | ⟨xs2, ys2, _, h2⟩
    · exact .inr ⟨xs, ys, rfl, h2⟩
    · exact .inr ⟨xs, ys2, rfl, h2⟩
theorem SameX.l {p : Addr} {H H' : Hp} {xs ys : List V} (s : SameX p H H') (h : H p = some (.lst xs)) (h' : H' p = some (.lst ys)) : SameL H H' := fun b o e => by
  by_cases hb : b = p
  · subst hb
    rw [h] at e
    cases e
    exact .inr ⟨xs, ys, rfl, h'⟩
  · exact .inl (s b o hb e)
theorem SameL.tup {H H' : Hp} (s : SameL H H') : SameT H H' := fun K b xs h => by
  rcases h with (h | ⟨o, h⟩) | h
  · rcases s _ _ h with h2 | ⟨_, _, z, _⟩
    · exact .inl (.inl h2)
    · cases z
  · rcases s _ _ h with h2 | ⟨_, _, z, _⟩
    · exact .inl (.inr ⟨o, h2⟩)
    · cases z
  · exact .inr h
theorem Kd.monoL {H H' : Hp} (s : SameL H H') {v : V} (h : Kd H v) : Kd H' v := by
  cases h with
  | non => exact .non
  | bl b => exact .bl b
  | int i => exact .int i
  | str z hz => exact .str z hz
  | lst e =>
    rcases s _ _ e with h | ⟨_, ys, _, h⟩
    · exact .lst h
    · exact .lst h
  | tup e =>
    rcases s _ _ e with h | ⟨_, ys, z, h⟩
    · exact .tup h
    · cases z
  | dK e =>
    rcases s _ _ e with h | ⟨_, ys, z, h⟩
    · exact .dK h
    · cases z
theorem isTyL {H H' : Hp} (s : SameL H H') {v : V} {T : String} (h : Kd H v) : isTy H' T v = isTy H T v := by
  cases h with
  | non => rfl
  | bl b => rfl
  | int i => rfl
  | str z hz => rfl
  | lst e =>
    rcases s _ _ e with h | ⟨_, ys, _, h⟩ <;> simp only [isTy, e, h]
  | tup e =>
    rcases s _ _ e with h | ⟨_, ys, z, h⟩
    · simp only [isTy, e, h]
    · cases z
  | dK e =>
    rcases s _ _ e with h | ⟨_, ys, z, h⟩
    · simp only [isTy, e, h]
    · cases z
theorem Fm.monoL {K : PySem.W.Frag} {H H' : Hp} (s : SameL H H') {v : V} (h : Fm K H v) : Fm K H' v := by
  cases h with
  | noT k e => exact .noT (k.monoL s) ((isTyL s k).trans e)
  | emp e => exact .emp (s.tup _ _ _ e)
  | noS e k h => exact .noS (s.tup _ _ _ e) (k.monoL s) ((isTyL s k).trans h)
  | yes e h => exact .yes (s.tup _ _ _ e) h
  | sgnL e h => exact .sgnL (s.tup _ _ _ e) h
  | sgn e k h => exact .sgn (s.tup _ _ _ e) (k.monoL s) h
  | manyL w e h => exact .manyL w (s.tup _ _ _ e) h
  | manyN w e k h => exact .manyN w (s.tup _ _ _ e) (k.monoL s) ((isTyL s k).trans h)
  | witL e h => exact .witL (s.tup _ _ _ e) h
  | witN e k h => exact .witN (s.tup _ _ _ e) (k.monoL s) h
  | witM e h => exact .witM (s.tup _ _ _ e) h
  | word e h1 => exact .word (s.tup _ _ _ e) h1
  | lens e h1 h2 h3 => exact .lens (s.tup _ _ _ e) h1 h2 h3
theorem BAt.monoL {K : PySem.W.Frag} {H H' : Hp} (s : SameL H H') : ∀ {n : Nat} {v : V} {b : Bt}, BAt K n H v b → BAt K n H' v b
  | 0, _, _, h => h.elim
  | n + 1, v, .lf, h => Fm.monoL s h
  | n + 1, v, .nd c ks, ⟨a, vs, e, sh, ok, l, q⟩ => ⟨a, vs, e, sh.mono s.tup, ok, l, fun i u k h1 h2 => BAt.monoL s (q i u k h1 h2)⟩
end L3

set_option Elab.async false
set_option linter.all false
set_option maxRecDepth 100000
set_option maxHeartbeats 8000000
namespace L3
open PySem PySem.Spec PyProof.Rows L2
section
variable {X : Cx} {i : Nat} {n cn cm : Str} {D D' : Addr} {b₀ b₁ : Stmt} {body suite suite' : List Stmt} {np mp hpos hpos' pos : Pos}
/-- try: .. except D as n: .. except D' as n: .. , where each exception is one of them -/
def tTry2 (K : PySem.W.Frag) (D D' : Addr) (i : Nat) (tb : L2.Ends → XS → L2.St → Hp → Prop) (th th' : Addr → L2.TS) : L2.TS := fun Ds σ H =>
  tb Ds (fun e c σ1 H1 => ∃ a C, e = .ref a ∧ c = some C ∧ ((PySem.W.exmOne K (.ref C) (.ref D) = some true ∧ (H1 a = none →
    th a { nx := fun σ2 H2 => Ds.nx (σ2.set i none) H2, rt := Ds.rt, bk := fun σ2 H2 => Ds.bk (σ2.set i none) H2, ct := fun σ2 H2 => Ds.ct (σ2.set i none) H2 } (σ1.set i (some (.ref a))) (upd H1 a (XcO a C)))) ∨
    (PySem.W.exmOne K (.ref C) (.ref D) = some false ∧ PySem.W.exmOne K (.ref C) (.ref D') = some true ∧ (H1 a = none →
    th' a { nx := fun σ2 H2 => Ds.nx (σ2.set i none) H2, rt := Ds.rt, bk := fun σ2 H2 => Ds.bk (σ2.set i none) H2, ct := fun σ2 H2 => Ds.ct (σ2.set i none) H2 } (σ1.set i (some (.ref a))) (upd H1 a (XcO a C)))))) σ H
theorem ps_try2 {tb : L2.Ends → XS → L2.St → Hp → Prop} {th th' : Addr → L2.TS} (hst : X.stack = X.env :: X.outer) (hfr : X.env.frame = some X.env.locals) (hN : X.N.Nodup) (hi : X.N[i]? = some n) (hl : X.env.scope.names.lookup n = some .local)
    (hg : Gl X cn) (hm : X.mg cn = some (.ref D)) (hg' : Gl X cm) (hm' : X.mg cm = some (.ref D')) (hb : PSx X body tb) (hs : ∀ a, PSs (X.caught a) (b₀ :: suite) (th a)) (hs' : ∀ a, PSs (X.caught a) (b₁ :: suite') (th' a)) (hdb : (cn == ("__debug__" : Str)) = false := by decide) (hdb' : (cm == ("__debug__" : Str)) = false := by decide) :
    PS X (.Try body [.ExceptHandler (some (.Name cn np)) (some n) (b₀ :: suite) hpos, .ExceptHandler (some (.Name cm mp)) (some n) (b₁ :: suite') hpos'] [] [] pos) (tTry2 X.K D D' i tb th th') := by
  intro pins s σ H Ds I h
  refine wpAny_Try_except (wpAny_mono (hb pins s σ H Ds _ I h) (fun f s1 h1 => ?_) fun v s1 h1 => ?_)
  · cases f with
    | next => exact wpAny_execs_nil h1
    | ret u => exact h1
    | brk => exact h1
    | cont => exact h1
  · obtain ⟨σ1, H0, s0, I0, a, C, T, H', rfl, hos, hba, hun, hok, fly, a', C', ea, ec, hx⟩ := h1
    cases ea
    cases ec
    have I' : L2.Inv X pins σ1 H' s1 := I0.call' hos hun hok hba (fun b z => nomatch z)
    obtain ⟨n1, n2, n3, n4, nTa, oe, vs, oT, ts, a0, he, hc, hd, h0, hT1, hT, hdT, h3, h2⟩ := id fly
    have fl1 : FlV (PySem.W.hideAll s1.heap (a :: T :: frs X.stack)) X.stack a (.ref C) .none s1.heap :=
      ⟨fun b o q => PySem.W.of_hideAll _ q, PySem.W.hideAll_none _ (.head _), PySem.W.funFrames_hide I'.stack fun env hev b hbv => .tail _ (.tail _ (frs_mem hev hbv)),
        oe, vs, T, oT, ts, a0, he, hc, hd, h0, h2, hT1, PySem.W.hideAll_none _ (.tail _ (.head _)), nTa, hT, hdT, h3⟩
    rw [hst] at fl1
    refine note_onV (L := X.env.locals) (by rw [I.ok.frames, hst]) hfr fl1 fun h₄ hl₄ up₄ => ?_
    refine landV (s := { s1 with heap := h₄ }) hl₄ fun h₅ fl₅ up₅ => ?_
    have up5 := up₄.trans up₅
    rw [← hst] at fl₅
    have J5 : L2.Inv (X.caught a) pins σ1 (upd H' a (XcO a C)) { s1 with heap := h₅ } := inv_caught (landed_inv (tk := 0) I0 hos hba hun hok fly fl₅ up5) a
    obtain ⟨_, _, _, ob, _, _, _, _, _, hob, hobc, _⟩ := id fl₅
    have LT : PySem.W.Looks (model X.prog X.w) h₅ (typeOf (.ref a)) (.ref C) := hobc ▸ (PySem.W.Looks.ld hob).andThen .now
    rcases hx with ⟨hx, hE⟩ | ⟨hx0, hx, hE⟩
    · refine wpAny_handleBy_cons (codeAny_handlers_test (ld_glob (X := X.caught a) J5 hg hm ?_ hdb)) (by intro q; cases q)
      refine (PySem.W.exm_one (K := X.K) J5.kIn LT hx).here ?_
      refine codeAny_handlers_suite_as ?_
      rw [hst] at fl₅
      refine landV (s := { s1 with heap := h₅ }) fl₅ fun h₆ fl₆ up₆ => ?_
      rw [← hst] at fl₆
      have J6 : L2.Inv (X.caught a) pins σ1 (upd H' a (XcO a C)) { s1 with heap := h₆ } := inv_caught (landed_inv (tk := 0) I0 hos hba hun hok fly fl₆ (up5.trans up₆)) a
      refine store_ok (X := X.caught a) J6 hN hi (.inl hl) (show RelV (.ref a) (.ref a) from rfl) (fun s7 J7 => ?_) (.inr hl)
      refine wpAny_mono (hs a pins s7 _ _ _ J7 (hE n3)) (fun f s8 h8 => ?_) fun _ _ z => False.elim z
      have back : ∀ {σ2 : L2.St} {H2 : Hp}, L2.Inv (X.caught a) pins σ2 H2 s8 → L2.Inv X pins σ2 H2 s8 := fun J =>
        ⟨I.ok, J.os, J.bare, J.base, J.loc, J.cell, J.free, J.freeC, J.pin, J.hok, J.len⟩
      cases f with
      | next =>
        obtain ⟨σ2, H2, J, q⟩ := h8
        exact unbind_ok (back J) hN hi hl fun s9 J9 => ⟨_, _, J9, q⟩
      | brk =>
        obtain ⟨σ2, H2, J, q⟩ := h8
        exact unbind_ok (back J) hN hi hl fun s9 J9 => ⟨_, _, J9, q⟩
      | cont =>
        obtain ⟨σ2, H2, J, q⟩ := h8
        exact unbind_ok (back J) hN hi hl fun s9 J9 => ⟨_, _, J9, q⟩
      | ret u =>
        obtain ⟨v, σ2, H2, J, rv, q⟩ := h8
        exact unbind_ok (back J) hN hi hl fun s9 J9 => ⟨v, _, _, J9, rv, q⟩
    · refine wpAny_handleBy_cons (codeAny_handlers_test (ld_glob (X := X.caught a) J5 hg hm ?_ hdb)) (by intro q; cases q)
      refine (PySem.W.exm_one (K := X.K) J5.kIn LT hx0).here ?_
      refine wpAny_handleBy_cons (codeAny_handlers_test (ld_glob (X := X.caught a) J5 hg' hm' ?_ hdb')) (by intro q; cases q)
      refine (PySem.W.exm_one (K := X.K) J5.kIn LT hx).here ?_
      refine codeAny_handlers_suite_as ?_
      rw [hst] at fl₅
      refine landV (s := { s1 with heap := h₅ }) fl₅ fun h₆ fl₆ up₆ => ?_
      rw [← hst] at fl₆
      have J6 : L2.Inv (X.caught a) pins σ1 (upd H' a (XcO a C)) { s1 with heap := h₆ } := inv_caught (landed_inv (tk := 0) I0 hos hba hun hok fly fl₆ (up5.trans up₆)) a
      refine store_ok (X := X.caught a) J6 hN hi (.inl hl) (show RelV (.ref a) (.ref a) from rfl) (fun s7 J7 => ?_) (.inr hl)
      refine wpAny_mono (hs' a pins s7 _ _ _ J7 (hE n3)) (fun f s8 h8 => ?_) fun _ _ z => False.elim z
      have back : ∀ {σ2 : L2.St} {H2 : Hp}, L2.Inv (X.caught a) pins σ2 H2 s8 → L2.Inv X pins σ2 H2 s8 := fun J =>
        ⟨I.ok, J.os, J.bare, J.base, J.loc, J.cell, J.free, J.freeC, J.pin, J.hok, J.len⟩
      cases f with
      | next =>
        obtain ⟨σ2, H2, J, q⟩ := h8
        exact unbind_ok (back J) hN hi hl fun s9 J9 => ⟨_, _, J9, q⟩
      | brk =>
        obtain ⟨σ2, H2, J, q⟩ := h8
        exact unbind_ok (back J) hN hi hl fun s9 J9 => ⟨_, _, J9, q⟩
      | cont =>
        obtain ⟨σ2, H2, J, q⟩ := h8
        exact unbind_ok (back J) hN hi hl fun s9 J9 => ⟨_, _, J9, q⟩
      | ret u =>
        obtain ⟨v, σ2, H2, J, rv, q⟩ := h8
        exact unbind_ok (back J) hN hi hl fun s9 J9 => ⟨v, _, _, J9, rv, q⟩
end
end L3

set_option Elab.async false
set_option linter.all false
set_option maxRecDepth 100000
set_option maxHeartbeats 4000000
namespace L3
open PySem PySem.Spec PyProof.Rows L2
/-! ### [f(x) for x in xs], elements that are new lists -/
def RL {α : Type} (g : α → List V) (H : Hp) (v : V) (x : α) : Prop := ∃ b, v = .ref b ∧ H b = some (.lst (g x))
theorem RL.ls {α : Type} {f : α → List Str} {H : Hp} {z : List (V × α)} {a : Addr} {l : List α} (h : H a = some (.lst (z.map Prod.fst))) (e : z.map Prod.snd = l) (q : ZL (RL fun x => (f x).map V.str) H z) : LL LS H (.ref a) (l.map f) := by
  have h2 : z.map Prod.fst = (z.map fun x => (x.1, f x.2)).map Prod.fst := by rw [List.map_map]; rfl
  rw [h2] at h
  have := ZL.ll (r := LS) h fun x hx => by
    obtain ⟨y, hy, rfl⟩ := List.mem_map.mp hx
    exact q y hy
  rw [List.map_map] at this
  rw [← e, List.map_map]
  exact this
theorem RL.li {α : Type} {f : α → List Int} {H : Hp} {z : List (V × α)} {a : Addr} {l : List α} (h : H a = some (.lst (z.map Prod.fst))) (e : z.map Prod.snd = l) (q : ZL (RL fun x => (f x).map V.int) H z) : LL LI H (.ref a) (l.map f) := by
  have h2 : z.map Prod.fst = (z.map fun x => (x.1, f x.2)).map Prod.fst := by rw [List.map_map]; rfl
  rw [h2] at h
  have := ZL.ll (r := LI) h fun x hx => by
    obtain ⟨y, hy, rfl⟩ := List.mem_map.mp hx
    exact q y hy
  rw [List.map_map] at this
  rw [← e, List.map_map]
  exact this
theorem comp_new {α : Type} {J : It} {D : Addr} {te : TE} {τ : St} {H0 : Hp} {Q : VK} (l : List α) (φ : α → V) (g : α → List V) (hD : H0 D = none) (hz : l.length ≤ sizeLine)
    (hgo : ∀ i H, i < l.length → Same H0 H → J.go i H) (hst : ∀ H, Same H0 H → J.stop l.length H) (hy : ∀ i x H H2 (h : i < l.length), Same H0 H → J.yld i H x H2 → H2 = H ∧ x = φ l[i])
    (step : ∀ x ∈ l, ∀ H (N : V → Hp → Prop), Same H0 H → (∀ b H4, Same H H4 → H b = none → H4 b = some (.lst (g x)) → N (.ref b) H4) → te (some (φ x) :: τ) H N)
    (fin : ∀ H' z, H' D = some (.lst (z.map Prod.fst)) → Same H0 H' → z.map Prod.snd = l → ZL (RL g) (New H0 H') z → Q (.ref D) H') : CompL J D (gName 0) tTrue te (none :: τ) H0 Q := by
  refine comp_genL (n := l.length) (fun i σ H => ∃ y z, σ = y :: τ ∧ H D = some (.lst (z.map Prod.fst)) ∧ Same H0 H ∧ z.map Prod.snd = l.take i ∧ ZL (RL g) (hide D (New H0 H)) z) ?_ ?_ ?_ ?_ ?_
  · exact ⟨none, [], rfl, upd_same, same_upd hD, rfl, ZL.nil⟩
  · rintro i σ H hi ⟨y, z, rfl, _, s, _⟩
    exact hgo i H hi s
  · rintro σ H ⟨y, z, rfl, _, s, _⟩
    exact hst H s
  · rintro i x σ H H2 hi ⟨y, z, rfl, hd, s, ez, qz⟩ hyl N N0 hN hN0
    obtain ⟨rfl, rfl⟩ := hy i x H H2 hi s hyl
    have lz : z.length ≤ i := by
      have := congrArg List.length ez
      rw [List.length_map, List.length_take] at this
      omega
    refine tTrue_if (N := fun v H5 => N v (some (φ l[i]) :: τ) H5) (N0 := fun H4 => N0 (some (φ l[i]) :: τ) H4) (step _ (List.getElem_mem hi) H2 _ s fun b H4 s4 hb hb4 => ?_)
    have nb : b ≠ D := fun e => by rw [e, hd] at hb; cases hb
    refine hN _ _ H4 _ (s4 _ _ hd) (by rw [List.length_map]; omega) ⟨_, z ++ [(.ref b, l[i])], rfl, ?_, (SameX.upd (Same.x (s.trans s4))).same hD, ?_, ZL.app (fun x hx => ?_) (ZL.one ⟨b, rfl, hide_mk nb (New.mk (s.free hb) (by rw [upd_ne nb]; exact hb4))⟩)⟩
    · rw [upd_same, List.map_append]; rfl
    · rw [List.map_append, ez, List.take_succ_eq_append_getElem hi]; rfl
    · obtain ⟨c, ec, gc⟩ := qz x hx
      obtain ⟨nc, gc⟩ := hide_some gc
      obtain ⟨g1, g2⟩ := New.of gc
      exact ⟨c, ec, hide_mk nc (New.mk g1 (by rw [upd_ne nc]; exact s4 _ _ g2))⟩
  · rintro σ H ⟨y, z, rfl, hd, s, ez, qz⟩
    rw [List.take_length] at ez
    exact fin H z hd s ez fun x hx => let ⟨c, ec, gc⟩ := qz x hx; ⟨c, ec, hide_sub _ _ gc⟩
theorem comp_newL {α : Type} {K : PySem.W.Frag} {a D : Addr} {te : TE} {τ : St} {H0 : Hp} {Q : VK} (l : List α) (φ : α → V) (g : α → List V) (hD : H0 D = none) (hq : SqL K H0 a (l.map φ)) (hz : l.length ≤ sizeLine)
    (step : ∀ x ∈ l, ∀ H (N : V → Hp → Prop), Same H0 H → (∀ b H4, Same H H4 → H b = none → H4 b = some (.lst (g x)) → N (.ref b) H4) → te (some (φ x) :: τ) H N)
    (fin : ∀ H' z, H' D = some (.lst (z.map Prod.fst)) → Same H0 H' → z.map Prod.snd = l → ZL (RL g) (New H0 H') z → Q (.ref D) H') : CompL (Itl K a) D (gName 0) tTrue te (none :: τ) H0 Q := by
  refine comp_new l φ g hD hz (fun i H hi s => ⟨_, φ l[i], s.seq hq, by rw [List.getElem?_map, List.getElem?_eq_getElem hi]; rfl⟩) (fun H s => ⟨_, s.seq hq, by rw [List.length_map]; exact Nat.le_refl _⟩) (fun i x H H2 hi s hyl => ?_) step fin
  obtain ⟨rfl, hx⟩ := hyl
  have e := hx _ (s.seq hq)
  rw [List.getElem?_map, List.getElem?_eq_getElem hi] at e
  exact ⟨rfl, (Option.some.inj e).symm⟩
end L3

set_option Elab.async false
set_option linter.all false
set_option maxRecDepth 100000
set_option maxHeartbeats 4000000
namespace L3
open PySem PySem.Spec PyProof.Rows L2
/-! ### comprehensions with a test of which nothing is known: some of a list's things, in their order -/
theorem sub_step {α : Type} {l ss : List α} {i : Nat} (hi : i < l.length) (h : ss.Sublist (l.take i)) : ss.Sublist (l.take (i + 1)) ∧ (ss ++ [l[i]]).Sublist (l.take (i + 1)) := by
  rw [List.take_succ_eq_append_getElem hi]
  exact ⟨h.trans (List.sublist_append_left _ _), List.Sublist.append h (List.Sublist.refl _)⟩
theorem comp_subR {α : Type} {n : Nat} {D : Addr} {tt : TT} {te : TE} {τ : St} {H0 : Hp} {Q : VK} (l : List α) (f : α → V) (hn : l.length = n) (hD : H0 D = none) (hz : n ≤ 1000000)
    (step : ∀ (k : Nat) (hk : k < l.length) H (N : V → Hp → Prop) (N0 : Hp → Prop), Same H0 H → (∀ H4, Same H H4 → N (f l[k]) H4) → (∀ H4, Same H H4 → N0 H4) → tt (some (.int (k : Nat)) :: τ) H fun c H4 => if c = true then te (some (.int (k : Nat)) :: τ) H4 N else N0 H4)
    (fin : ∀ H' (ss : List α), H' D = some (.lst (ss.map f)) → Same H0 H' → ss.Sublist l → Q (.ref D) H') : CompL (Itr 0 n) D (gName 0) tt te (none :: τ) H0 Q := by
  subst hn
  refine comp_genL (n := l.length) (fun i σ H => ∃ (z : Option V) (ss : List α), σ = z :: τ ∧ H D = some (.lst (ss.map f)) ∧ Same H0 H ∧ ss.Sublist (l.take i)) ?_ (fun _ _ _ h _ => h) (fun _ _ _ => Nat.le_refl _) ?_ ?_
  · exact ⟨none, [], rfl, upd_same, same_upd hD, List.nil_sublist _⟩
  · rintro i x σ H H2 hi ⟨z, ss, rfl, hd, s, sb⟩ ⟨rfl, rfl⟩ N N0 hN hN0
    obtain ⟨g1, g2⟩ := sub_step hi sb
    have le : (ss.map f).length < sizeLine := by
      have := sb.length_le
      rw [List.length_take] at this
      rw [List.length_map, sizeLine_eq]; omega
    have ei : (0 : Int) + (i : Nat) = ((i : Nat) : Int) := Int.zero_add _
    rw [ei]
    refine step i hi H2 (fun v H5 => N v (some (.int (i : Nat)) :: τ) H5) (fun H4 => N0 (some (.int (i : Nat)) :: τ) H4) s (fun H4 s4 => ?_) (fun H4 s4 => ?_)
    · refine hN _ _ H4 _ (s4 _ _ hd) le ⟨_, ss ++ [l[i]], rfl, ?_, (SameX.upd (Same.x (s.trans s4))).same hD, g2⟩
      rw [upd_same, List.map_append]; rfl
    · exact hN0 _ H4 ⟨_, ss, rfl, s4 _ _ hd, s.trans s4, g1⟩
  · rintro σ H ⟨z, ss, rfl, hd, s, sb⟩
    rw [List.take_length] at sb
    exact fin H ss hd s sb
/-- over enumerate: [.. for k, x in enumerate(xs) if ..] -/
theorem comp_subE {α : Type} {K : PySem.W.Frag} {a D : Addr} {tt : TT} {te : TE} {τ : St} {H0 : Hp} {Q : VK} (l : List α) (f : α → V) (hD : H0 D = none) (hq : H0 a = some (.lst (l.map f))) (hz : l.length ≤ 1000000)
    (step : ∀ (k : Nat) (hk : k < l.length) H (N : V → Hp → Prop) (N0 : Hp → Prop), Same H0 H → (∀ H4, Same H H4 → N (f l[k]) H4) → (∀ H4, Same H H4 → N0 H4) → tt (some (.int (k : Nat)) :: some (f l[k]) :: τ) H fun c H4 => if c = true then te (some (.int (k : Nat)) :: some (f l[k]) :: τ) H4 N else N0 H4)
    (fin : ∀ H' (ss : List α), H' D = some (.lst (ss.map f)) → Same H0 H' → ss.Sublist l → Q (.ref D) H') : CompL (Ite K a) D (gTup K 2 (gCons (gName 0) (gCons (gName 1) gNil))) tt te (none :: none :: τ) H0 Q := by
  refine comp_genL (n := l.length) (fun i σ H => ∃ (z z' : Option V) (ss : List α), σ = z :: z' :: τ ∧ H D = some (.lst (ss.map f)) ∧ Same H0 H ∧ ss.Sublist (l.take i)) ?_ ?_ ?_ ?_ ?_
  · exact ⟨none, none, [], rfl, upd_same, same_upd hD, List.nil_sublist _⟩
  · rintro i σ H hi ⟨z, z', ss, rfl, hd, s, sb⟩
    exact ⟨_, _, SqL.of (s _ _ hq), List.getElem?_eq_getElem (by rw [List.length_map]; exact hi)⟩
  · rintro σ H ⟨z, z', ss, rfl, hd, s, sb⟩
    exact ⟨_, SqL.of (s _ _ hq), by rw [List.length_map]; exact Nat.le_refl _⟩
  · rintro i x σ H H2 hi ⟨z, z', ss, rfl, hd, s, sb⟩ ⟨p, v, rfl, hp, rfl, hv⟩ N N0 hN hN0
    obtain ⟨g1, g2⟩ := sub_step hi sb
    have le : (ss.map f).length < sizeLine := by
      have := sb.length_le
      rw [List.length_take] at this
      rw [List.length_map, sizeLine_eq]; omega
    have ev := hv _ (SqL.of (s _ _ hq))
    rw [List.getElem?_map, List.getElem?_eq_getElem hi] at ev
    have ev' : v = f l[i] := (Option.some.inj ev).symm
    subst ev'
    have sp := same_upd (o := .tup [.int (i : Nat), f l[i]]) hp
    have s2 := s.trans sp
    refine ⟨p, _, rfl, SqT.of upd_same, rfl, _, _, rfl, _, _, rfl, rfl, ?_⟩
    refine step i hi _ (fun v H5 => N v (some (.int (i : Nat)) :: some (f l[i]) :: τ) H5) (fun H4 => N0 (some (.int (i : Nat)) :: some (f l[i]) :: τ) H4) s2 (fun H4 s4 => ?_) (fun H4 s4 => ?_)
    · refine hN _ _ H4 _ (s4 _ _ (sp _ _ hd)) le ⟨_, _, ss ++ [l[i]], rfl, ?_, (SameX.upd (Same.x (s2.trans s4))).same hD, g2⟩
      rw [upd_same, List.map_append]; rfl
    · exact hN0 _ H4 ⟨_, _, ss, rfl, s4 _ _ (sp _ _ hd), s2.trans s4, g1⟩
  · rintro σ H ⟨z, z', ss, rfl, hd, s, sb⟩
    rw [List.take_length] at sb
    exact fin H ss hd s sb
/-- a place of a table of small numbers -/
theorem at_tab {l : List Int} (h : ∀ x ∈ l, 0 < x ∧ x ≤ 1000) {i : Nat} (hi : i < l.length) : ∃ j : Int, atI (l.map V.int) (i : Int) = some (.int j) ∧ 0 < j ∧ j ≤ 1000 :=
  ⟨l[i], atI_nat (by rw [List.getElem?_map, List.getElem?_eq_getElem hi]; rfl), h _ (List.getElem_mem hi)⟩
/-- the rooms up to n -/
def toRm (n : Nat) : List Int := (List.range n).map fun k : Nat => (k : Int)
theorem toRm_len (n : Nat) : (toRm n).length = n := by unfold toRm; rw [List.length_map, List.length_range]
theorem toRm_at {n k : Nat} (h : k < (toRm n).length) : (toRm n)[k] = (k : Int) := by
  have e : (toRm n)[k]? = some (k : Int) := by
    rw [toRm_len] at h
    unfold toRm
    rw [List.getElem?_map, List.getElem?_range h]; rfl
  rw [List.getElem?_eq_getElem h] at e
  exact Option.some.inj e
theorem toRm_nd (n : Nat) : (toRm n).Nodup := nodup_map (fun a b h => by omega) List.nodup_range
theorem toRm_b {n : Nat} {x : Int} (h : x ∈ toRm n) : 0 ≤ x ∧ x < (n : Nat) := by
  obtain ⟨k, hk, rfl⟩ := List.mem_map.mp h
  have := List.mem_range.mp hk
  exact ⟨by omega, by omega⟩
end L3

set_option Elab.async false
set_option linter.all false
set_option maxRecDepth 100000
set_option maxHeartbeats 8000000
namespace KK
open PySem PySem.Spec L2 L3
def top (i : Nat) : Stmt := PySem.Challenge.pw_timecourt_k63_no_branches.main.body.getD i (.Pass ⟨0, 0, 0, 0⟩)
abbrev s_is_whole : Stmt := top 16
abbrev s_is_name : Stmt := top 17
abbrev s_is_room : Stmt := top 18
abbrev s_are_names : Stmt := top 19
abbrev s_are_rooms : Stmt := top 20
abbrev s_last_ones : Stmt := top 21
abbrev s_is_formed : Stmt := top 25
abbrev s_inner_of : Stmt := top 26
abbrev s_inner_ahead : Stmt := top 27
abbrev s_rooms_by_sets : Stmt := top 30
abbrev s_turns : Stmt := top 31
abbrev s_refuse_others : Stmt := top 32
abbrev s_branch_kind : Stmt := top 33
abbrev s_World_init : Stmt := inClass (top 40) 0
abbrev s_World_many : Stmt := inClass (top 40) 1
abbrev s_World_signs_of : Stmt := inClass (top 40) 2
abbrev s_World_ways_on : Stmt := inClass (top 40) 3
abbrev s_World_begins : Stmt := inClass (top 40) 4
abbrev s_World_fair_signs : Stmt := inClass (top 40) 5
abbrev s_makes_world : Stmt := top 41
abbrev s_are_some_rooms : Stmt := top 42
abbrev s__law_cell_at : Stmt := top 44
abbrev s__law_stream : Stmt := top 45
abbrev s__law_names : Stmt := top 46
abbrev s__law_world : Stmt := top 47
abbrev s__law_made : Stmt := top 48
abbrev s__law_next : Stmt := top 49
abbrev s__law_branch : Stmt := top 50
abbrev s__law_none : Stmt := top 51
abbrev s__law_bad : Stmt := top 52
abbrev s__law_put_in : Stmt := top 53
abbrev s__law_refused : Stmt := top 54
abbrev s_law : Stmt := top 55
theorem sc_is_whole : FnScope ["thing"] ["thing"] (defScope s_is_whole) := ⟨rfl, rfl, rfl, by decide +kernel, rfl, by decide +kernel, by decide +kernel⟩
theorem sc_is_name : FnScope ["thing"] ["thing"] (defScope s_is_name) := ⟨rfl, rfl, rfl, by decide +kernel, rfl, by decide +kernel, by decide +kernel⟩
theorem sc_is_room : FnScope ["thing", "many"] ["thing", "many"] (defScope s_is_room) := ⟨rfl, rfl, rfl, by decide +kernel, rfl, by decide +kernel, by decide +kernel⟩
theorem sc_are_names : FnScope ["thing"] ["thing"] (defScope s_are_names) := ⟨rfl, rfl, rfl, by decide +kernel, rfl, by decide +kernel, by decide +kernel⟩
theorem sc_are_rooms : FnScope ["thing", "many"] ["thing", "many"] (defScope s_are_rooms) := ⟨rfl, rfl, rfl, by decide +kernel, rfl, by decide +kernel, by decide +kernel⟩
theorem sc_last_ones : FnScope ["things", "many", "start", "taken"] ["things", "many"] (defScope s_last_ones) := ⟨rfl, rfl, rfl, by decide +kernel, rfl, by decide +kernel, by decide +kernel⟩
theorem sc_is_formed : FnScope ["thing", "word"] ["thing"] (defScope s_is_formed) := ⟨rfl, rfl, rfl, by decide +kernel, rfl, by decide +kernel, by decide +kernel⟩
theorem sc_inner_of : FnScope ["sentence", "word"] ["sentence"] (defScope s_inner_of) := ⟨rfl, rfl, rfl, by decide +kernel, rfl, by decide +kernel, by decide +kernel⟩
theorem sc_inner_ahead : FnScope ["sentence", "found", "waiting", "one"] ["sentence"] (defScope s_inner_ahead) := ⟨rfl, rfl, rfl, by decide +kernel, rfl, by decide +kernel, by decide +kernel⟩
theorem sc_rooms_by_sets : FnScope ["world", "sentence", "row", "sets"] ["world", "sentence"] (defScope s_rooms_by_sets) := ⟨rfl, rfl, rfl, by decide +kernel, rfl, by decide +kernel, by decide +kernel⟩
theorem sc_turns : FnScope ["world", "one", "other", "rows", "row", "sets", "along", "goal", "numbers", "near", "far", "turn", "room"] ["world", "one", "other"] (defScope s_turns) := ⟨rfl, rfl, rfl, by decide +kernel, rfl, by decide +kernel, by decide +kernel⟩
theorem sc_refuse_others : FnScope ["row", "found", "one", "inner"] ["row"] (defScope s_refuse_others) := ⟨rfl, rfl, rfl, by decide +kernel, rfl, by decide +kernel, by decide +kernel⟩
theorem sc_branch_kind : FnScope ["word", "inner", "wanted"] ["word", "inner"] (defScope s_branch_kind) := ⟨rfl, rfl, rfl, by decide +kernel, rfl, by decide +kernel, by decide +kernel⟩
theorem sc_World_init : FnScope ["self", "signs", "ways", "starts", "fair"] ["self", "signs", "ways", "starts", "fair"] (defScope s_World_init) := ⟨rfl, rfl, rfl, by decide +kernel, rfl, by decide +kernel, by decide +kernel⟩
theorem sc_World_many : FnScope ["self"] ["self"] (defScope s_World_many) := ⟨rfl, rfl, rfl, by decide +kernel, rfl, by decide +kernel, by decide +kernel⟩
theorem sc_World_signs_of : FnScope ["self", "room"] ["self", "room"] (defScope s_World_signs_of) := ⟨rfl, rfl, rfl, by decide +kernel, rfl, by decide +kernel, by decide +kernel⟩
theorem sc_World_ways_on : FnScope ["self", "room"] ["self", "room"] (defScope s_World_ways_on) := ⟨rfl, rfl, rfl, by decide +kernel, rfl, by decide +kernel, by decide +kernel⟩
theorem sc_World_begins : FnScope ["self"] ["self"] (defScope s_World_begins) := ⟨rfl, rfl, rfl, by decide +kernel, rfl, by decide +kernel, by decide +kernel⟩
theorem sc_World_fair_signs : FnScope ["self"] ["self"] (defScope s_World_fair_signs) := ⟨rfl, rfl, rfl, by decide +kernel, rfl, by decide +kernel, by decide +kernel⟩
theorem sc_makes_world : FnScope ["signs", "ways", "starts", "fair", "many"] ["signs", "ways", "starts", "fair"] (defScope s_makes_world) := ⟨rfl, rfl, rfl, by decide +kernel, rfl, by decide +kernel, by decide +kernel⟩
theorem sc_are_some_rooms : FnScope ["thing", "many"] ["thing", "many"] (defScope s_are_some_rooms) := ⟨rfl, rfl, rfl, by decide +kernel, rfl, by decide +kernel, by decide +kernel⟩
theorem sc__law_cell_at : FnScope ["_law_script", "_law_k"] ["_law_script", "_law_k"] (defScope s__law_cell_at) := ⟨rfl, rfl, rfl, by decide +kernel, rfl, by decide +kernel, by decide +kernel⟩
theorem sc__law_stream : FnScope ["_law_cell", "_law_many", "_law_found", "_law_rest", "_law_number", "_law_k"] ["_law_cell", "_law_many"] (defScope s__law_stream) := ⟨rfl, rfl, rfl, by decide +kernel, rfl, by decide +kernel, by decide +kernel⟩
theorem sc__law_names : FnScope ["_law_cell", "_law_letters", "_law_xs"] ["_law_cell"] (defScope s__law_names) := ⟨rfl, rfl, rfl, by decide +kernel, rfl, by decide +kernel, by decide +kernel⟩
theorem sc__law_world : FnScope ["_law_script", "_law_names_here", "_law_xs", "_law_many", "_law_signs", "_law_ways", "_law_room", "_law_on", "_law_starts", "_law_fair"] ["_law_script"] (defScope s__law_world) := ⟨rfl, rfl, rfl, by decide +kernel, rfl, by decide +kernel, by decide +kernel⟩
theorem sc__law_made : FnScope ["_law_spec", "_law_signs", "_law_ways", "_law_starts", "_law_fair", "_law_names_here"] ["_law_spec"] (defScope s__law_made) := ⟨rfl, rfl, rfl, by decide +kernel, rfl, by decide +kernel, by decide +kernel⟩
theorem sc__law_next : FnScope ["_law_xs"] ["_law_xs"] (defScope s__law_next) := ⟨rfl, rfl, rfl, by decide +kernel, rfl, by decide +kernel, by decide +kernel⟩
theorem sc__law_branch : FnScope ["_law_names_here", "_law_xs", "_law_deep", "_law_way", "_law_many", "_law_word", "_law_one", "_law_part"] ["_law_names_here", "_law_xs", "_law_deep"] (defScope s__law_branch) := ⟨rfl, rfl, rfl, by decide +kernel, rfl, by decide +kernel, by decide +kernel⟩
theorem sc__law_none : FnScope ["_law_names_here", "_law_xs", "_law_sign", "_law_on", "_law_parts", "_law_part"] ["_law_names_here", "_law_xs"] (defScope s__law_none) := ⟨rfl, rfl, rfl, by decide +kernel, rfl, by decide +kernel, by decide +kernel⟩
theorem sc__law_bad : FnScope ["_law_names_here", "_law_xs", "_law_sign", "_law_bad_here"] ["_law_names_here", "_law_xs"] (defScope s__law_bad) := ⟨rfl, rfl, rfl, by decide +kernel, rfl, by decide +kernel, by decide +kernel⟩
theorem sc__law_put_in : FnScope ["_law_names_here", "_law_xs", "_law_thing", "_law_k", "_law_way", "_law_good"] ["_law_names_here", "_law_xs", "_law_thing"] (defScope s__law_put_in) := ⟨rfl, rfl, rfl, by decide +kernel, rfl, by decide +kernel, by decide +kernel⟩
theorem sc__law_refused : FnScope ["_law_way", "_law_world_here", "_law_thing", "_law_good", "_law_found", "e", "_law_others"] ["_law_way", "_law_world_here", "_law_thing", "_law_good"] (defScope s__law_refused) := ⟨rfl, rfl, rfl, by decide +kernel, rfl, by decide +kernel, by decide +kernel⟩
theorem sc_law : FnScope ["_law_script", "_law_spec", "_law_world_here", "_law_xs", "_law_good", "_law_none_here", "_law_bad_here", "_law_way", "_law_first", "_law_second"] ["_law_script"] (defScope s_law) := ⟨rfl, rfl, rfl, by decide +kernel, rfl, by decide +kernel, by decide +kernel⟩
set_option genInjectivity false
structure Adr where
  is_whole : Addr
  is_whole_fd : FuncData
  is_name : Addr
  is_name_fd : FuncData
  is_room : Addr
  is_room_fd : FuncData
  are_names : Addr
  are_names_fd : FuncData
  are_rooms : Addr
  are_rooms_fd : FuncData
  last_ones : Addr
  last_ones_fd : FuncData
  is_formed : Addr
  is_formed_fd : FuncData
  inner_of : Addr
  inner_of_fd : FuncData
  inner_ahead : Addr
  inner_ahead_fd : FuncData
  rooms_by_sets : Addr
  rooms_by_sets_fd : FuncData
  turns : Addr
  turns_fd : FuncData
  refuse_others : Addr
  refuse_others_fd : FuncData
  branch_kind : Addr
  branch_kind_fd : FuncData
  World_init : Addr
  World_init_fd : FuncData
  World_many : Addr
  World_many_fd : FuncData
  World_signs_of : Addr
  World_signs_of_fd : FuncData
  World_ways_on : Addr
  World_ways_on_fd : FuncData
  World_begins : Addr
  World_begins_fd : FuncData
  World_fair_signs : Addr
  World_fair_signs_fd : FuncData
  makes_world : Addr
  makes_world_fd : FuncData
  are_some_rooms : Addr
  are_some_rooms_fd : FuncData
  _law_cell_at : Addr
  _law_cell_at_fd : FuncData
  _law_stream : Addr
  _law_stream_fd : FuncData
  _law_names : Addr
  _law_names_fd : FuncData
  _law_world : Addr
  _law_world_fd : FuncData
  _law_made : Addr
  _law_made_fd : FuncData
  _law_next : Addr
  _law_next_fd : FuncData
  _law_branch : Addr
  _law_branch_fd : FuncData
  _law_none : Addr
  _law_none_fd : FuncData
  _law_bad : Addr
  _law_bad_fd : FuncData
  _law_put_in : Addr
  _law_put_in_fd : FuncData
  _law_refused : Addr
  _law_refused_fd : FuncData
  law : Addr
  law_fd : FuncData
  C_TimeError : Addr
  C_BadWorld : Addr
  C_BadSentence : Addr
  C_BadMachine : Addr
  C_TooMany : Addr
  C_NoBranch : Addr
  C_OtherFair : Addr
  C_NoAhead : Addr
  C_NoText : Addr
  C_NoLine : Addr
  C_NoWorld : Addr
  C_World : Addr
  D_LENGTHS : Addr
  Y_WAY_WORDS : Addr
  Pm : Params
structure Txt (K : PySem.W.Frag) (mg : Str → Option Value) (a : Adr) : Prop where
  f_is_whole : Fun K "is_whole" "is_whole" s_is_whole a.is_whole a.is_whole_fd
  n_is_whole : Binds K a.is_whole_fd ["thing"] []
  g_is_whole : mg "is_whole" = some (.ref a.is_whole)
  f_is_name : Fun K "is_name" "is_name" s_is_name a.is_name a.is_name_fd
  n_is_name : Binds K a.is_name_fd ["thing"] []
  g_is_name : mg "is_name" = some (.ref a.is_name)
  f_is_room : Fun K "is_room" "is_room" s_is_room a.is_room a.is_room_fd
  n_is_room : Binds K a.is_room_fd ["thing", "many"] []
  g_is_room : mg "is_room" = some (.ref a.is_room)
  f_are_names : Fun K "are_names" "are_names" s_are_names a.are_names a.are_names_fd
  n_are_names : Binds K a.are_names_fd ["thing"] []
  g_are_names : mg "are_names" = some (.ref a.are_names)
  f_are_rooms : Fun K "are_rooms" "are_rooms" s_are_rooms a.are_rooms a.are_rooms_fd
  n_are_rooms : Binds K a.are_rooms_fd ["thing", "many"] []
  g_are_rooms : mg "are_rooms" = some (.ref a.are_rooms)
  f_last_ones : Fun K "last_ones" "last_ones" s_last_ones a.last_ones a.last_ones_fd
  n_last_ones : Binds K a.last_ones_fd ["things", "many"] []
  g_last_ones : mg "last_ones" = some (.ref a.last_ones)
  f_is_formed : Fun K "is_formed" "is_formed" s_is_formed a.is_formed a.is_formed_fd
  n_is_formed : Binds K a.is_formed_fd ["thing"] []
  g_is_formed : mg "is_formed" = some (.ref a.is_formed)
  f_inner_of : Fun K "inner_of" "inner_of" s_inner_of a.inner_of a.inner_of_fd
  n_inner_of : Binds K a.inner_of_fd ["sentence"] []
  g_inner_of : mg "inner_of" = some (.ref a.inner_of)
  f_inner_ahead : Fun K "inner_ahead" "inner_ahead" s_inner_ahead a.inner_ahead a.inner_ahead_fd
  n_inner_ahead : Binds K a.inner_ahead_fd ["sentence"] []
  g_inner_ahead : mg "inner_ahead" = some (.ref a.inner_ahead)
  f_rooms_by_sets : Fun K "rooms_by_sets" "rooms_by_sets" s_rooms_by_sets a.rooms_by_sets a.rooms_by_sets_fd
  n_rooms_by_sets : Binds K a.rooms_by_sets_fd ["world", "sentence"] []
  g_rooms_by_sets : mg "rooms_by_sets" = some (.ref a.rooms_by_sets)
  f_turns : Fun K "turns" "turns" s_turns a.turns a.turns_fd
  n_turns : Binds K a.turns_fd ["world", "one", "other"] []
  g_turns : mg "turns" = some (.ref a.turns)
  f_refuse_others : Fun K "refuse_others" "refuse_others" s_refuse_others a.refuse_others a.refuse_others_fd
  n_refuse_others : Binds K a.refuse_others_fd ["row"] []
  g_refuse_others : mg "refuse_others" = some (.ref a.refuse_others)
  f_branch_kind : Fun K "branch_kind" "branch_kind" s_branch_kind a.branch_kind a.branch_kind_fd
  n_branch_kind : Binds K a.branch_kind_fd ["word", "inner"] []
  g_branch_kind : mg "branch_kind" = some (.ref a.branch_kind)
  f_World_init : Fun K "__init__" "World.__init__" s_World_init a.World_init a.World_init_fd
  n_World_init : Binds K a.World_init_fd ["self", "signs", "ways", "starts", "fair"] []
  m_World_init : Meth K a.C_World "__init__" a.World_init
  f_World_many : Fun K "many" "World.many" s_World_many a.World_many a.World_many_fd
  n_World_many : Binds K a.World_many_fd ["self"] []
  m_World_many : Meth K a.C_World "many" a.World_many
  f_World_signs_of : Fun K "signs_of" "World.signs_of" s_World_signs_of a.World_signs_of a.World_signs_of_fd
  n_World_signs_of : Binds K a.World_signs_of_fd ["self", "room"] []
  m_World_signs_of : Meth K a.C_World "signs_of" a.World_signs_of
  f_World_ways_on : Fun K "ways_on" "World.ways_on" s_World_ways_on a.World_ways_on a.World_ways_on_fd
  n_World_ways_on : Binds K a.World_ways_on_fd ["self", "room"] []
  m_World_ways_on : Meth K a.C_World "ways_on" a.World_ways_on
  f_World_begins : Fun K "begins" "World.begins" s_World_begins a.World_begins a.World_begins_fd
  n_World_begins : Binds K a.World_begins_fd ["self"] []
  m_World_begins : Meth K a.C_World "begins" a.World_begins
  f_World_fair_signs : Fun K "fair_signs" "World.fair_signs" s_World_fair_signs a.World_fair_signs a.World_fair_signs_fd
  n_World_fair_signs : Binds K a.World_fair_signs_fd ["self"] []
  m_World_fair_signs : Meth K a.C_World "fair_signs" a.World_fair_signs
  f_makes_world : Fun K "makes_world" "makes_world" s_makes_world a.makes_world a.makes_world_fd
  n_makes_world : Binds K a.makes_world_fd ["signs", "ways", "starts", "fair"] []
  g_makes_world : mg "makes_world" = some (.ref a.makes_world)
  f_are_some_rooms : Fun K "are_some_rooms" "are_some_rooms" s_are_some_rooms a.are_some_rooms a.are_some_rooms_fd
  n_are_some_rooms : Binds K a.are_some_rooms_fd ["thing", "many"] []
  g_are_some_rooms : mg "are_some_rooms" = some (.ref a.are_some_rooms)
  f__law_cell_at : Fun K "_law_cell_at" "_law_cell_at" s__law_cell_at a._law_cell_at a._law_cell_at_fd
  n__law_cell_at : Binds K a._law_cell_at_fd ["_law_script", "_law_k"] []
  g__law_cell_at : mg "_law_cell_at" = some (.ref a._law_cell_at)
  f__law_stream : Fun K "_law_stream" "_law_stream" s__law_stream a._law_stream a._law_stream_fd
  n__law_stream : Binds K a._law_stream_fd ["_law_cell", "_law_many"] []
  g__law_stream : mg "_law_stream" = some (.ref a._law_stream)
  f__law_names : Fun K "_law_names" "_law_names" s__law_names a._law_names a._law_names_fd
  n__law_names : Binds K a._law_names_fd ["_law_cell"] []
  g__law_names : mg "_law_names" = some (.ref a._law_names)
  f__law_world : Fun K "_law_world" "_law_world" s__law_world a._law_world a._law_world_fd
  n__law_world : Binds K a._law_world_fd ["_law_script"] []
  g__law_world : mg "_law_world" = some (.ref a._law_world)
  f__law_made : Fun K "_law_made" "_law_made" s__law_made a._law_made a._law_made_fd
  n__law_made : Binds K a._law_made_fd ["_law_spec"] []
  g__law_made : mg "_law_made" = some (.ref a._law_made)
  f__law_next : Fun K "_law_next" "_law_next" s__law_next a._law_next a._law_next_fd
  n__law_next : Binds K a._law_next_fd ["_law_xs"] []
  g__law_next : mg "_law_next" = some (.ref a._law_next)
  f__law_branch : Fun K "_law_branch" "_law_branch" s__law_branch a._law_branch a._law_branch_fd
  n__law_branch : Binds K a._law_branch_fd ["_law_names_here", "_law_xs", "_law_deep"] []
  g__law_branch : mg "_law_branch" = some (.ref a._law_branch)
  f__law_none : Fun K "_law_none" "_law_none" s__law_none a._law_none a._law_none_fd
  n__law_none : Binds K a._law_none_fd ["_law_names_here", "_law_xs"] []
  g__law_none : mg "_law_none" = some (.ref a._law_none)
  f__law_bad : Fun K "_law_bad" "_law_bad" s__law_bad a._law_bad a._law_bad_fd
  n__law_bad : Binds K a._law_bad_fd ["_law_names_here", "_law_xs"] []
  g__law_bad : mg "_law_bad" = some (.ref a._law_bad)
  f__law_put_in : Fun K "_law_put_in" "_law_put_in" s__law_put_in a._law_put_in a._law_put_in_fd
  n__law_put_in : Binds K a._law_put_in_fd ["_law_names_here", "_law_xs", "_law_thing"] []
  g__law_put_in : mg "_law_put_in" = some (.ref a._law_put_in)
  f__law_refused : Fun K "_law_refused" "_law_refused" s__law_refused a._law_refused a._law_refused_fd
  n__law_refused : Binds K a._law_refused_fd ["_law_way", "_law_world_here", "_law_thing", "_law_good"] []
  g__law_refused : mg "_law_refused" = some (.ref a._law_refused)
  f_law : Fun K "law" "law" s_law a.law a.law_fd
  n_law : Binds K a.law_fd ["_law_script"] []
  g_law : mg "law" = some (.ref a.law)
  b_ValueError : mg "ValueError" = none
  b_all : mg "all" = none
  b_sum : mg "sum" = none
  b_len : mg "len" = none
  b_range : mg "range" = none
  b_isinstance : mg "isinstance" = none
  b_int : mg "int" = none
  b_list : mg "list" = none
  b_tuple : mg "tuple" = none
  b_bool : mg "bool" = none
  b_str : mg "str" = none
  b_set : mg "set" = none
  b_sorted : mg "sorted" = none
  b_enumerate : mg "enumerate" = none
  c_LETTERS : ∃ u, mg "LETTERS" = some u ∧ RelV (.str "abcdefghijklmnopqrstuvwxyz") u
  c_MOST_LETTERS : ∃ u, mg "MOST_LETTERS" = some u ∧ RelV (.int 8) u
  c_MOST_WITHIN : ∃ u, mg "MOST_WITHIN" = some u ∧ RelV (.int 5) u
  c_MOST_ROOMS : ∃ u, mg "MOST_ROOMS" = some u ∧ RelV (.int 20) u
  c_MOST_FAIR : ∃ u, mg "MOST_FAIR" = some u ∧ RelV (.int 3) u
  g_TimeError : mg "TimeError" = some (.ref a.C_TimeError)
  x_TimeError : PySem.W.excIn K a.C_TimeError [.type "ValueError", .type "Exception", .type "BaseException", .type "object"] "ValueError.__new__" = true
  g_BadWorld : mg "BadWorld" = some (.ref a.C_BadWorld)
  x_BadWorld : PySem.W.excIn K a.C_BadWorld [.type "ValueError", .type "Exception", .type "BaseException", .type "object"] "ValueError.__new__" = true
  g_BadSentence : mg "BadSentence" = some (.ref a.C_BadSentence)
  x_BadSentence : PySem.W.excIn K a.C_BadSentence [.type "ValueError", .type "Exception", .type "BaseException", .type "object"] "ValueError.__new__" = true
  g_BadMachine : mg "BadMachine" = some (.ref a.C_BadMachine)
  x_BadMachine : PySem.W.excIn K a.C_BadMachine [.type "ValueError", .type "Exception", .type "BaseException", .type "object"] "ValueError.__new__" = true
  g_TooMany : mg "TooMany" = some (.ref a.C_TooMany)
  x_TooMany : PySem.W.excIn K a.C_TooMany [.type "ValueError", .type "Exception", .type "BaseException", .type "object"] "ValueError.__new__" = true
  g_NoBranch : mg "NoBranch" = some (.ref a.C_NoBranch)
  x_NoBranch : PySem.W.excIn K a.C_NoBranch [.type "ValueError", .type "Exception", .type "BaseException", .type "object"] "ValueError.__new__" = true
  g_OtherFair : mg "OtherFair" = some (.ref a.C_OtherFair)
  x_OtherFair : PySem.W.excIn K a.C_OtherFair [.type "ValueError", .type "Exception", .type "BaseException", .type "object"] "ValueError.__new__" = true
  g_NoAhead : mg "NoAhead" = some (.ref a.C_NoAhead)
  x_NoAhead : PySem.W.excIn K a.C_NoAhead [.type "ValueError", .type "Exception", .type "BaseException", .type "object"] "ValueError.__new__" = true
  g_NoText : mg "NoText" = some (.ref a.C_NoText)
  x_NoText : PySem.W.excIn K a.C_NoText [.type "ValueError", .type "Exception", .type "BaseException", .type "object"] "ValueError.__new__" = true
  g_NoLine : mg "NoLine" = some (.ref a.C_NoLine)
  x_NoLine : PySem.W.excIn K a.C_NoLine [.type "ValueError", .type "Exception", .type "BaseException", .type "object"] "ValueError.__new__" = true
  g_NoWorld : mg "NoWorld" = some (.ref a.C_NoWorld)
  x_NoWorld : PySem.W.excIn K a.C_NoWorld [.type "ValueError", .type "Exception", .type "BaseException", .type "object"] "ValueError.__new__" = true
  k_BadWorld : ExcK K a.C_BadWorld
  k_BadSentence : ExcK K a.C_BadSentence
  k_NoBranch : ExcK K a.C_NoBranch
  nk_signs : PySem.W.nsIn K a.D_LENGTHS "signs" = some none
  nk_Next : PySem.W.nsIn K a.D_LENGTHS "Next" = some none
  nk_maybe : PySem.W.nsIn K a.D_LENGTHS "maybe" = some none
  ex_NoBranch : PySem.W.exmOne K (.ref a.C_NoBranch) (.ref a.C_NoBranch) = some true
  ex_BadSentence : PySem.W.exmOne K (.ref a.C_BadSentence) (.ref a.C_BadSentence) = some true
  sb_NoBranch : PySem.W.subIn K (.ref a.C_NoBranch) (.type "BaseException") = some true
  ne_BS_NB : (Value.ref a.C_BadSentence == Value.ref a.C_NoBranch) = false
  nk_BadSentence_NoBranch : PySem.W.kitOne K (.ref a.C_BadSentence) (.ref a.C_NoBranch) = some false
  nk_NoBranch_BadSentence : PySem.W.kitOne K (.ref a.C_NoBranch) (.ref a.C_BadSentence) = some false
  nk_NoBranch_BadWorld : PySem.W.kitOne K (.ref a.C_NoBranch) (.ref a.C_BadWorld) = some false
  nk_NoBranch_NoAhead : PySem.W.kitOne K (.ref a.C_NoBranch) (.ref a.C_NoAhead) = some false
  nk_NoBranch_TooMany : PySem.W.kitOne K (.ref a.C_NoBranch) (.ref a.C_TooMany) = some false
  nk_BadSentence_BadWorld : PySem.W.kitOne K (.ref a.C_BadSentence) (.ref a.C_BadWorld) = some false
  nk_BadSentence_NoAhead : PySem.W.kitOne K (.ref a.C_BadSentence) (.ref a.C_NoAhead) = some false
  nk_BadSentence_TooMany : PySem.W.kitOne K (.ref a.C_BadSentence) (.ref a.C_TooMany) = some false
  n5_NoBranch : PySem.W.kitAny K (.ref a.C_NoBranch) [.ref a.C_BadMachine, .ref a.C_NoLine, .ref a.C_NoText, .ref a.C_NoWorld, .ref a.C_OtherFair] = some false
  i1_NoBranch : PySem.W.kitOne K (.ref a.C_NoBranch) (.ref a.C_TimeError) = some true
  i3_NoBranch : PySem.W.kitOne K (.ref a.C_NoBranch) (.type "ValueError") = some true
  i1_BadSentence : PySem.W.kitOne K (.ref a.C_BadSentence) (.ref a.C_TimeError) = some true
  i3_BadSentence : PySem.W.kitOne K (.ref a.C_BadSentence) (.type "ValueError") = some true
  g_WAY_WORDS : mg "WAY_WORDS" = some (.ref a.Y_WAY_WORDS)
  y_WAY_WORDS : ∀ H : Hp, SqT K H a.Y_WAY_WORDS [.str "next", .str "until", .str "always", .str "ever", .str "within"]
  g_LENGTHS : mg "LENGTHS" = some (.ref a.D_LENGTHS)
  d_LENGTHS : DicK K a.Pm a.D_LENGTHS [("all", 2), ("some", 2), ("not", 2), ("next", 2), ("always", 2), ("ever", 2), ("before", 2), ("once", 2), ("sofar", 2), ("until", 3), ("since", 3)]
  cl_World : Cls K a.C_World
  g_World : mg "World" = some (.ref a.C_World)
  mk_World : Mk K a.C_World a.World_init
  ic_World : PySem.W.kitOne K (.ref a.C_World) (.ref a.C_World) = some true
  t1_World : PySem.W.findIn K (.ref a.C_World) "__class__" = some (some (.builtin "object.__class__"))
  t2_World : PySem.W.specialIn K (.builtin "object.__class__") "__get__" = some (some (.builtin "getset_descriptor.__get__"))
  t3_World : PySem.W.takesIn K (.builtin "object.__class__") = some true
  t4_World : PySem.W.mroIn K a.C_World (.type "object") = some true
  na_World_room_signs : NoAttr K a.C_World "room_signs"
  na_World_room_ways : NoAttr K a.C_World "room_ways"
  na_World_start_rooms : NoAttr K a.C_World "start_rooms"
  na_World_fair_names : NoAttr K a.C_World "fair_names"
end KK

set_option Elab.async false
set_option linter.all false
set_option maxRecDepth 100000
set_option maxHeartbeats 8000000
namespace KK
open PySem PySem.Spec L2 L3
def sp_is_whole (K : PySem.W.Frag) (a : Adr) : Sp := fun vs H Q _ => ∃ x, vs = [x] ∧ Kd H x ∧ Q (.bl (isIntV x)) H
theorem ok_is_whole {P : Program} {w : World} {K : PySem.W.Frag} {mg : Str → Option Value} {base : Heap} {a : Adr} (T : Txt K mg a) (hw : w.params = a.Pm) : FnOk P w K mg base CX0 1 a.is_whole a.is_whole_fd ["thing"] (sp_is_whole K a) := by
  refine T.f_is_whole.ok sc_is_whole (fun vs H Q E h => ?_) (fun cdv A outer s H vs Q E hr h => ?_)
  · obtain ⟨x, rfl, _⟩ := h
    rfl
  · obtain ⟨x, rfl, hk, k⟩ := h
    refine ⟨_, (@pss_one _ _ _ (@ps_ret _ _ _ _ (pe_and (pe_callB (call_isiK (K := K) rfl "int") rfl T.b_isinstance PyProof.Rows.Boot.«isinstance» (@pa_cons _ _ _ _ _ (pv 0)
      (@pa_cons _ _ _ _ _ (pe_bltn (v := .ty "int") rfl T.b_int PyProof.Rows.Boot.«int» rfl)
      pa_nil
      (by rfl))
      (by rfl))) (pe_one (pe_not (pe_callB (call_isiK (K := K) rfl "bool") rfl T.b_isinstance PyProof.Rows.Boot.«isinstance» (@pa_cons _ _ _ _ _ (pv 0)
      (@pa_cons _ _ _ _ _ (pe_bltn (v := .ty "bool") rfl T.b_bool PyProof.Rows.Boot.«bool» rfl)
      pa_nil
      (by rfl))
      (by rfl)))))))), ?_⟩
    cases hb : isTy H "int" x with
    | false =>
      obtain ⟨t, h1, h2⟩ := isi_f K (by simp) hk hb
      have e : isIntV x = false := by cases hk <;> first | rfl | (simp [isTy] at hb)
      rw [e] at k
      exact ⟨_, rfl, _, t, _, rfl, h1, h2, _, rfl, iteF k⟩
    | true =>
      obtain ⟨t, h1, h2⟩ := isi_f K (by simp) hk hb
      obtain ⟨u, h3, h4⟩ := isi_f K (T := "bool") (by simp) hk rfl
      have e : isIntV x = !isTy H "bool" x := by
        cases hk with
        | lst e => simp [isTy, e] at hb
        | tup e => simp [isTy, e] at hb
        | dK e => simp [isTy, e] at hb
        | non => simp [isTy] at hb
        | str z hz => simp [isTy] at hb
        | bl b => rfl
        | int i => rfl
      rw [e] at k
      exact ⟨_, rfl, _, t, _, rfl, h1, h2, _, rfl, iteT ⟨_, rfl, _, u, _, rfl, h3, h4, _, rfl, k⟩⟩
def sp_is_name (K : PySem.W.Frag) (a : Adr) : Sp := fun vs H Q _ => ∃ x, vs = [x] ∧ Kd H x ∧ ∀ H', Same H H' → Q (.bl (isNameV x)) H'
theorem ok_is_name {P : Program} {w : World} {K : PySem.W.Frag} {mg : Str → Option Value} {base : Heap} {a : Adr} (T : Txt K mg a) (hw : w.params = a.Pm) : FnOk P w K mg base CX0 1 a.is_name a.is_name_fd ["thing"] (sp_is_name K a) := by
  refine T.f_is_name.ok sc_is_name (fun vs H Q E h => ?_) (fun cdv A outer s H vs Q E hr h => ?_)
  · obtain ⟨x, rfl, _⟩ := h
    rfl
  · obtain ⟨x, rfl, hk, k⟩ := h
    refine ⟨_, (@pss_cons _ _ _ _ _ (@ps_if _ _ _ _ _ _ _ _ (PW.pt (pw_or (@pt_not _ _ _ _ (pt_val (pe_callB (call_isiK (K := K) rfl "str") rfl T.b_isinstance PyProof.Rows.Boot.«isinstance» (@pa_cons _ _ _ _ _ (pv 0)
      (@pa_cons _ _ _ _ _ (pe_bltn (v := .ty "str") rfl T.b_str PyProof.Rows.Boot.«str» rfl)
      pa_nil
      (by rfl))
      (by rfl))))) (pw_or1 (@pt_not _ _ _ _ (pt_chain op_le op_le pe_int (pe_callB (call_lenK (K := K) rfl) rfl T.b_len PyProof.Rows.Boot.«len» (@pa_cons _ _ _ _ _ (pv 0)
      pa_nil
      (by rfl))) (pe_gc rfl T.c_MOST_LETTERS))))))
      (@pss_one _ _ _ (@ps_ret _ _ _ _ pe_bl))
      pss_nil)
      (@pss_one _ _ _ (@ps_ret _ _ _ _ (pe_callB (call_allK (K := K) rfl rfl) rfl T.b_all PyProof.Rows.Boot.«all» (@pa_cons _ _ _ _ _ (pe_compL (Nc := ["letter"]) (ix := [none]) (CompOk.of (by decide +kernel : compChk (defScope s_is_name) ["thing"] ["letter"] [none] _ = true)) rfl (pi_str (pv 0)) (fun _ _ _ _ _ => (pg_name (i := 0) (show List.Nodup (["letter"] : List Str) by decide +kernel) rfl (Or.inl rfl))) (fun _ _ _ _ _ => pts_nil) (fun _ _ _ _ _ => (@pe_cmpR _ _ _ _ _ _ _ _ op_in_str
      (pv 0)
      (pe_gc rfl T.c_LETTERS)
      (by with_unfolding_all rfl))))
      pa_nil
      (by rfl)))))), ?_⟩
    rcases kd_str hk with ⟨hb, z, rfl, hz⟩ | ⟨hb, e⟩
    · obtain ⟨t, h1, h2⟩ := isi_f K (by simp) hk hb
      refine ⟨_, rfl, _, t, _, rfl, h1, h2, _, rfl, iteF ?_⟩
      refine ⟨_, rfl, .inr (.inl ⟨z, rfl, by rw [sizeLine_eq]; omega, _, _, rfl, rfl, _, rfl, ?_⟩)⟩
      have fin : decide (1 ≤ (z.length : Int)) = true → decide ((z.length : Int) ≤ 8) = true → isNameV (.str z) = z.cps.toList.all isLow := fun a b => by
        have a' := of_decide_eq_true a
        have b' := of_decide_eq_true b
        have a2 : 1 ≤ z.length := by omega
        have b2 : z.length ≤ 8 := by omega
        simp [isNameV, isNameS, a2, b2]
      have nof : ¬ ((1 : Int) ≤ z.length ∧ (z.length : Int) ≤ 8) → isNameV (.str z) = false := fun q => by
        have : ¬ (1 ≤ z.length ∧ z.length ≤ 8) := by omega
        simp only [isNameV, isNameS]
        by_cases h1 : 1 ≤ z.length
        · have h2 : ¬ z.length ≤ 8 := fun h2 => this ⟨h1, h2⟩
          simp [h1, h2]
        · simp [h1]
      refine ite2 (fun c1 => ?_) (fun c1 => ?_)
      · refine ⟨_, _, rfl, rfl, _, rfl, ?_⟩
        cases c2 : decide ((z.length : Int) ≤ 8) with
        | false =>
          refine iteT ?_
          have q := k H (.refl H)
          rw [nof (fun q => by have := of_decide_eq_false c2; omega)] at q
          exact q
        | true =>
          refine iteF ⟨_, rfl, z, rfl, fun D hD => ?_⟩
          refine comp_genL (J := Its z) (n := z.cps.size) (fun i σ H' => Same H H' ∧ H' D = some (.lst ((z.cps.toList.take i).map fun c => V.bl (isLow c))) ∧ ∃ y, σ = [y]) ?_ (fun i σ H' hi _ => hi) (fun σ H' _ => Nat.le_refl _) ?_ ?_
          · exact ⟨same_upd hD, upd_same, _, rfl⟩
          · rintro i x σ H' H2 hi ⟨sm, hl, y, rfl⟩ ⟨rfl, c, hc, rfl⟩ N N0 hN hN0
            refine ⟨_, rfl, _, _, rfl, rfl, ?_⟩
            have el := PySem.StrLaws.found_one ("abcdefghijklmnopqrstuvwxyz" : Str) c
            refine hN _ _ _ _ hl (by rw [List.length_map, List.length_take, sizeLine_eq]; have : z.cps.size = z.length := rfl; omega) ⟨(SameX.upd (Same.x sm)).same hD, ?_, _, rfl⟩
            have hc' : z.cps.toList[i]? = some c := by rw [Array.getElem?_toList]; exact hc
            rw [upd_same, List.take_add_one, hc', List.map_append]
            refine congrArg (fun b => some (HO.lst (_ ++ [V.bl b]))) ?_
            rw [← mem_letters]
            exact el
          · rintro σ H' ⟨sm, hl, y, rfl⟩
            have et : z.cps.toList.take z.cps.size = z.cps.toList := by rw [← Array.length_toList]; exact List.take_length
            rw [et] at hl
            have q := k H' sm
            rw [fin c1 c2, ← all_id] at q
            exact ⟨D, z.cps.toList.map isLow, rfl, SqL.of (by rw [hl, List.map_map]; rfl), q⟩
      · refine ⟨_, rfl, iteT ?_⟩
        have q := k H (.refl H)
        rw [nof (fun q => c1 (decide_eq_true q.1))] at q
        exact q
    · obtain ⟨t, h1, h2⟩ := isi_f K (by simp) hk hb
      have q := k H (.refl H)
      rw [e] at q
      exact ⟨_, rfl, _, t, _, rfl, h1, h2, _, rfl, iteT (iteT q)⟩
def sp_is_room (K : PySem.W.Frag) (a : Adr) : Sp := fun vs H Q _ => ∃ x n, vs = [x, .int n] ∧ Kd H x ∧ Q (.bl (isRoomV n x)) H
theorem ok_is_room {P : Program} {w : World} {K : PySem.W.Frag} {mg : Str → Option Value} {base : Heap} {a : Adr} (T : Txt K mg a) (hw : w.params = a.Pm) : FnOk P w K mg base CX0 2 a.is_room a.is_room_fd ["thing", "many"] (sp_is_room K a) := by
  have G_is_whole := ok_is_whole (P := P) (w := w) (base := base) T hw
  refine T.f_is_room.ok sc_is_room (fun vs H Q E h => ?_) (fun cdv A outer s H vs Q E hr h => ?_)
  · obtain ⟨x, n, rfl, _⟩ := h
    rfl
  · obtain ⟨x, n, rfl, hk, k⟩ := h
    refine ⟨_, (@pss_one _ _ _ (@ps_ret _ _ _ _ (pe_and (pe_call G_is_whole (hr.mono (by decide)) rfl T.g_is_whole T.f_is_whole.kp T.n_is_whole .nil pass0 (@pa_cons _ _ _ _ _ (pv 0)
      pa_nil
      (by rfl))) (pe_one (pe_chain op_le op_lt pe_int (pv 0) (pv 1)))))), ?_⟩
    refine ⟨_, rfl, x, rfl, hk, _, rfl, ?_⟩
    cases x with
    | int i =>
      refine iteT ⟨_, rfl, _, _, rfl, rfl, _, rfl, ?_⟩
      cases c1 : decide (0 ≤ i) with
      | true =>
        refine iteT ⟨_, rfl, _, _, rfl, rfl, ?_⟩
        have e : isRoomV n (.int i) = decide (i < n) := by simp only [isRoomV, c1, Bool.true_and]
        rw [e] at k
        exact k
      | false =>
        have e : isRoomV n (.int i) = false := by simp only [isRoomV, c1, Bool.false_and]
        rw [e] at k
        exact iteF k
    | _ => exact iteF k
end KK

set_option Elab.async false
set_option linter.all false
set_option maxRecDepth 100000
set_option maxHeartbeats 8000000
namespace KK
open PySem PySem.Spec L2 L3
def sp_last_ones (K : PySem.W.Frag) (a : Adr) : Sp := fun vs H Q _ => ∃ (p : Addr) (xs : List V) (m : Nat), vs = [.ref p, .int (m : Nat)] ∧ H p = some (.lst xs) ∧ m ≤ xs.length ∧ ∀ H' l, SameX p H H' → H' p = some (.lst (xs.take (xs.length - m))) → H l = none → H' l = some (.lst (xs.drop (xs.length - m))) → Q (.ref l) H'
theorem ok_last_ones {P : Program} {w : World} {K : PySem.W.Frag} {mg : Str → Option Value} {base : Heap} {a : Adr} (T : Txt K mg a) (hw : w.params = a.Pm) : FnOk P w K mg base CX0 1 a.last_ones a.last_ones_fd ["things", "many"] (sp_last_ones K a) := by
  refine T.f_last_ones.ok sc_last_ones (fun vs H Q E h => ?_) (fun cdv A outer s H vs Q E hr h => ?_)
  · obtain ⟨p, xs, m, rfl, _⟩ := h
    rfl
  · obtain ⟨p, xs, m, rfl, hp, hm, k⟩ := h
    refine ⟨_, (@pss_cons _ _ _ _ _ (@ps_set _ _ (2) _ _ _ _ sc_last_ones.nd
      rfl
      (Or.inl rfl)
      (@pe_op _ _ _ _ _ _ _ _ op_sub
      (pe_callB (call_lenK (K := K) rfl) rfl T.b_len PyProof.Rows.Boot.«len» (@pa_cons _ _ _ _ _ (pv 0)
      pa_nil
      (by rfl)))
      (pv 1))
      (by rfl)
      (by first | exact .inl rfl | exact .inr rfl | assumption))
      (@pss_cons _ _ _ _ _ (@ps_set _ _ (3) _ _ _ _ sc_last_ones.nd
      rfl
      (Or.inl rfl)
      (pe_slice (sl_listK (K := K) rfl) (pv 0) (po_some (pv 2)) po_none)
      (by rfl)
      (by first | exact .inl rfl | exact .inr rfl | assumption))
      (@pss_cons _ _ _ _ _ (ps_delFrom (pv 0) (pv 2))
      (@pss_one _ _ _ (@ps_ret _ _ _ _ (pv 3)))))), ?_⟩
    have e : (xs.length : Int) - (m : Int) = ((xs.length - m : Nat) : Int) := by omega
    refine ⟨_, rfl, .inl ⟨p, _, rfl, .inl (SqL.of hp), _, rfl, _, _, rfl, rfl, ?_⟩⟩
    refine ⟨_, rfl, _, rfl, ((xs.length - m : Nat) : Int), congrArg V.int e, p, xs, rfl, SqL.of hp, fun l hl => ?_⟩
    rw [cutV_from _ _ (by omega)]
    have np := ne_new hp hl
    refine ⟨_, rfl, _, rfl, p, xs, xs.length - m, rfl, congrArg V.int e, updK hp np, by omega, ?_⟩
    refine ⟨_, rfl, k _ l (Same.x (same_upd hl)).upd upd_same hl ?_⟩
    rw [upd_ne (Ne.symm np), upd_same]
end KK

set_option Elab.async false
set_option linter.all false
set_option maxRecDepth 100000
set_option maxHeartbeats 8000000
namespace KK
open PySem PySem.Spec L2 L3
def sp_is_formed (K : PySem.W.Frag) (a : Adr) : Sp := fun vs H Q _ => ∃ (v : V) (b : Bool), vs = [v] ∧ ((b = true ∧ FmT K H v) ∨ (b = false ∧ Fm K H v)) ∧ ∀ H', Same H H' → Q (.bl b) H'
theorem nw_of : ∀ w ∈ (["signs", "Next", "maybe"] : List Str), w ≠ "yes" ∧ w ≠ "sign" ∧ w ∉ (["and", "or"] : List Str) ∧ w ≠ "within" := by decide +kernel
theorem nwx {w : Str} (h : w ∉ NW) : w ≠ "yes" ∧ w ≠ "sign" ∧ w ∉ (["and", "or"] : List Str) ∧ w ≠ "within" := by
  refine ⟨fun e => h (by rw [e]; simp), fun e => h (by rw [e]; simp), fun e => h ?_, fun e => h (by rw [e]; simp)⟩
  simp at e
  rcases e with rfl | rfl <;> simp
theorem ok_is_formed {P : Program} {w : World} {K : PySem.W.Frag} {mg : Str → Option Value} {base : Heap} {a : Adr} (T : Txt K mg a) (hw : w.params = a.Pm) : FnOk P w K mg base CX0 2 a.is_formed a.is_formed_fd ["thing"] (sp_is_formed K a) := by
  have G_is_whole := ok_is_whole (P := P) (w := w) (base := base) T hw
  have G_is_name := ok_is_name (P := P) (w := w) (base := base) T hw
  refine T.f_is_formed.ok sc_is_formed (fun vs H Q E h => ?_) (fun cdv A outer s H vs Q E hr h => ?_)
  · obtain ⟨v, b, rfl, _⟩ := h
    rfl
  · obtain ⟨v, b, rfl, hb, k⟩ := h
    refine ⟨_, (@pss_cons _ _ _ _ _ (@ps_if _ _ _ _ _ _ _ _ (PW.pt (pw_or (@pt_not _ _ _ _ (pt_val (pe_callB (call_isT (K := K) rfl) rfl T.b_isinstance PyProof.Rows.Boot.«isinstance» (@pa_cons _ _ _ _ _ (pv 0)
      (@pa_cons _ _ _ _ _ (pe_bltn (v := .ty "tuple") rfl T.b_tuple PyProof.Rows.Boot.«tuple» rfl)
      pa_nil
      (by rfl))
      (by rfl))))) (pw_or (@pt_cmpR _ _ _ _ _ _ _ _ op_eq
      (pe_callB (call_lenK (K := K) rfl) rfl T.b_len PyProof.Rows.Boot.«len» (@pa_cons _ _ _ _ _ (pv 0)
      pa_nil
      (by rfl)))
      pe_int
      (nomark _)) (pw_or1 (@pt_not _ _ _ _ (pt_val (pe_callB (call_isiK (K := K) rfl "str") rfl T.b_isinstance PyProof.Rows.Boot.«isinstance» (@pa_cons _ _ _ _ _ (@pe_ix _ _ _ _ _ _ _ (ix_tupK (K := K) rfl)
      (pv 0)
      pe_int
      (fun _ _ => rfl))
      (@pa_cons _ _ _ _ _ (pe_bltn (v := .ty "str") rfl T.b_str PyProof.Rows.Boot.«str» rfl)
      pa_nil
      (by rfl))
      (by rfl)))))))))
      (@pss_one _ _ _ (@ps_ret _ _ _ _ pe_bl))
      pss_nil)
      (@pss_cons _ _ _ _ _ (@ps_set _ _ (1) _ _ _ _ sc_is_formed.nd
      rfl
      (Or.inl rfl)
      (@pe_ix _ _ _ _ _ _ _ (ix_tupK (K := K) rfl)
      (pv 0)
      pe_int
      (fun _ _ => rfl))
      (by rfl)
      (by first | exact .inl rfl | exact .inr rfl | assumption))
      (@pss_cons _ _ _ _ _ (@ps_if _ _ _ _ _ _ _ _ (@pt_cmpR _ _ _ _ _ _ _ _ op_eq
      (pv 1)
      pe_str
      (nomark _))
      (@pss_one _ _ _ (@ps_ret _ _ _ _ (@pe_cmpR _ _ _ _ _ _ _ _ op_eq
      (pe_callB (call_lenK (K := K) rfl) rfl T.b_len PyProof.Rows.Boot.«len» (@pa_cons _ _ _ _ _ (pv 0)
      pa_nil
      (by rfl)))
      pe_int
      (nomark _))))
      pss_nil)
      (@pss_cons _ _ _ _ _ (@ps_if _ _ _ _ _ _ _ _ (@pt_cmpR _ _ _ _ _ _ _ _ op_eq
      (pv 1)
      pe_str
      (nomark _))
      (@pss_one _ _ _ (@ps_ret _ _ _ _ (pe_and (@pe_cmpR _ _ _ _ _ _ _ _ op_eq
      (pe_callB (call_lenK (K := K) rfl) rfl T.b_len PyProof.Rows.Boot.«len» (@pa_cons _ _ _ _ _ (pv 0)
      pa_nil
      (by rfl)))
      pe_int
      (nomark _)) (pe_one (pe_call G_is_name (hr.mono (by decide)) rfl T.g_is_name T.f_is_name.kp T.n_is_name .nil pass0 (@pa_cons _ _ _ _ _ (@pe_ix _ _ _ _ _ _ _ (ix_tupK (K := K) rfl)
      (pv 0)
      pe_int
      (fun _ _ => rfl))
      pa_nil
      (by rfl)))))))
      pss_nil)
      (@pss_cons _ _ _ _ _ (@ps_if _ _ _ _ _ _ _ _ (@pt_cmpR _ _ _ _ _ _ _ _ (op_inK (K := K) rfl)
      (pv 1)
      (@pe_tup _ _ _ _ _ (@pa_cons _ _ _ _ _ pe_str
      (@pa_cons _ _ _ _ _ pe_str
      pa_nil
      (by rfl))
      (by rfl)))
      (by with_unfolding_all rfl))
      (@pss_one _ _ _ (@ps_ret _ _ _ _ (pe_and (@pe_cmpR _ _ _ _ _ _ _ _ op_eq
      (pe_callB (call_lenK (K := K) rfl) rfl T.b_len PyProof.Rows.Boot.«len» (@pa_cons _ _ _ _ _ (pv 0)
      pa_nil
      (by rfl)))
      pe_int
      (nomark _)) (pe_one (pe_callB (call_isT (K := K) rfl) rfl T.b_isinstance PyProof.Rows.Boot.«isinstance» (@pa_cons _ _ _ _ _ (@pe_ix _ _ _ _ _ _ _ (ix_tupK (K := K) rfl)
      (pv 0)
      pe_int
      (fun _ _ => rfl))
      (@pa_cons _ _ _ _ _ (pe_bltn (v := .ty "tuple") rfl T.b_tuple PyProof.Rows.Boot.«tuple» rfl)
      pa_nil
      (by rfl))
      (by rfl)))))))
      pss_nil)
      (@pss_cons _ _ _ _ _ (@ps_if _ _ _ _ _ _ _ _ (@pt_cmpR _ _ _ _ _ _ _ _ op_eq
      (pv 1)
      pe_str
      (nomark _))
      (@pss_one _ _ _ (@ps_ret _ _ _ _ (pe_and (@pe_cmpR _ _ _ _ _ _ _ _ op_eq
      (pe_callB (call_lenK (K := K) rfl) rfl T.b_len PyProof.Rows.Boot.«len» (@pa_cons _ _ _ _ _ (pv 0)
      pa_nil
      (by rfl)))
      pe_int
      (nomark _)) (pe_and (pe_call G_is_whole (hr.mono (by decide)) rfl T.g_is_whole T.f_is_whole.kp T.n_is_whole .nil pass0 (@pa_cons _ _ _ _ _ (@pe_ix _ _ _ _ _ _ _ (ix_tupK (K := K) rfl)
      (pv 0)
      pe_int
      (fun _ _ => rfl))
      pa_nil
      (by rfl))) (pe_one (pe_chain op_le op_le pe_int (@pe_ix _ _ _ _ _ _ _ (ix_tupK (K := K) rfl)
      (pv 0)
      pe_int
      (fun _ _ => rfl)) (pe_gc rfl T.c_MOST_WITHIN)))))))
      pss_nil)
      (@pss_one _ _ _ (@ps_ret _ _ _ _ (pe_and (@pe_cmpR _ _ _ _ _ _ _ _ (op_inD2 (K := K) (P := a.Pm) rfl hw)
      (pv 1)
      (pe_gc (v := .ref a.D_LENGTHS) rfl ⟨_, T.g_LENGTHS, rfl⟩)
      (by with_unfolding_all rfl)) (pe_one (@pe_cmpR _ _ _ _ _ _ _ _ op_eq
      (pe_callB (call_lenK (K := K) rfl) rfl T.b_len PyProof.Rows.Boot.«len» (@pa_cons _ _ _ _ _ (pv 0)
      pa_nil
      (by rfl)))
      (@pe_ix _ _ _ _ _ _ _ (ix_dic (K := K) (P := a.Pm) rfl hw)
      (pe_gc (v := .ref a.D_LENGTHS) rfl ⟨_, T.g_LENGTHS, rfl⟩)
      (pv 1)
      (fun _ _ => rfl))
      (nomark _)))))))))))), ?_⟩
    rcases hb with ⟨rfl, hT⟩ | ⟨rfl, hF⟩
    · obtain ⟨ad, us, c, rfl, sh, ok⟩ := hT
      obtain ⟨xs, e⟩ := sh.tup
      obtain ⟨ty2, c3, c4⟩ := str_ty (K := K) (H := H) (wordL c)
      refine ⟨_, rfl, _, rfl, .inl ⟨ad, _, rfl, e, _, rfl, iteF ?_⟩⟩
      refine ⟨_, rfl, .inl ⟨ad, _, rfl, .inr e, rfl, _, rfl, iteN (fun z => by have := V.int.inj z; simp at this <;> omega) ?_⟩⟩
      refine ⟨_, rfl, ad, _, _, _, rfl, rfl, e, atI_nat (j := 0) rfl, _, ty2, _, rfl, c3, c4, _, rfl, iteF ?_⟩
      refine ⟨_, rfl, ad, _, _, _, rfl, rfl, e, atI_nat (j := 0) rfl, ?_⟩
      clear e c3 c4 ty2 xs
      revert sh ok
      cases c with
      | yes =>
        intro sh ok
        refine ⟨_, rfl, rfl, _, rfl, iteD rfl ?_⟩
        exact ⟨_, rfl, .inl ⟨ad, _, rfl, .inr (sh.2), rfl, qD (by rfl) (k _ (.refl _))⟩⟩
      | sign z =>
        intro sh ok
        refine ⟨_, rfl, rfl, _, rfl, iteN (fun z => (by decide +kernel : ¬ (("sign" : Str) = "yes")) (V.str.inj z)) ?_⟩
        refine ⟨_, rfl, rfl, _, rfl, iteD rfl ?_⟩
        refine ⟨_, rfl, .inl ⟨ad, _, rfl, .inr (sh.2), rfl, _, rfl, iteD (by rfl) ?_⟩⟩
        refine ⟨_, rfl, ad, _, _, _, rfl, rfl, sh.2, atI_nat (j := 1) rfl, .str z, rfl, .str z (Nat.le_trans (name_short ok.2) (by decide)), fun H' s' => ?_⟩
        have e : isNameV (.str z) = true := ok.2
        rw [e]
        exact k H' s'
      | op w =>
        intro sh ok
        obtain ⟨h1, h2, h3, h4, _⟩ := op_words w (by rcases ok with ok | ok; exact List.mem_append_left _ ok.1; exact List.mem_append_right _ ok.1)
        refine ⟨_, rfl, rfl, _, rfl, iteN (fun z => h1 (V.str.inj z)) ?_⟩
        refine ⟨_, rfl, rfl, _, rfl, iteN (fun z => h2 (V.str.inj z)) ?_⟩
        refine ⟨_, rfl, by rw [sizeLine_eq]; simp, fun q hq2 => ⟨q, _, rfl, .inr (SqT.of upd_same), rfl, rfl, _, rfl, iteNin (ss := ["and", "or"]) h3 ?_⟩⟩
        have s1 := same_upd (o := .tup [.str "and", .str "or"]) hq2
        have e1 := Same.tup s1 K _ _ sh
        generalize upd H q (.tup [.str "and", .str "or"]) = H1 at s1 e1 ⊢
        refine ⟨_, rfl, rfl, _, rfl, iteN (fun z => h4 (V.str.inj z)) ?_⟩
        obtain ⟨i, hm, hi⟩ : ∃ i : Int, (w, i) ∈ LK ∧ ((us.length + 1 : Nat) : Int) = i := by
          rcases ok with ⟨ok, o2⟩ | ⟨ok, o2⟩
          · exact ⟨2, lk1 w ok, by omega⟩
          · exact ⟨3, lk2 w ok, by omega⟩
        refine ⟨_, rfl, w, _, _, true, rfl, rfl, T.d_LENGTHS, .inl ⟨rfl, i, hm⟩, _, rfl, iteT ⟨_, rfl, .inl ⟨ad, _, rfl, .inr (e1), _, rfl, _, w, _, i, rfl, rfl, T.d_LENGTHS, hm, rfl, qD (congrArg V.int hi) (k _ s1)⟩⟩⟩
      | wit m =>
        intro sh ok
        refine ⟨_, rfl, rfl, _, rfl, iteN (fun z => (by decide +kernel : ¬ (("within" : Str) = "yes")) (V.str.inj z)) ?_⟩
        refine ⟨_, rfl, rfl, _, rfl, iteN (fun z => (by decide +kernel : ¬ (("within" : Str) = "sign")) (V.str.inj z)) ?_⟩
        refine ⟨_, rfl, by rw [sizeLine_eq]; simp, fun q hq2 => ⟨q, _, rfl, .inr (SqT.of upd_same), rfl, rfl, _, rfl, iteNin (ss := ["and", "or"]) (show ("within" : Str) ∉ (["and", "or"] : List Str) by decide +kernel) ?_⟩⟩
        have s1 := same_upd (o := .tup [.str "and", .str "or"]) hq2
        have e1 := Same.tup s1 K _ _ sh
        generalize upd H q (.tup [.str "and", .str "or"]) = H1 at s1 e1 ⊢
        refine ⟨_, rfl, rfl, _, rfl, iteD rfl ?_⟩
        have hu : us.length = 2 := ok.2
        refine ⟨_, rfl, .inl ⟨ad, _, rfl, .inr (e1), rfl, _, rfl, iteD (congrArg V.int (by simp [hu])) ?_⟩⟩
        refine ⟨_, rfl, ad, _, _, _, rfl, rfl, e1, atI_nat (j := 1) rfl, .int m, rfl, .int m, _, rfl, iteT ?_⟩
        exact ⟨_, rfl, ad, _, _, _, rfl, rfl, e1, atI_nat (j := 1) rfl, _, _, rfl, rfl, _, rfl, iteD ok.1.1 ⟨_, _, rfl, rfl, qD ok.1.2 (k _ s1)⟩⟩
      | many w =>
        intro sh ok
        obtain ⟨b, sh1, sh2⟩ := sh
        have hw0 : w ∈ (["and", "or"] : List Str) := by rcases ok.1 with rfl | rfl <;> simp
        obtain ⟨h1, h2, h3, _⟩ := many_words w hw0
        refine ⟨_, rfl, rfl, _, rfl, iteN (fun z => h1 (V.str.inj z)) ?_⟩
        refine ⟨_, rfl, rfl, _, rfl, iteN (fun z => h2 (V.str.inj z)) ?_⟩
        refine ⟨_, rfl, by rw [sizeLine_eq]; simp, fun q hq2 => ⟨q, _, rfl, .inr (SqT.of upd_same), rfl, rfl, _, rfl, iteIn (ss := ["and", "or"]) hw0 ?_⟩⟩
        have s1 := same_upd (o := .tup [.str "and", .str "or"]) hq2
        have e1 := Same.tup s1 K _ _ sh1
        have e2 := Same.tup s1 K _ _ sh2
        generalize upd H q (.tup [.str "and", .str "or"]) = H1 at s1 e1 e2 ⊢
        exact ⟨_, rfl, .inl ⟨ad, _, rfl, .inr (e1), rfl, _, rfl, iteD (by rfl) ⟨_, rfl, ad, _, _, _, rfl, rfl, e1, atI_nat (j := 1) rfl, _, rfl, .inl ⟨b, _, rfl, e2, k _ s1⟩⟩⟩⟩
    cases hF with
    | noT hk ht =>
      obtain ⟨t, h1, h2⟩ := isi_f K (by simp) hk ht
      exact ⟨_, rfl, _, rfl, .inr ⟨t, h1, h2, _, rfl, iteT (k _ (.refl _))⟩⟩
    | @emp ad e =>
      refine ⟨_, rfl, _, rfl, .inl ⟨ad, _, rfl, e, _, rfl, iteF ?_⟩⟩
      exact ⟨_, rfl, .inl ⟨ad, _, rfl, .inr e, rfl, _, rfl, iteD rfl (k _ (.refl _))⟩⟩
    | @noS ad x xs e hk ht =>
      obtain ⟨t, h1, h2⟩ := isi_f K (by simp) hk ht
      refine ⟨_, rfl, _, rfl, .inl ⟨ad, _, rfl, e, _, rfl, iteF ?_⟩⟩
      refine ⟨_, rfl, .inl ⟨ad, _, rfl, .inr e, rfl, _, rfl, iteN (fun z => by have := V.int.inj z; simp at this <;> omega) ?_⟩⟩
      exact ⟨_, rfl, ad, _, _, _, rfl, rfl, e, atI_nat (j := 0) rfl, _, t, _, rfl, h1, h2, _, rfl, iteT (k _ (.refl _))⟩
    | @yes ad xs e hl =>
      obtain ⟨ty2, c3, c4⟩ := str_ty (K := K) (H := H) "yes"
      refine ⟨_, rfl, _, rfl, .inl ⟨ad, _, rfl, e, _, rfl, iteF ?_⟩⟩
      refine ⟨_, rfl, .inl ⟨ad, _, rfl, .inr e, rfl, _, rfl, iteN (fun z => by have := V.int.inj z; simp at this <;> omega) ?_⟩⟩
      refine ⟨_, rfl, ad, _, _, _, rfl, rfl, e, atI_nat (j := 0) rfl, _, ty2, _, rfl, c3, c4, _, rfl, iteF ?_⟩
      refine ⟨_, rfl, ad, _, _, _, rfl, rfl, e, atI_nat (j := 0) rfl, ?_⟩
      refine ⟨_, rfl, rfl, _, rfl, iteD rfl ?_⟩
      exact ⟨_, rfl, .inl ⟨ad, _, rfl, .inr e, rfl, qN (fun z => by have := V.int.inj z; simp at this <;> omega) (k _ (.refl _))⟩⟩
    | @sgnL ad xs e hl =>
      obtain ⟨ty2, c3, c4⟩ := str_ty (K := K) (H := H) "sign"
      refine ⟨_, rfl, _, rfl, .inl ⟨ad, _, rfl, e, _, rfl, iteF ?_⟩⟩
      refine ⟨_, rfl, .inl ⟨ad, _, rfl, .inr e, rfl, _, rfl, iteN (fun z => by have := V.int.inj z; simp at this <;> omega) ?_⟩⟩
      refine ⟨_, rfl, ad, _, _, _, rfl, rfl, e, atI_nat (j := 0) rfl, _, ty2, _, rfl, c3, c4, _, rfl, iteF ?_⟩
      refine ⟨_, rfl, ad, _, _, _, rfl, rfl, e, atI_nat (j := 0) rfl, ?_⟩
      refine ⟨_, rfl, rfl, _, rfl, iteN (fun z => (by decide +kernel : ¬ (("sign" : Str) = "yes")) (V.str.inj z)) ?_⟩
      refine ⟨_, rfl, rfl, _, rfl, iteD rfl ?_⟩
      exact ⟨_, rfl, .inl ⟨ad, _, rfl, .inr e, rfl, _, rfl, iteN (fun z => by have := V.int.inj z; simp at this <;> omega) (k _ (.refl _))⟩⟩
    | @sgn ad x e hk hx =>
      obtain ⟨ty2, c3, c4⟩ := str_ty (K := K) (H := H) "sign"
      refine ⟨_, rfl, _, rfl, .inl ⟨ad, _, rfl, e, _, rfl, iteF ?_⟩⟩
      refine ⟨_, rfl, .inl ⟨ad, _, rfl, .inr e, rfl, _, rfl, iteN (fun z => by have := V.int.inj z; simp at this <;> omega) ?_⟩⟩
      refine ⟨_, rfl, ad, _, _, _, rfl, rfl, e, atI_nat (j := 0) rfl, _, ty2, _, rfl, c3, c4, _, rfl, iteF ?_⟩
      refine ⟨_, rfl, ad, _, _, _, rfl, rfl, e, atI_nat (j := 0) rfl, ?_⟩
      refine ⟨_, rfl, rfl, _, rfl, iteN (fun z => (by decide +kernel : ¬ (("sign" : Str) = "yes")) (V.str.inj z)) ?_⟩
      refine ⟨_, rfl, rfl, _, rfl, iteD rfl ?_⟩
      refine ⟨_, rfl, .inl ⟨ad, _, rfl, .inr e, rfl, _, rfl, iteD (by rfl) ?_⟩⟩
      refine ⟨_, rfl, ad, _, _, _, rfl, rfl, e, atI_nat (j := 1) rfl, x, rfl, hk, fun H' s' => ?_⟩
      rw [hx]
      exact k H' s'
    | @manyL ad w xs hw0 e hl =>
      obtain ⟨h1, h2, h3, _⟩ := many_words w hw0
      obtain ⟨ty2, c3, c4⟩ := str_ty (K := K) (H := H) w
      refine ⟨_, rfl, _, rfl, .inl ⟨ad, _, rfl, e, _, rfl, iteF ?_⟩⟩
      refine ⟨_, rfl, .inl ⟨ad, _, rfl, .inr e, rfl, _, rfl, iteN (fun z => by have := V.int.inj z; simp at this <;> omega) ?_⟩⟩
      refine ⟨_, rfl, ad, _, _, _, rfl, rfl, e, atI_nat (j := 0) rfl, _, ty2, _, rfl, c3, c4, _, rfl, iteF ?_⟩
      refine ⟨_, rfl, ad, _, _, _, rfl, rfl, e, atI_nat (j := 0) rfl, ?_⟩
      refine ⟨_, rfl, rfl, _, rfl, iteN (fun z => h1 (V.str.inj z)) ?_⟩
      refine ⟨_, rfl, rfl, _, rfl, iteN (fun z => h2 (V.str.inj z)) ?_⟩
      refine ⟨_, rfl, by rw [sizeLine_eq]; simp, fun q hq2 => ⟨q, _, rfl, .inr (SqT.of upd_same), rfl, rfl, _, rfl, iteIn (ss := ["and", "or"]) hw0 ?_⟩⟩
      have s1 := same_upd (o := .tup [.str "and", .str "or"]) hq2
      have e1 := Same.tup s1 K _ _ e
      generalize upd H q (.tup [.str "and", .str "or"]) = H1 at s1 e1 ⊢
      exact ⟨_, rfl, .inl ⟨ad, _, rfl, .inr (e1), rfl, _, rfl, iteN (fun z => by have := V.int.inj z; simp at this <;> omega) (k _ s1)⟩⟩
    | @manyN ad w x hw0 e hk ht =>
      obtain ⟨h1, h2, h3, _⟩ := many_words w hw0
      obtain ⟨ty2, c3, c4⟩ := str_ty (K := K) (H := H) w
      refine ⟨_, rfl, _, rfl, .inl ⟨ad, _, rfl, e, _, rfl, iteF ?_⟩⟩
      refine ⟨_, rfl, .inl ⟨ad, _, rfl, .inr e, rfl, _, rfl, iteN (fun z => by have := V.int.inj z; simp at this <;> omega) ?_⟩⟩
      refine ⟨_, rfl, ad, _, _, _, rfl, rfl, e, atI_nat (j := 0) rfl, _, ty2, _, rfl, c3, c4, _, rfl, iteF ?_⟩
      refine ⟨_, rfl, ad, _, _, _, rfl, rfl, e, atI_nat (j := 0) rfl, ?_⟩
      refine ⟨_, rfl, rfl, _, rfl, iteN (fun z => h1 (V.str.inj z)) ?_⟩
      refine ⟨_, rfl, rfl, _, rfl, iteN (fun z => h2 (V.str.inj z)) ?_⟩
      refine ⟨_, rfl, by rw [sizeLine_eq]; simp, fun q hq2 => ⟨q, _, rfl, .inr (SqT.of upd_same), rfl, rfl, _, rfl, iteIn (ss := ["and", "or"]) hw0 ?_⟩⟩
      have s1 := same_upd (o := .tup [.str "and", .str "or"]) hq2
      have e1 := Same.tup s1 K _ _ e
      generalize upd H q (.tup [.str "and", .str "or"]) = H1 at s1 e1 ⊢
      obtain ⟨t, h5, h6⟩ := isi_f K (by simp) (hk.mono s1) ((isTy_same s1 hk).trans ht)
      exact ⟨_, rfl, .inl ⟨ad, _, rfl, .inr (e1), rfl, _, rfl, iteD (by rfl) ⟨_, rfl, ad, _, _, _, rfl, rfl, e1, atI_nat (j := 1) rfl, _, rfl, .inr ⟨t, h5, h6, k _ s1⟩⟩⟩⟩
    | @witL ad xs e hl =>
      obtain ⟨ty2, c3, c4⟩ := str_ty (K := K) (H := H) "within"
      refine ⟨_, rfl, _, rfl, .inl ⟨ad, _, rfl, e, _, rfl, iteF ?_⟩⟩
      refine ⟨_, rfl, .inl ⟨ad, _, rfl, .inr e, rfl, _, rfl, iteN (fun z => by have := V.int.inj z; simp at this <;> omega) ?_⟩⟩
      refine ⟨_, rfl, ad, _, _, _, rfl, rfl, e, atI_nat (j := 0) rfl, _, ty2, _, rfl, c3, c4, _, rfl, iteF ?_⟩
      refine ⟨_, rfl, ad, _, _, _, rfl, rfl, e, atI_nat (j := 0) rfl, ?_⟩
      refine ⟨_, rfl, rfl, _, rfl, iteN (fun z => (by decide +kernel : ¬ (("within" : Str) = "yes")) (V.str.inj z)) ?_⟩
      refine ⟨_, rfl, rfl, _, rfl, iteN (fun z => (by decide +kernel : ¬ (("within" : Str) = "sign")) (V.str.inj z)) ?_⟩
      refine ⟨_, rfl, by rw [sizeLine_eq]; simp, fun q hq2 => ⟨q, _, rfl, .inr (SqT.of upd_same), rfl, rfl, _, rfl, iteNin (ss := ["and", "or"]) (show ("within" : Str) ∉ (["and", "or"] : List Str) by decide +kernel) ?_⟩⟩
      have s1 := same_upd (o := .tup [.str "and", .str "or"]) hq2
      have e1 := Same.tup s1 K _ _ e
      generalize upd H q (.tup [.str "and", .str "or"]) = H1 at s1 e1 ⊢
      refine ⟨_, rfl, rfl, _, rfl, iteD rfl ?_⟩
      exact ⟨_, rfl, .inl ⟨ad, _, rfl, .inr (e1), rfl, _, rfl, iteN (fun z => by have := V.int.inj z; simp at this <;> omega) (k _ s1)⟩⟩
    | @witN ad x y z e hk hx =>
      obtain ⟨ty2, c3, c4⟩ := str_ty (K := K) (H := H) "within"
      refine ⟨_, rfl, _, rfl, .inl ⟨ad, _, rfl, e, _, rfl, iteF ?_⟩⟩
      refine ⟨_, rfl, .inl ⟨ad, _, rfl, .inr e, rfl, _, rfl, iteN (fun z => by have := V.int.inj z; simp at this <;> omega) ?_⟩⟩
      refine ⟨_, rfl, ad, _, _, _, rfl, rfl, e, atI_nat (j := 0) rfl, _, ty2, _, rfl, c3, c4, _, rfl, iteF ?_⟩
      refine ⟨_, rfl, ad, _, _, _, rfl, rfl, e, atI_nat (j := 0) rfl, ?_⟩
      refine ⟨_, rfl, rfl, _, rfl, iteN (fun z => (by decide +kernel : ¬ (("within" : Str) = "yes")) (V.str.inj z)) ?_⟩
      refine ⟨_, rfl, rfl, _, rfl, iteN (fun z => (by decide +kernel : ¬ (("within" : Str) = "sign")) (V.str.inj z)) ?_⟩
      refine ⟨_, rfl, by rw [sizeLine_eq]; simp, fun q hq2 => ⟨q, _, rfl, .inr (SqT.of upd_same), rfl, rfl, _, rfl, iteNin (ss := ["and", "or"]) (show ("within" : Str) ∉ (["and", "or"] : List Str) by decide +kernel) ?_⟩⟩
      have s1 := same_upd (o := .tup [.str "and", .str "or"]) hq2
      have e1 := Same.tup s1 K _ _ e
      generalize upd H q (.tup [.str "and", .str "or"]) = H1 at s1 e1 ⊢
      refine ⟨_, rfl, rfl, _, rfl, iteD rfl ?_⟩
      refine ⟨_, rfl, .inl ⟨ad, _, rfl, .inr (e1), rfl, _, rfl, iteD (by rfl) ?_⟩⟩
      refine ⟨_, rfl, ad, _, _, _, rfl, rfl, e1, atI_nat (j := 1) rfl, x, rfl, hk.mono s1, ?_⟩
      rw [hx]
      exact ⟨_, rfl, iteF (k _ s1)⟩
    | @witM ad m y z e hm =>
      obtain ⟨ty2, c3, c4⟩ := str_ty (K := K) (H := H) "within"
      refine ⟨_, rfl, _, rfl, .inl ⟨ad, _, rfl, e, _, rfl, iteF ?_⟩⟩
      refine ⟨_, rfl, .inl ⟨ad, _, rfl, .inr e, rfl, _, rfl, iteN (fun z => by have := V.int.inj z; simp at this <;> omega) ?_⟩⟩
      refine ⟨_, rfl, ad, _, _, _, rfl, rfl, e, atI_nat (j := 0) rfl, _, ty2, _, rfl, c3, c4, _, rfl, iteF ?_⟩
      refine ⟨_, rfl, ad, _, _, _, rfl, rfl, e, atI_nat (j := 0) rfl, ?_⟩
      refine ⟨_, rfl, rfl, _, rfl, iteN (fun z => (by decide +kernel : ¬ (("within" : Str) = "yes")) (V.str.inj z)) ?_⟩
      refine ⟨_, rfl, rfl, _, rfl, iteN (fun z => (by decide +kernel : ¬ (("within" : Str) = "sign")) (V.str.inj z)) ?_⟩
      refine ⟨_, rfl, by rw [sizeLine_eq]; simp, fun q hq2 => ⟨q, _, rfl, .inr (SqT.of upd_same), rfl, rfl, _, rfl, iteNin (ss := ["and", "or"]) (show ("within" : Str) ∉ (["and", "or"] : List Str) by decide +kernel) ?_⟩⟩
      have s1 := same_upd (o := .tup [.str "and", .str "or"]) hq2
      have e1 := Same.tup s1 K _ _ e
      generalize upd H q (.tup [.str "and", .str "or"]) = H1 at s1 e1 ⊢
      refine ⟨_, rfl, rfl, _, rfl, iteD rfl ?_⟩
      refine ⟨_, rfl, .inl ⟨ad, _, rfl, .inr (e1), rfl, _, rfl, iteD (by rfl) ?_⟩⟩
      refine ⟨_, rfl, ad, _, _, _, rfl, rfl, e1, atI_nat (j := 1) rfl, .int m, rfl, .int m, _, rfl, iteT ?_⟩
      refine ⟨_, rfl, ad, _, _, _, rfl, rfl, e1, atI_nat (j := 1) rfl, _, _, rfl, rfl, _, rfl, ?_⟩
      by_cases h0 : 0 ≤ m
      · exact iteD h0 ⟨_, _, rfl, rfl, qN (fun h5 => hm ⟨h0, h5⟩) (k _ s1)⟩
      · exact iteN h0 (k _ s1)
    | @word ad w xs e hw1 =>
      obtain ⟨h1, h2, h3, h4⟩ := nw_of w hw1
      obtain ⟨ty2, c3, c4⟩ := str_ty (K := K) (H := H) w
      refine ⟨_, rfl, _, rfl, .inl ⟨ad, _, rfl, e, _, rfl, iteF ?_⟩⟩
      refine ⟨_, rfl, .inl ⟨ad, _, rfl, .inr e, rfl, _, rfl, iteN (fun z => by have := V.int.inj z; simp at this <;> omega) ?_⟩⟩
      refine ⟨_, rfl, ad, _, _, _, rfl, rfl, e, atI_nat (j := 0) rfl, _, ty2, _, rfl, c3, c4, _, rfl, iteF ?_⟩
      refine ⟨_, rfl, ad, _, _, _, rfl, rfl, e, atI_nat (j := 0) rfl, ?_⟩
      refine ⟨_, rfl, rfl, _, rfl, iteN (fun z => h1 (V.str.inj z)) ?_⟩
      refine ⟨_, rfl, rfl, _, rfl, iteN (fun z => h2 (V.str.inj z)) ?_⟩
      refine ⟨_, rfl, by rw [sizeLine_eq]; simp, fun q hq2 => ⟨q, _, rfl, .inr (SqT.of upd_same), rfl, rfl, _, rfl, iteNin (ss := ["and", "or"]) h3 ?_⟩⟩
      have s1 := same_upd (o := .tup [.str "and", .str "or"]) hq2
      have e1 := Same.tup s1 K _ _ e
      generalize upd H q (.tup [.str "and", .str "or"]) = H1 at s1 e1 ⊢
      refine ⟨_, rfl, rfl, _, rfl, iteN (fun z => h4 (V.str.inj z)) ?_⟩
      have hn : PySem.W.nsIn K a.D_LENGTHS w = some none := by
        simp at hw1
        rcases hw1 with rfl | rfl | rfl
        · exact T.nk_signs
        · exact T.nk_Next
        · exact T.nk_maybe
      exact ⟨_, rfl, w, _, _, false, rfl, rfl, T.d_LENGTHS, .inr ⟨rfl, hn⟩, _, rfl, iteF (k _ s1)⟩
    | @lens ad w i xs e hw1 hm hi =>
      obtain ⟨h1, h2, h3, h4⟩ := nwx hw1
      obtain ⟨ty2, c3, c4⟩ := str_ty (K := K) (H := H) w
      refine ⟨_, rfl, _, rfl, .inl ⟨ad, _, rfl, e, _, rfl, iteF ?_⟩⟩
      refine ⟨_, rfl, .inl ⟨ad, _, rfl, .inr e, rfl, _, rfl, iteN (fun z => by have := V.int.inj z; simp at this <;> omega) ?_⟩⟩
      refine ⟨_, rfl, ad, _, _, _, rfl, rfl, e, atI_nat (j := 0) rfl, _, ty2, _, rfl, c3, c4, _, rfl, iteF ?_⟩
      refine ⟨_, rfl, ad, _, _, _, rfl, rfl, e, atI_nat (j := 0) rfl, ?_⟩
      refine ⟨_, rfl, rfl, _, rfl, iteN (fun z => h1 (V.str.inj z)) ?_⟩
      refine ⟨_, rfl, rfl, _, rfl, iteN (fun z => h2 (V.str.inj z)) ?_⟩
      refine ⟨_, rfl, by rw [sizeLine_eq]; simp, fun q hq2 => ⟨q, _, rfl, .inr (SqT.of upd_same), rfl, rfl, _, rfl, iteNin (ss := ["and", "or"]) h3 ?_⟩⟩
      have s1 := same_upd (o := .tup [.str "and", .str "or"]) hq2
      have e1 := Same.tup s1 K _ _ e
      generalize upd H q (.tup [.str "and", .str "or"]) = H1 at s1 e1 ⊢
      refine ⟨_, rfl, rfl, _, rfl, iteN (fun z => h4 (V.str.inj z)) ?_⟩
      exact ⟨_, rfl, w, _, _, true, rfl, rfl, T.d_LENGTHS, .inl ⟨rfl, i, hm⟩, _, rfl, iteT ⟨_, rfl, .inl ⟨ad, _, rfl, .inr (e1), _, rfl, _, w, _, i, rfl, rfl, T.d_LENGTHS, hm, rfl, qN (fun z => hi (V.int.inj z)) (k _ s1)⟩⟩⟩
end KK

set_option Elab.async false
set_option linter.all false
set_option maxRecDepth 100000
set_option maxHeartbeats 8000000
namespace KK
open PySem PySem.Spec L2 L3
def sp_inner_of (K : PySem.W.Frag) (a : Adr) : Sp := fun vs H Q _ => ∃ (v : V) (ad : Addr) (us : List V) (c : Lb), vs = [v] ∧ v = .ref ad ∧ Shape K H ad us c ∧ lbOkB c us.length ∧ ∀ H' b, Same H H' → SqT K H' b us → Q (.ref b) H'
theorem cutV_two (x y : V) (vs : List V) : cutV (x :: y :: vs) (some 2) none = vs := by
  have := cutV_from (x :: y :: vs) 2 (by simp)
  exact this
theorem cutV_one (x : V) (vs : List V) : cutV (x :: vs) (some 1) none = vs := by
  have := cutV_from (x :: vs) 1 (by simp)
  exact this
theorem cut_not {n : Nat} {k : Int} (h : 0 < k) (hn : (k : Int) ≤ n) : ¬ (HT.sIx n 0 (some k) = 0 ∧ HT.sIx n n none = n) := by
  rintro ⟨h1, _⟩
  have h2 : ¬ (k < 0) := by omega
  unfold HT.sIx at h1
  simp only [h2, if_false] at h1
  omega
theorem ok_inner_of {P : Program} {w : World} {K : PySem.W.Frag} {mg : Str → Option Value} {base : Heap} {a : Adr} (T : Txt K mg a) (hw : w.params = a.Pm) : FnOk P w K mg base CX0 1 a.inner_of a.inner_of_fd ["sentence"] (sp_inner_of K a) := by
  refine T.f_inner_of.ok sc_inner_of (fun vs H Q E h => ?_) (fun cdv A outer s H vs Q E hr h => ?_)
  · obtain ⟨v, ad, us, c, rfl, _⟩ := h
    rfl
  · obtain ⟨v, ad, us, c, rfl, rfl, sh, ok, k⟩ := h
    refine ⟨_, (@pss_cons _ _ _ _ _ (@ps_set _ _ (1) _ _ _ _ sc_inner_of.nd
      rfl
      (Or.inl rfl)
      (@pe_ix _ _ _ _ _ _ _ (ix_tupK (K := K) rfl)
      (pv 0)
      pe_int
      (fun _ _ => rfl))
      (by rfl)
      (by first | exact .inl rfl | exact .inr rfl | assumption))
      (@pss_cons _ _ _ _ _ (@ps_if _ _ _ _ _ _ _ _ (@pt_cmpR _ _ _ _ _ _ _ _ (op_inK (K := K) rfl)
      (pv 1)
      (@pe_tup _ _ _ _ _ (@pa_cons _ _ _ _ _ pe_str
      (@pa_cons _ _ _ _ _ pe_str
      pa_nil
      (by rfl))
      (by rfl)))
      (by with_unfolding_all rfl))
      (@pss_one _ _ _ (@ps_ret _ _ _ _ (@pe_tup _ _ _ _ _ pa_nil)))
      pss_nil)
      (@pss_cons _ _ _ _ _ (@ps_if _ _ _ _ _ _ _ _ (@pt_cmpR _ _ _ _ _ _ _ _ (op_inK (K := K) rfl)
      (pv 1)
      (@pe_tup _ _ _ _ _ (@pa_cons _ _ _ _ _ pe_str
      (@pa_cons _ _ _ _ _ pe_str
      pa_nil
      (by rfl))
      (by rfl)))
      (by with_unfolding_all rfl))
      (@pss_one _ _ _ (@ps_ret _ _ _ _ (@pe_ix _ _ _ _ _ _ _ (ix_tupK (K := K) rfl)
      (pv 0)
      pe_int
      (fun _ _ => rfl))))
      pss_nil)
      (@pss_cons _ _ _ _ _ (@ps_if _ _ _ _ _ _ _ _ (@pt_cmpR _ _ _ _ _ _ _ _ op_eq
      (pv 1)
      pe_str
      (nomark _))
      (@pss_one _ _ _ (@ps_ret _ _ _ _ (pe_slice (sl_tupK (K := K) rfl) (pv 0) (po_some pe_int) po_none)))
      pss_nil)
      (@pss_one _ _ _ (@ps_ret _ _ _ _ (pe_slice (sl_tupK (K := K) rfl) (pv 0) (po_some pe_int) po_none))))))), ?_⟩
    obtain ⟨xs, e⟩ := sh.tup
    refine ⟨_, rfl, ad, _, _, _, rfl, rfl, e, atI_nat (j := 0) rfl, ?_⟩
    refine ⟨_, rfl, by rw [sizeLine_eq]; simp, fun q hq2 => ⟨q, _, rfl, .inr (SqT.of upd_same), rfl, rfl, _, rfl, ?_⟩⟩
    have s1 := same_upd (o := .tup [.str "yes", .str "sign"]) hq2
    generalize upd H q (.tup [.str "yes", .str "sign"]) = H1 at s1 ⊢
    have sh1 := sh.mono (Same.tup s1)
    clear e xs sh
    revert sh1 ok
    cases c with
    | yes =>
      intro ok sh
      refine iteIn (ss := ["yes", "sign"]) (by decide +kernel) ⟨by rw [sizeLine_eq]; simp, fun r hr => ?_⟩
      have h0 := sh.1
      subst h0
      exact k _ r (s1.trans (same_upd hr)) (SqT.of upd_same)
    | sign z =>
      intro ok sh
      refine iteIn (ss := ["yes", "sign"]) (show ("sign" : Str) ∈ (["yes", "sign"] : List Str) by decide +kernel) ⟨by rw [sizeLine_eq]; simp, fun r hr => ?_⟩
      have h0 := sh.1
      subst h0
      exact k _ r (s1.trans (same_upd hr)) (SqT.of upd_same)
    | op w =>
      intro ok sh
      obtain ⟨h1, h2, h3, h4, h5⟩ := op_words w (by rcases ok with ok | ok; exact List.mem_append_left _ ok.1; exact List.mem_append_right _ ok.1)
      refine iteNin (ss := ["yes", "sign"]) h5 ?_
      refine ⟨_, rfl, by rw [sizeLine_eq]; simp, fun q3 hq3 => ⟨q3, _, rfl, .inr (SqT.of upd_same), rfl, rfl, _, rfl, iteNin (ss := ["and", "or"]) h3 ?_⟩⟩
      have s2 := same_upd (o := .tup [.str "and", .str "or"]) hq3
      generalize upd H1 q3 (.tup [.str "and", .str "or"]) = H2 at s2 ⊢
      refine ⟨_, rfl, rfl, _, rfl, iteN (fun z => h4 (V.str.inj z)) ?_⟩
      refine ⟨_, rfl, _, rfl, ad, _, rfl, (Same.tup s2 K _ _ sh), cut_not (by decide) (by simp; omega), fun r hr => ?_⟩
      rw [cutV_one]
      exact k _ r ((s1.trans s2).trans (same_upd hr)) (SqT.of upd_same)
    | wit m =>
      intro ok sh
      refine iteNin (ss := ["yes", "sign"]) (show ("within" : Str) ∉ (["yes", "sign"] : List Str) by decide +kernel) ?_
      refine ⟨_, rfl, by rw [sizeLine_eq]; simp, fun q3 hq3 => ⟨q3, _, rfl, .inr (SqT.of upd_same), rfl, rfl, _, rfl, iteNin (ss := ["and", "or"]) (show ("within" : Str) ∉ (["and", "or"] : List Str) by decide +kernel) ?_⟩⟩
      have s2 := same_upd (o := .tup [.str "and", .str "or"]) hq3
      generalize upd H1 q3 (.tup [.str "and", .str "or"]) = H2 at s2 ⊢
      refine ⟨_, rfl, rfl, _, rfl, iteD rfl ?_⟩
      refine ⟨_, rfl, _, rfl, ad, _, rfl, (Same.tup s2 K _ _ sh), cut_not (by decide) (by simp; omega), fun r hr => ?_⟩
      rw [cutV_two]
      exact k _ r ((s1.trans s2).trans (same_upd hr)) (SqT.of upd_same)
    | many w =>
      intro ok sh
      have hw0 : w ∈ (["and", "or"] : List Str) := by rcases ok.1 with rfl | rfl <;> simp
      obtain ⟨h1, h2, h3, h4, _⟩ := many_words w hw0
      obtain ⟨b, sh1, sh2⟩ := sh
      refine iteNin (ss := ["yes", "sign"]) h4 ?_
      refine ⟨_, rfl, by rw [sizeLine_eq]; simp, fun q3 hq3 => ⟨q3, _, rfl, .inr (SqT.of upd_same), rfl, rfl, _, rfl, iteIn (ss := ["and", "or"]) hw0 ?_⟩⟩
      have s2 := same_upd (o := .tup [.str "and", .str "or"]) hq3
      generalize upd H1 q3 (.tup [.str "and", .str "or"]) = H2 at s2 ⊢
      exact ⟨_, rfl, ad, _, _, _, rfl, rfl, (Same.tup s2 K _ _ sh1), atI_nat (j := 1) rfl, k _ b (s1.trans s2) (Same.tup s2 K _ _ sh2)⟩
end KK

set_option Elab.async false
set_option linter.all false
set_option maxRecDepth 100000
set_option maxHeartbeats 8000000
namespace KK
open PySem PySem.Spec L2 L3
theorem len_postL : ∀ ts : List Tr, ts.length ≤ (postL ts).length
  | [] => by simp [postL]
  | t :: r => by
    have := len_postL r
    rw [postL, List.length_append, List.length_cons, post_eq t, List.length_append]
    simp
    omega
def sp_inner_ahead (K : PySem.W.Frag) (a : Adr) : Sp := fun vs H Q _ => ∃ (v : V) (t : Tr) (n : Nat), vs = [v] ∧ At K n H v t ∧ (post t).length ≤ 2000000 ∧ ∀ H' l us, Same H H' → H l = none → H' l = some (.lst us) → AtL K n H' us (post t) → Q (.ref l) H'
theorem ok_inner_ahead {P : Program} {w : World} {K : PySem.W.Frag} {mg : Str → Option Value} {base : Heap} {a : Adr} (T : Txt K mg a) (hw : w.params = a.Pm) : FnOk P w K mg base CX0 3 a.inner_ahead a.inner_ahead_fd ["sentence"] (sp_inner_ahead K a) := by
  have G_is_formed := ok_is_formed (P := P) (w := w) (base := base) T hw
  have G_inner_of := ok_inner_of (P := P) (w := w) (base := base) T hw
  refine T.f_inner_ahead.ok sc_inner_ahead (fun vs H Q E h => ?_) (fun cdv A outer s H vs Q E hr h => ?_)
  · obtain ⟨v, t, n, rfl, _⟩ := h
    rfl
  · obtain ⟨v, t, n, rfl, hat, hz, k⟩ := h
    refine ⟨_, (@pss_cons _ _ _ _ _ (@ps_set _ _ (1) _ _ _ _ sc_inner_ahead.nd
      rfl
      (Or.inl rfl)
      (@pe_lst _ _ _ _ pa_nil)
      (by rfl)
      (by first | exact .inl rfl | exact .inr rfl | assumption))
      (@pss_cons _ _ _ _ _ (@ps_set _ _ (2) _ _ _ _ sc_inner_ahead.nd
      rfl
      (Or.inl rfl)
      (@pe_lst _ _ _ _ (@pa_cons _ _ _ _ _ (pv 0)
      pa_nil
      (by rfl)))
      (by rfl)
      (by first | exact .inl rfl | exact .inr rfl | assumption))
      (@pss_cons _ _ _ _ _ (ps_while PassesOwn.never (pt_truthK (K := K) rfl (pv 2) (fun _ => rfl)) (@pss_cons _ _ _ _ _ (@ps_set _ _ (3) _ _ _ _ sc_inner_ahead.nd
      rfl
      (Or.inl rfl)
      (pe_bm0 PySem.F.plainAttrs_list PySem.F.slot_list_pop PySem.F.type_list_pop mt_pop (pv 2))
      (by rfl)
      (by first | exact .inl rfl | exact .inr rfl | assumption))
      (@pss_cons _ _ _ _ _ (@ps_if _ _ _ _ _ _ _ _ (@pt_not _ _ _ _ (pt_val (pe_call G_is_formed (hr.mono (by decide)) rfl T.g_is_formed T.f_is_formed.kp T.n_is_formed .nil pass0 (@pa_cons _ _ _ _ _ (pv 3)
      pa_nil
      (by rfl)))))
      (@pss_one _ _ _ ps_never)
      pss_nil)
      (@pss_cons _ _ _ _ _ (@ps_expr _ _ _ _ (pe_bm PySem.F.plainAttrs_list PySem.F.slot_list_append PySem.F.type_list_append mt_append (pv 1) (@pa_cons _ _ _ _ _ (pv 3)
      pa_nil
      (by rfl)))
      (by rfl))
      (@pss_one _ _ _ (@ps_expr _ _ _ _ (pe_bm PySem.F.plainAttrs_list PySem.F.slot_list_extend PySem.F.type_list_extend (mt_extendT (K := K) rfl) (pv 2) (@pa_cons _ _ _ _ _ (pe_call G_inner_of (hr.mono (by decide)) rfl T.g_inner_of T.f_inner_of.kp T.n_inner_of .nil pass0 (@pa_cons _ _ _ _ _ (pv 3)
      pa_nil
      (by rfl)))
      pa_nil
      (by rfl)))
      (by rfl)))))))
      (@pss_one _ _ _ (@ps_ret _ _ _ _ (pe_revK (K := K) rfl (pv 1) (po_some (pe_un un_neg pe_int)))))))), ?_⟩
    cases n with
    | zero => exact hat.elim
    | succ n =>
      refine ⟨by decide, fun F hF => ?_⟩
      have s1 := same_upd (o := .lst []) hF
      have e1 : (upd H F (.lst [])) F = some (.lst []) := upd_same
      generalize upd H F (.lst []) = H1 at s1 e1 ⊢
      refine ⟨_, rfl, by rw [sizeLine_eq]; simp, fun W hW => ?_⟩
      have s2 := same_upd (o := .lst [v]) hW
      have e2 : (upd H1 W (.lst [v])) W = some (.lst [v]) := upd_same
      have nFW : F ≠ W := ne_new e1 hW
      have e1' := s2 _ _ e1
      generalize upd H1 W (.lst [v]) = H2 at s2 e2 e1' ⊢
      have hW0 : H W = none := s1.free hW
      have at2 := hat.mono (Same.tup (s1.trans s2))
      refine ⟨fun m σ H' => ∃ (z : Option V) (ws fs : List V) (tw tf : List Tr), σ = [some v, some (.ref F), some (.ref W), z] ∧ Same H H' ∧ H' F = some (.lst fs) ∧ H' W = some (.lst ws) ∧ AtL K (n + 1) H' ws tw ∧ AtL K (n + 1) H' fs tf ∧ tf ++ (postL tw).reverse = (post t).reverse ∧ m = (postL tw).length, ⟨_, _, [v], [], [t], [], rfl, s1.trans s2, e1', e2, AtL.one at2, AtL.nil, by rw [postL_one]; rfl, rfl⟩, ?_⟩
      rintro m σ H3 ⟨z, ws, fs, tw, tf, rfl, s3, hF3, hW3, aw, af, he, rfl⟩
      have hlen : tf.length + (postL tw).length = (post t).length := by have := congrArg List.length he; simpa using this
      have hwl := len_postL tw
      have hwl2 := aw.1
      have hfl2 := af.1
      refine ⟨_, rfl, !ws.isEmpty, ?tru, ?_⟩
      case tru => exact .inl ⟨_, SqL.of hW3, rfl⟩
      cases hws : ws.isEmpty with
      | true =>
        have e0 : ws = [] := List.isEmpty_iff.mp hws
        subst e0
        have et : tw = [] := List.length_eq_zero_iff.mp hwl2.symm
        subst et
        refine iteF ?_
        rw [postL, List.reverse_nil, List.append_nil] at he
        refine ⟨_, rfl, _, rfl, _, rfl, F, _, rfl, rfl, SqL.of hF3, fun p hp => ?_⟩
        have ar := af.rev
        rw [he, List.reverse_reverse] at ar
        exact k _ p _ (s3.trans (same_upd hp)) (s3.free hp) upd_same (ar.mono (Same.tup (same_upd hp)))
      | false =>
        have hne : ws ≠ [] := fun e => by rw [e] at hws; cases hws
        obtain ⟨us, u, rs, r, ew, etw, aus, au⟩ := aw.last hne
        subst ew etw
        refine iteT ?_
        refine ⟨fun σ H' => ∃ (z : Option V) (ws fs : List V) (tw tf : List Tr), σ = [some v, some (.ref F), some (.ref W), z] ∧ Same H H' ∧ H' F = some (.lst fs) ∧ H' W = some (.lst ws) ∧ AtL K (n + 1) H' ws tw ∧ AtL K (n + 1) H' fs tf ∧ tf ++ (postL tw).reverse = (post t).reverse ∧ (postL tw).length < (postL (rs ++ [r])).length, ?_, ?_⟩
        · rintro σ' H' ⟨z', ws', fs', tw', tf', rfl, a1, a2, a3, a4, a5, a6, a7⟩
          exact ⟨_, a7, z', ws', fs', tw', tf', rfl, a1, a2, a3, a4, a5, a6, rfl⟩
        refine ⟨_, rfl, .inl ⟨rfl, _, SqL.of hW3⟩, W, _, u, rfl, rfl, hW3, by simp, ?_⟩
        rw [List.dropLast_concat]
        have x4 : SameX W H3 (upd H3 W (.lst us)) := (SameX.refl H3).upd
        have t4 : SameT H3 (upd H3 W (.lst us)) := SameX.tup x4 hW3
        have hF4 : (upd H3 W (.lst us)) F = some (.lst fs) := updK hF3 nFW
        have hW4 : (upd H3 W (.lst us)) W = some (.lst us) := upd_same
        have s4 : Same H (upd H3 W (.lst us)) := ((Same.x s3).upd).same hW0
        generalize upd H3 W (.lst us) = H4 at x4 t4 hF4 hW4 s4 ⊢
        have au4 := au.mono t4
        refine ⟨_, rfl, u, true, rfl, .inl ⟨rfl, au4.fmT⟩, fun H5 s5 => ⟨_, rfl, iteF ?_⟩⟩
        have hF5 := s5 _ _ hF4
        have hW5 := s5 _ _ hW4
        have tur := post_turn rs r
        have tl := congrArg List.length tur
        simp at tl
        refine ⟨_, rfl, .inl ⟨rfl, _, SqL.of hF5⟩, _, rfl, F, _, _, rfl, rfl, hF5, by rw [sizeLine_eq]; omega, ?_⟩
        have x6 : SameX F H5 (upd H5 F (.lst (fs ++ [u]))) := (SameX.refl H5).upd
        have t6 : SameT H5 (upd H5 F (.lst (fs ++ [u]))) := SameX.tup x6 hF5
        have hF6 : (upd H5 F (.lst (fs ++ [u]))) F = some (.lst (fs ++ [u])) := upd_same
        have hW6 : (upd H5 F (.lst (fs ++ [u]))) W = some (.lst us) := updK hW5 (Ne.symm nFW)
        have s6 : Same H (upd H5 F (.lst (fs ++ [u]))) := ((Same.x (s4.trans s5)).upd).same hF
        generalize upd H5 F (.lst (fs ++ [u])) = H6 at x6 t6 hF6 hW6 s6 ⊢
        have t46 : SameT H3 H6 := t4.trans ((Same.tup s5).trans t6)
        obtain ⟨ad7, ks7, eu7, sh7, ok7, hl7, hq7⟩ := au.mono t46
        refine ⟨_, rfl, .inl ⟨rfl, _, SqL.of hW6⟩, _, rfl, u, ad7, ks7, r.lb, rfl, eu7, sh7, by rw [hl7]; exact ok7.b, fun H7 b s7 eb => ?_⟩
        have aL : AtL K n H7 ks7 r.ks := AtL.mono (Same.tup s7) ⟨hl7, hq7⟩
        have hW7 := s7 _ _ hW6
        have hkl := aL.1
        have hll := len_postL (rs ++ r.ks)
        simp at hll
        have hul := aus.1
        refine ⟨W, b, _, _, rfl, rfl, hW7, eb, by rw [sizeLine_eq]; omega, ?_⟩
        have x8 : SameX W H7 (upd H7 W (.lst (us ++ ks7))) := (SameX.refl H7).upd
        have t8 : SameT H7 (upd H7 W (.lst (us ++ ks7))) := SameX.tup x8 hW7
        have t38 : SameT H3 (upd H7 W (.lst (us ++ ks7))) := t46.trans ((Same.tup s7).trans t8)
        refine ⟨_, us ++ ks7, fs ++ [u], rs ++ r.ks, tf ++ [r], rfl, ((Same.x (s6.trans s7)).upd).same hW0, updK (s7 _ _ hF6) nFW, upd_same, (aus.mono t38).app ((aL.le (Nat.le_succ n)).mono t8), (af.mono t38).app (AtL.one (au.mono t38)), ?_, ?_⟩
        · rw [tur] at he
          rw [List.append_assoc]
          exact he
        · omega
end KK

set_option Elab.async false
set_option linter.all false
set_option maxRecDepth 100000
set_option maxHeartbeats 8000000
namespace KK
open PySem PySem.Spec L2 L3
def sp_no_inner_ahead (K : PySem.W.Frag) (a : Adr) : Sp := fun vs H Q E => ∃ (v : V) (b : Bt) (n : Nat), vs = [v] ∧ BAt K n H v b ∧ hasBad b = true ∧ bsz b ≤ 1000000 ∧ ∀ H' e, Same H H' → E (.ref e) (some a.C_BadSentence) H'
theorem no_inner_ahead {P : Program} {w : World} {K : PySem.W.Frag} {mg : Str → Option Value} {base : Heap} {a : Adr} (T : Txt K mg a) (hw : w.params = a.Pm) : FnOk P w K mg base (CXe P w) 3 a.inner_ahead a.inner_ahead_fd ["sentence"] (sp_no_inner_ahead K a) := by
  have G_is_formed := ok_is_formed (P := P) (w := w) (base := base) T hw
  have G_inner_of := ok_inner_of (P := P) (w := w) (base := base) T hw
  refine fun_okX T.f_inner_ahead sc_inner_ahead (fun vs H Q E h => ?_) (fun cdv A outer s H vs Q E hr h => ?_)
  · obtain ⟨v, b, n, rfl, _⟩ := h
    rfl
  · obtain ⟨v, b, n, rfl, hat, hbad, hz, k⟩ := h
    refine ⟨_, (@pss_cons _ _ _ _ _ (@ps_set _ _ (1) _ _ _ _ sc_inner_ahead.nd
      rfl
      (Or.inl rfl)
      (@pe_lst _ _ _ _ pa_nil)
      (by rfl)
      (by first | exact .inl rfl | exact .inr rfl | assumption))
      (@pss_cons _ _ _ _ _ (@ps_set _ _ (2) _ _ _ _ sc_inner_ahead.nd
      rfl
      (Or.inl rfl)
      (@pe_lst _ _ _ _ (@pa_cons _ _ _ _ _ (pv 0)
      pa_nil
      (by rfl)))
      (by rfl)
      (by first | exact .inl rfl | exact .inr rfl | assumption))
      (@pss_cons _ _ _ _ _ (ps_while PassesOwn.leaving (pt_truthK (K := K) rfl (pv 2) (fun _ => rfl)) (@pss_cons _ _ _ _ _ (@ps_set _ _ (3) _ _ _ _ sc_inner_ahead.nd
      rfl
      (Or.inl rfl)
      (pe_bm0 PySem.F.plainAttrs_list PySem.F.slot_list_pop PySem.F.type_list_pop mt_pop (pv 2))
      (by rfl)
      (by first | exact .inl rfl | exact .inr rfl | assumption))
      (@pss_cons _ _ _ _ _ (@ps_if _ _ _ _ _ _ _ _ (@pt_not _ _ _ _ (pt_val (pe_call G_is_formed (hr.mono (by decide)) rfl T.g_is_formed T.f_is_formed.kp T.n_is_formed .nil pass0 (@pa_cons _ _ _ _ _ (pv 3)
      pa_nil
      (by rfl)))))
      (@pss_one _ _ _ (ps_raise raises_cx rfl rfl T.g_BadSentence T.x_BadSentence PySem.F.excBase_ValueError (@pa_cons _ _ _ _ _ pe_str
      pa_nil
      (by rfl))))
      pss_nil)
      (@pss_cons _ _ _ _ _ (@ps_expr _ _ _ _ (pe_bm PySem.F.plainAttrs_list PySem.F.slot_list_append PySem.F.type_list_append mt_append (pv 1) (@pa_cons _ _ _ _ _ (pv 3)
      pa_nil
      (by rfl)))
      (by rfl))
      (@pss_one _ _ _ (@ps_expr _ _ _ _ (pe_bm PySem.F.plainAttrs_list PySem.F.slot_list_extend PySem.F.type_list_extend (mt_extendT (K := K) rfl) (pv 2) (@pa_cons _ _ _ _ _ (pe_call G_inner_of (hr.mono (by decide)) rfl T.g_inner_of T.f_inner_of.kp T.n_inner_of .nil pass0 (@pa_cons _ _ _ _ _ (pv 3)
      pa_nil
      (by rfl)))
      pa_nil
      (by rfl)))
      (by rfl)))))))
      (@pss_one _ _ _ (@ps_ret _ _ _ _ (pe_revK (K := K) rfl (pv 1) (po_some (pe_un un_neg pe_int)))))))), ?_⟩
    cases n with
    | zero => exact hat.elim
    | succ n =>
      refine ⟨by decide, fun F hF => ?_⟩
      have s1 := same_upd (o := .lst []) hF
      have e1 : (upd H F (.lst [])) F = some (.lst []) := upd_same
      generalize upd H F (.lst []) = H1 at s1 e1 ⊢
      refine ⟨_, rfl, by rw [sizeLine_eq]; simp, fun W hW => ?_⟩
      have s2 := same_upd (o := .lst [v]) hW
      have e2 : (upd H1 W (.lst [v])) W = some (.lst [v]) := upd_same
      have nFW : F ≠ W := ne_new e1 hW
      have e1' := s2 _ _ e1
      generalize upd H1 W (.lst [v]) = H2 at s2 e2 e1' ⊢
      have hW0 : H W = none := s1.free hW
      have hb1 : hasBadL [b] = true := by simp [hasBadL, hbad]
      refine ⟨fun m σ H' => ∃ (z : Option V) (ws fs : List V) (tw : List Bt), σ = [some v, some (.ref F), some (.ref W), z] ∧ Same H H' ∧ H' F = some (.lst fs) ∧ H' W = some (.lst ws) ∧ BAtL K (n + 1) H ws tw ∧ hasBadL tw = true ∧ fs.length + bszL tw ≤ 1000000 ∧ m = bszL tw, ⟨_, _, [v], [], [b], rfl, s1.trans s2, e1', e2, BAtL.one hat, hb1, by simp [bszL]; omega, rfl⟩, ?_⟩
      rintro m σ H3 ⟨z, ws, fs, tw, rfl, s3, hF3, hW3, aw, hbw, hsz, rfl⟩
      have hwl := len_bszL tw
      have hwl2 := aw.1
      have hne : ws ≠ [] := fun e => by
        subst e
        have et : tw = [] := List.length_eq_zero_iff.mp hwl2.symm
        subst et
        simp [hasBadL] at hbw
      refine ⟨_, rfl, !ws.isEmpty, ?tru, ?_⟩
      case tru => exact .inl ⟨_, SqL.of hW3, rfl⟩
      have hws : ws.isEmpty = false := by cases ws with | nil => exact absurd rfl hne | cons x r => rfl
      rw [hws]
      obtain ⟨us, u, rs, r, ew, etw, aus, au⟩ := aw.last hne
      subst ew etw
      refine iteT ?_
      refine ⟨fun σ H' => ∃ (z : Option V) (ws fs : List V) (tw : List Bt), σ = [some v, some (.ref F), some (.ref W), z] ∧ Same H H' ∧ H' F = some (.lst fs) ∧ H' W = some (.lst ws) ∧ BAtL K (n + 1) H ws tw ∧ hasBadL tw = true ∧ fs.length + bszL tw ≤ 1000000 ∧ bszL tw < bszL (rs ++ [r]), ?_, ?_⟩
      · rintro σ' H' ⟨z', ws', fs', tw', rfl, a1, a2, a3, a4, a5, a6, a7⟩
        exact ⟨_, a7, z', ws', fs', tw', rfl, a1, a2, a3, a4, a5, a6, rfl⟩
      refine ⟨_, rfl, .inl ⟨rfl, _, SqL.of hW3⟩, W, _, u, rfl, rfl, hW3, by simp, ?_⟩
      rw [List.dropLast_concat]
      have hF4 : (upd H3 W (.lst us)) F = some (.lst fs) := updK hF3 nFW
      have hW4 : (upd H3 W (.lst us)) W = some (.lst us) := upd_same
      have s4 : Same H (upd H3 W (.lst us)) := ((Same.x s3).upd).same hW0
      generalize upd H3 W (.lst us) = H4 at hF4 hW4 s4 ⊢
      rw [bszL_app] at hsz
      rw [hasBadL_app] at hbw
      cases r with
      | lf =>
        refine ⟨_, rfl, u, false, rfl, .inr ⟨rfl, Fm.mono s4 au⟩, fun H5 s5 => ⟨_, rfl, iteT ?_⟩⟩
        exact ⟨by decide, fun e => k H5 e (s4.trans s5)⟩
      | nd c ks =>
        obtain ⟨ad, vs7, eu, sh, ok, hl, hq⟩ := au
        subst eu
        have ok' : lbOkB c vs7.length := by rw [hl]; exact ok
        refine ⟨_, rfl, .ref ad, true, rfl, .inl ⟨rfl, ad, vs7, c, rfl, sh.mono (Same.tup s4), ok'⟩, fun H5 s5 => ⟨_, rfl, iteF ?_⟩⟩
        have hF5 := s5 _ _ hF4
        have hW5 := s5 _ _ hW4
        have e7 : bszL [Bt.nd c ks] = bszL ks + 1 := by simp [bszL, bsz]
        have e8 : hasBadL [Bt.nd c ks] = hasBadL ks := by simp [hasBadL, hasBad]
        rw [e7] at hsz
        rw [e8] at hbw
        refine ⟨_, rfl, .inl ⟨rfl, _, SqL.of hF5⟩, _, rfl, F, _, _, rfl, rfl, hF5, by rw [sizeLine_eq]; omega, ?_⟩
        have hF6 : (upd H5 F (.lst (fs ++ [.ref ad]))) F = some (.lst (fs ++ [.ref ad])) := upd_same
        have hW6 : (upd H5 F (.lst (fs ++ [.ref ad]))) W = some (.lst us) := updK hW5 (Ne.symm nFW)
        have s6 : Same H (upd H5 F (.lst (fs ++ [.ref ad]))) := ((Same.x (s4.trans s5)).upd).same hF
        generalize upd H5 F (.lst (fs ++ [.ref ad])) = H6 at hF6 hW6 s6 ⊢
        refine ⟨_, rfl, .inl ⟨rfl, _, SqL.of hW6⟩, _, rfl, .ref ad, ad, vs7, c, rfl, rfl, sh.mono (Same.tup s6), ok', fun H7 b7 s7 eb => ?_⟩
        have hW7 := s7 _ _ hW6
        have hul := aus.1
        have hl1 := len_bszL rs
        have hl2 := len_bszL ks
        refine ⟨W, b7, _, _, rfl, rfl, hW7, eb, by rw [sizeLine_eq]; omega, ?_⟩
        refine ⟨_, us ++ vs7, fs ++ [.ref ad], rs ++ ks, rfl, ((Same.x (s6.trans s7)).upd).same hW0, updK (s7 _ _ hF6) nFW, upd_same, aus.app (BAtL.le ⟨hl, hq⟩ (Nat.le_succ n)), ?_, ?_, ?_⟩
        · rw [hasBadL_app]; exact hbw
        · rw [bszL_app, List.length_append, List.length_singleton]; omega
        · rw [bszL_app, bszL_app, e7]; omega
end KK

set_option Elab.async false
set_option linter.all false
set_option maxRecDepth 100000
set_option maxHeartbeats 8000000
namespace KK
open PySem PySem.Spec L2 L3
def sp_are_names (K : PySem.W.Frag) (a : Adr) : Sp := fun vs H Q _ => ∃ x, vs = [x] ∧ KdL H x ∧ ∀ H', Same H H' → Q (.bl (areNames H x)) H'
theorem ok_are_names {P : Program} {w : World} {K : PySem.W.Frag} {mg : Str → Option Value} {base : Heap} {a : Adr} (T : Txt K mg a) (hw : w.params = a.Pm) : FnOk P w K mg base CX0 2 a.are_names a.are_names_fd ["thing"] (sp_are_names K a) := by
  have G_is_name := ok_is_name (P := P) (w := w) (base := base) T hw
  refine T.f_are_names.ok sc_are_names (fun vs H Q E h => ?_) (fun cdv A outer s H vs Q E hr h => ?_)
  · obtain ⟨x, rfl, _⟩ := h
    rfl
  · obtain ⟨x, rfl, hk, k⟩ := h
    refine ⟨_, (@pss_cons _ _ _ _ _ (@ps_if _ _ _ _ _ _ _ _ (PW.pt (pw_or (@pt_not _ _ _ _ (pt_val (pe_callB (call_isiK (K := K) rfl "list") rfl T.b_isinstance PyProof.Rows.Boot.«isinstance» (@pa_cons _ _ _ _ _ (pv 0)
      (@pa_cons _ _ _ _ _ (pe_bltn (v := .ty "list") rfl T.b_list PyProof.Rows.Boot.«list» rfl)
      pa_nil
      (by rfl))
      (by rfl))))) (pw_or1 (@pt_not _ _ _ _ (pt_val (pe_callB (call_allK (K := K) rfl rfl) rfl T.b_all PyProof.Rows.Boot.«all» (@pa_cons _ _ _ _ _ (pe_compL (Nc := ["name"]) (ix := [none]) (CompOk.of (by decide +kernel : compChk (defScope s_are_names) ["thing"] ["name"] [none] _ = true)) rfl (pi_listK (K := K) rfl (pv 0)) (fun _ _ _ _ _ => (pg_name (i := 0) (show List.Nodup (["name"] : List Str) by decide +kernel) rfl (Or.inl rfl))) (fun _ _ _ _ _ => pts_nil) (fun _ _ _ _ _ => (pe_call G_is_name (hr.mono (by decide)) rfl T.g_is_name T.f_is_name.kp T.n_is_name .nil pass0 (@pa_cons _ _ _ _ _ (pv 0)
      pa_nil
      (by rfl)))))
      pa_nil
      (by rfl))))))))
      (@pss_one _ _ _ (@ps_ret _ _ _ _ pe_bl))
      pss_nil)
      (@pss_one _ _ _ (@ps_ret _ _ _ _ (@pe_cmpR _ _ _ _ _ _ _ _ op_eq
      (pe_callB (call_lenK (K := K) rfl) rfl T.b_len PyProof.Rows.Boot.«len» (@pa_cons _ _ _ _ _ (pe_callTy (call_setK (K := K) rfl rfl) rfl T.b_set PyProof.Rows.Boot.«set» (@pa_cons _ _ _ _ _ (pv 0)
      pa_nil
      (by rfl)))
      pa_nil
      (by rfl)))
      (pe_callB (call_lenK (K := K) rfl) rfl T.b_len PyProof.Rows.Boot.«len» (@pa_cons _ _ _ _ _ (pv 0)
      pa_nil
      (by rfl)))
      (nomark _))))), ?_⟩
    rcases kd_list hk.1 with ⟨hb, p, xs, rfl, hp, hl⟩ | ⟨hb, e⟩
    · obtain ⟨t, h1, h2⟩ := isi_f K (by simp) hk.1 hb
      obtain ⟨hz, hy⟩ := hk.2 xs hl
      have hS : xs.length ≤ sizeLine := by rw [sizeLine_eq]; omega
      have ev : areNames H (.ref p) = (xs.all isNameV && decide xs.Nodup) := by unfold areNames; rw [hl]
      rw [ev] at k
      refine ⟨_, rfl, _, t, _, rfl, h1, h2, _, rfl, iteF ?_⟩
      refine ⟨_, rfl, p, rfl, ⟨xs, SqL.of hp⟩, fun D hD => ?_⟩
      refine comp_mapL (K := K) hD (SqL.of hp) hS (fun i v _ => ∀ x, xs[i]? = some x → v = .bl (isNameV x)) (fun _ _ _ _ _ q => q) ?_ ?_
      · intro i x H2 N hx sm hN
        refine ⟨_, rfl, x, rfl, (hy x (List.mem_of_getElem? hx)).mono sm, fun H3 s3 => hN _ _ s3 fun x' hx' => ?_⟩
        rw [hx] at hx'; cases hx'; rfl
      · intro H2 ys hD2 sm hlen hr
        have ey := all_map_of (f := isNameV) hlen fun i v x h1 h2 => hr i v h1 x h2
        refine ⟨D, _, rfl, SqL.of (by rw [hD2, ey]), _, rfl, ?_⟩
        rw [all_id]
        cases hall : xs.all isNameV with
        | false =>
          rw [hall] at k
          exact iteT (k H2 sm)
        | true =>
          rw [hall] at k
          obtain ⟨ks, rfl⟩ := keys_names hall
          rw [List.length_map] at hz
          refine iteF ⟨_, rfl, p, ks, rfl, SqL.of (sm _ _ hp), by omega, fun n c a1 a2 hc => ?_⟩
          have s3 : Same H (upd H2 c (SetN c n)) := sm.trans (same_upd hc)
          refine .inr (.inr ⟨c, n, rfl, upd_same, by omega, _, rfl, .inl ⟨p, _, rfl, .inl (SqL.of (s3 _ _ hp)), rfl, ?_⟩⟩)
          rw [dec_len rfl a2]
          exact k _ s3
    · obtain ⟨t, h1, h2⟩ := isi_f K (by simp) hk.1 hb
      have q := k H (.refl H)
      have e2 : areNames H x = false := by unfold areNames; rw [e]
      rw [e2] at q
      exact ⟨_, rfl, _, t, _, rfl, h1, h2, _, rfl, iteT (iteT q)⟩
def sp_are_rooms (K : PySem.W.Frag) (a : Adr) : Sp := fun vs H Q _ => ∃ x n, vs = [x, .int n] ∧ KdL H x ∧ ∀ H', Same H H' → Q (.bl (areRooms H n x)) H'
theorem ok_are_rooms {P : Program} {w : World} {K : PySem.W.Frag} {mg : Str → Option Value} {base : Heap} {a : Adr} (T : Txt K mg a) (hw : w.params = a.Pm) : FnOk P w K mg base CX0 3 a.are_rooms a.are_rooms_fd ["thing", "many"] (sp_are_rooms K a) := by
  have G_is_room := ok_is_room (P := P) (w := w) (base := base) T hw
  refine T.f_are_rooms.ok sc_are_rooms (fun vs H Q E h => ?_) (fun cdv A outer s H vs Q E hr h => ?_)
  · obtain ⟨x, n, rfl, _⟩ := h
    rfl
  · obtain ⟨x, n, rfl, hk, k⟩ := h
    refine ⟨_, (@pss_one _ _ _ (@ps_ret _ _ _ _ (pe_and (pe_callB (call_isiK (K := K) rfl "list") rfl T.b_isinstance PyProof.Rows.Boot.«isinstance» (@pa_cons _ _ _ _ _ (pv 0)
      (@pa_cons _ _ _ _ _ (pe_bltn (v := .ty "list") rfl T.b_list PyProof.Rows.Boot.«list» rfl)
      pa_nil
      (by rfl))
      (by rfl))) (pe_one (pe_callB (call_allK (K := K) rfl rfl) rfl T.b_all PyProof.Rows.Boot.«all» (@pa_cons _ _ _ _ _ (pe_compL (Nc := ["room", "many"]) (ix := [none, some 1]) (CompOk.of (by decide +kernel : compChk (defScope s_are_rooms) ["thing", "many"] ["room", "many"] [none, some 1] _ = true)) rfl (pi_listK (K := K) rfl (pv 0)) (fun _ _ _ _ _ => (pg_name (i := 0) (show List.Nodup (["room", "many"] : List Str) by decide +kernel) rfl (Or.inl rfl))) (fun _ _ _ _ _ => pts_nil) (fun _ _ _ _ _ => (pe_call G_is_room (hr.mono (by decide)) rfl T.g_is_room T.f_is_room.kp T.n_is_room .nil pass0 (@pa_cons _ _ _ _ _ (pv 0)
      (@pa_cons _ _ _ _ _ (pv 1)
      pa_nil
      (by rfl))
      (by rfl)))))
      pa_nil
      (by rfl))))))), ?_⟩
    rcases kd_list hk.1 with ⟨hb, p, xs, rfl, hp, hl⟩ | ⟨hb, e⟩
    · obtain ⟨t, h1, h2⟩ := isi_f K (by simp) hk.1 hb
      obtain ⟨hz, hy⟩ := hk.2 xs hl
      have hS : xs.length ≤ sizeLine := by rw [sizeLine_eq]; omega
      have ev : areRooms H n (.ref p) = xs.all (isRoomV n) := by unfold areRooms; rw [hl]
      rw [ev] at k
      refine ⟨_, rfl, _, t, _, rfl, h1, h2, _, rfl, iteT ?_⟩
      refine ⟨_, rfl, p, rfl, ⟨xs, SqL.of hp⟩, fun D hD => ?_⟩
      refine comp_mapL (K := K) hD (SqL.of hp) hS (fun i v _ => ∀ x, xs[i]? = some x → v = .bl (isRoomV n x)) (fun _ _ _ _ _ q => q) ?_ ?_
      · intro i x H2 N hx sm hN
        refine ⟨_, rfl, _, rfl, x, n, rfl, (hy x (List.mem_of_getElem? hx)).mono sm, hN _ _ (.refl _) fun x' hx' => ?_⟩
        rw [hx] at hx'; cases hx'; rfl
      · intro H2 ys hD2 sm hlen hr
        have ey := all_map_of (f := isRoomV n) hlen fun i v x h1 h2 => hr i v h1 x h2
        refine ⟨D, _, rfl, SqL.of (by rw [hD2, ey]), ?_⟩
        rw [all_id]
        exact k H2 sm
    · obtain ⟨t, h1, h2⟩ := isi_f K (by simp) hk.1 hb
      have q := k H (.refl H)
      have e2 : areRooms H n x = false := by unfold areRooms; rw [e]
      rw [e2] at q
      exact ⟨_, rfl, _, t, _, rfl, h1, h2, _, rfl, iteF q⟩
def sp_are_some_rooms (K : PySem.W.Frag) (a : Adr) : Sp := fun vs H Q _ => ∃ x n, vs = [x, .int n] ∧ KdL H x ∧ ∀ H', Same H H' → Q (.bl (someRooms H n x)) H'
theorem ok_are_some_rooms {P : Program} {w : World} {K : PySem.W.Frag} {mg : Str → Option Value} {base : Heap} {a : Adr} (T : Txt K mg a) (hw : w.params = a.Pm) : FnOk P w K mg base CX0 4 a.are_some_rooms a.are_some_rooms_fd ["thing", "many"] (sp_are_some_rooms K a) := by
  have G_are_rooms := ok_are_rooms (P := P) (w := w) (base := base) T hw
  refine T.f_are_some_rooms.ok sc_are_some_rooms (fun vs H Q E h => ?_) (fun cdv A outer s H vs Q E hr h => ?_)
  · obtain ⟨x, n, rfl, _⟩ := h
    rfl
  · obtain ⟨x, n, rfl, hk, k⟩ := h
    refine ⟨_, (@pss_cons _ _ _ _ _ (@ps_if _ _ _ _ _ _ _ _ (PW.pt (pw_or (@pt_not _ _ _ _ (pt_val (pe_call G_are_rooms (hr.mono (by decide)) rfl T.g_are_rooms T.f_are_rooms.kp T.n_are_rooms .nil pass0 (@pa_cons _ _ _ _ _ (pv 0)
      (@pa_cons _ _ _ _ _ (pv 1)
      pa_nil
      (by rfl))
      (by rfl))))) (pw_or1 (@pt_cmpR _ _ _ _ _ _ _ _ op_eq
      (pe_callB (call_lenK (K := K) rfl) rfl T.b_len PyProof.Rows.Boot.«len» (@pa_cons _ _ _ _ _ (pv 0)
      pa_nil
      (by rfl)))
      pe_int
      (nomark _)))))
      (@pss_one _ _ _ (@ps_ret _ _ _ _ pe_bl))
      pss_nil)
      (@pss_one _ _ _ (@ps_ret _ _ _ _ (@pe_cmpR _ _ _ _ _ _ _ _ op_eq
      (pe_callB (call_lenK (K := K) rfl) rfl T.b_len PyProof.Rows.Boot.«len» (@pa_cons _ _ _ _ _ (pe_callTy (call_setK (K := K) rfl rfl) rfl T.b_set PyProof.Rows.Boot.«set» (@pa_cons _ _ _ _ _ (pv 0)
      pa_nil
      (by rfl)))
      pa_nil
      (by rfl)))
      (pe_callB (call_lenK (K := K) rfl) rfl T.b_len PyProof.Rows.Boot.«len» (@pa_cons _ _ _ _ _ (pv 0)
      pa_nil
      (by rfl)))
      (nomark _))))), ?_⟩
    refine ⟨_, rfl, _, rfl, x, n, rfl, hk, fun H1 s1 => ⟨_, rfl, ?_⟩⟩
    rcases kd_list hk.1 with ⟨hb, p, xs, rfl, hp, hl⟩ | ⟨hb, e⟩
    · obtain ⟨hz, hy⟩ := hk.2 xs hl
      have ev : areRooms H n (.ref p) = xs.all (isRoomV n) := by unfold areRooms; rw [hl]
      have ew : someRooms H n (.ref p) = (xs.all (isRoomV n) && !xs.isEmpty && decide xs.Nodup) := by unfold someRooms; rw [hl]
      rw [ew] at k
      rw [ev]
      cases hall : xs.all (isRoomV n) with
      | false =>
        rw [hall] at k
        exact iteT (iteT (k H1 s1))
      | true =>
        rw [hall] at k
        refine iteF ⟨_, rfl, .inl ⟨p, xs, rfl, .inl (SqL.of (s1 _ _ hp)), rfl, _, rfl, ?_⟩⟩
        cases xs with
        | nil =>
          exact iteT (k H1 s1)
        | cons y r =>
          have e0 : decide (V.int (((y :: r).length : Nat) : Int) = V.int 0) = false := by
            refine decide_eq_false fun q => ?_
            have q' := V.int.inj q
            rw [List.length_cons] at q'
            omega
          rw [e0]
          obtain ⟨ks, eks⟩ := keys_rooms hall
          rw [eks] at hp k hz
          rw [List.length_map] at hz
          refine iteF ⟨_, rfl, p, ks, rfl, SqL.of (s1 _ _ hp), by omega, fun m c a1 a2 hc => ?_⟩
          have s3 : Same H (upd H1 c (SetN c m)) := s1.trans (same_upd hc)
          refine .inr (.inr ⟨c, m, rfl, upd_same, by omega, _, rfl, .inl ⟨p, _, rfl, .inl (SqL.of (s3 _ _ hp)), rfl, ?_⟩⟩)
          rw [dec_len rfl a2]
          have q := k _ s3
          have ne : (!(ks.map kV).isEmpty) = true := by rw [← eks]; rfl
          rw [ne] at q
          exact q
    · have ev : areRooms H n x = false := by unfold areRooms; rw [e]
      have ew : someRooms H n x = false := by unfold someRooms; rw [e]
      rw [ew] at k
      rw [ev]
      exact iteT (iteT (k H1 s1))
end KK

set_option Elab.async false
set_option linter.all false
set_option maxRecDepth 100000
set_option maxHeartbeats 8000000
namespace KK
open PySem PySem.Spec L2 L3
def sp_makes_world (K : PySem.W.Frag) (a : Adr) : Sp := fun vs H Q _ => ∃ x y z u, vs = [x, y, z, u] ∧ KdLL H x ∧ KdLL H y ∧ KdL H z ∧ KdL H u ∧ ∀ H', Same H H' → Q (.bl (makesW H x y z u)) H'
theorem ok_makes_world {P : Program} {w : World} {K : PySem.W.Frag} {mg : Str → Option Value} {base : Heap} {a : Adr} (T : Txt K mg a) (hw : w.params = a.Pm) : FnOk P w K mg base CX0 5 a.makes_world a.makes_world_fd ["signs", "ways", "starts", "fair"] (sp_makes_world K a) := by
  have G_are_names := ok_are_names (P := P) (w := w) (base := base) T hw
  have G_are_some_rooms := ok_are_some_rooms (P := P) (w := w) (base := base) T hw
  refine T.f_makes_world.ok sc_makes_world (fun vs H Q E h => ?_) (fun cdv A outer s H vs Q E hr h => ?_)
  · obtain ⟨x, y, z, u, rfl, _⟩ := h
    rfl
  · obtain ⟨x, y, z, u, rfl, kx, ky, kz, ku, k⟩ := h
    refine ⟨_, (@pss_cons _ _ _ _ _ (@ps_if _ _ _ _ _ _ _ _ (PW.pt (pw_or (@pt_not _ _ _ _ (pt_val (pe_callB (call_isiK (K := K) rfl "list") rfl T.b_isinstance PyProof.Rows.Boot.«isinstance» (@pa_cons _ _ _ _ _ (pv 0)
      (@pa_cons _ _ _ _ _ (pe_bltn (v := .ty "list") rfl T.b_list PyProof.Rows.Boot.«list» rfl)
      pa_nil
      (by rfl))
      (by rfl))))) (pw_or1 (@pt_not _ _ _ _ (pt_val (pe_callB (call_isiK (K := K) rfl "list") rfl T.b_isinstance PyProof.Rows.Boot.«isinstance» (@pa_cons _ _ _ _ _ (pv 1)
      (@pa_cons _ _ _ _ _ (pe_bltn (v := .ty "list") rfl T.b_list PyProof.Rows.Boot.«list» rfl)
      pa_nil
      (by rfl))
      (by rfl))))))))
      (@pss_one _ _ _ (@ps_ret _ _ _ _ pe_bl))
      pss_nil)
      (@pss_cons _ _ _ _ _ (@ps_set _ _ (4) _ _ _ _ sc_makes_world.nd
      rfl
      (Or.inr rfl)
      (pe_callB (call_lenK (K := K) rfl) rfl T.b_len PyProof.Rows.Boot.«len» (@pa_cons _ _ _ _ _ (pv 0)
      pa_nil
      (by rfl)))
      (by rfl)
      (by first | exact .inl rfl | exact .inr rfl | assumption))
      (@pss_cons _ _ _ _ _ (@ps_if _ _ _ _ _ _ _ _ (PW.pt (pw_or (@pt_not _ _ _ _ (pt_chain op_le op_le pe_int (pv 4) (pe_gc rfl T.c_MOST_ROOMS))) (pw_or1 (@pt_cmpR _ _ _ _ _ _ _ _ op_ne
      (pe_callB (call_lenK (K := K) rfl) rfl T.b_len PyProof.Rows.Boot.«len» (@pa_cons _ _ _ _ _ (pv 1)
      pa_nil
      (by rfl)))
      (pv 4)
      (nomark _)))))
      (@pss_one _ _ _ (@ps_ret _ _ _ _ pe_bl))
      pss_nil)
      (@pss_cons _ _ _ _ _ (@ps_if _ _ _ _ _ _ _ _ (@pt_not _ _ _ _ (pt_val (pe_callB (call_allK (K := K) rfl rfl) rfl T.b_all PyProof.Rows.Boot.«all» (@pa_cons _ _ _ _ _ (pe_compL (Nc := ["names"]) (ix := [none]) (CompOk.of (by decide +kernel : compChk (defScope s_makes_world) ["signs", "ways", "starts", "fair", "many"] ["names"] [none] _ = true)) rfl (pi_listK (K := K) rfl (pv 0)) (fun _ _ _ _ _ => (pg_name (i := 0) (show List.Nodup (["names"] : List Str) by decide +kernel) rfl (Or.inl rfl))) (fun _ _ _ _ _ => pts_nil) (fun _ _ _ _ _ => (pe_call G_are_names (hr.mono (by decide)) rfl T.g_are_names T.f_are_names.kp T.n_are_names .nil pass0 (@pa_cons _ _ _ _ _ (pv 0)
      pa_nil
      (by rfl)))))
      pa_nil
      (by rfl)))))
      (@pss_one _ _ _ (@ps_ret _ _ _ _ pe_bl))
      pss_nil)
      (@pss_cons _ _ _ _ _ (@ps_if _ _ _ _ _ _ _ _ (@pt_not _ _ _ _ (pt_val (pe_callB (call_allK (K := K) rfl rfl) rfl T.b_all PyProof.Rows.Boot.«all» (@pa_cons _ _ _ _ _ (pe_compL (Nc := ["rooms", "many"]) (ix := [none, some 4]) (CompOk.of (by decide +kernel : compChk (defScope s_makes_world) ["signs", "ways", "starts", "fair", "many"] ["rooms", "many"] [none, some 4] _ = true)) rfl (pi_listK (K := K) rfl (pv 1)) (fun _ _ _ _ _ => (pg_name (i := 0) (show List.Nodup (["rooms", "many"] : List Str) by decide +kernel) rfl (Or.inl rfl))) (fun _ _ _ _ _ => pts_nil) (fun _ _ _ _ _ => (pe_call G_are_some_rooms (hr.mono (by decide)) rfl T.g_are_some_rooms T.f_are_some_rooms.kp T.n_are_some_rooms .nil pass0 (@pa_cons _ _ _ _ _ (pv 0)
      (@pa_cons _ _ _ _ _ (pv 1)
      pa_nil
      (by rfl))
      (by rfl)))))
      pa_nil
      (by rfl)))))
      (@pss_one _ _ _ (@ps_ret _ _ _ _ pe_bl))
      pss_nil)
      (@pss_one _ _ _ (@ps_ret _ _ _ _ (pe_and (pe_call G_are_some_rooms (hr.mono (by decide)) rfl T.g_are_some_rooms T.f_are_some_rooms.kp T.n_are_some_rooms .nil pass0 (@pa_cons _ _ _ _ _ (pv 2)
      (@pa_cons _ _ _ _ _ (pv 4)
      pa_nil
      (by rfl))
      (by rfl))) (pe_and (pe_call G_are_names (hr.mono (by decide)) rfl T.g_are_names T.f_are_names.kp T.n_are_names .nil pass0 (@pa_cons _ _ _ _ _ (pv 3)
      pa_nil
      (by rfl))) (pe_one (@pe_cmpR _ _ _ _ _ _ _ _ op_le
      (pe_callB (call_lenK (K := K) rfl) rfl T.b_len PyProof.Rows.Boot.«len» (@pa_cons _ _ _ _ _ (pv 3)
      pa_nil
      (by rfl)))
      (pe_gc rfl T.c_MOST_FAIR)
      (nomark _)))))))))))), ?_⟩
    rcases kd_list kx.1 with ⟨hb, p, xs, rfl, hp, hl⟩ | ⟨hb, e⟩
    case inr =>
      obtain ⟨t, h1, h2⟩ := isi_f K (by simp) kx.1 hb
      have q := k H (.refl H)
      have e2 : makesW H x y z u = false := by unfold makesW; rw [e]
      rw [e2] at q
      exact ⟨_, rfl, _, t, _, rfl, h1, h2, _, rfl, iteT (iteT q)⟩
    obtain ⟨t, h1, h2⟩ := isi_f K (by simp) kx.1 hb
    refine ⟨_, rfl, _, t, _, rfl, h1, h2, _, rfl, iteF ?_⟩
    rcases kd_list ky.1 with ⟨hb2, p2, ys, rfl, hp2, hl2⟩ | ⟨hb2, e⟩
    case inr =>
      obtain ⟨t, h1, h2⟩ := isi_f K (by simp) ky.1 hb2
      have q := k H (.refl H)
      have e2 : makesW H (.ref p) y z u = false := by unfold makesW; rw [hl, e]
      rw [e2] at q
      exact ⟨_, rfl, _, t, _, rfl, h1, h2, _, rfl, iteT q⟩
    obtain ⟨t2, h3, h4⟩ := isi_f K (by simp) ky.1 hb2
    refine ⟨_, rfl, _, t2, _, rfl, h3, h4, _, rfl, iteF ?_⟩
    obtain ⟨hz, hy⟩ := kx.2 xs hl
    obtain ⟨hz2, hy2⟩ := ky.2 ys hl2
    have hS : xs.length ≤ sizeLine := by rw [sizeLine_eq]; omega
    have hS2 : ys.length ≤ sizeLine := by rw [sizeLine_eq]; omega
    have ev : makesW H (.ref p) (.ref p2) z u = (decide (1 ≤ xs.length) && decide (xs.length ≤ 20) && decide (ys.length = xs.length) && xs.all (areNames H) && ys.all (someRooms H xs.length) && (someRooms H xs.length z && (areNames H u && few3 (lstOf H u)))) := by unfold makesW; rw [hl, hl2]
    rw [ev] at k
    refine ⟨_, rfl, .inl ⟨p, xs, rfl, .inl (SqL.of hp), ?_⟩⟩
    refine ⟨_, rfl, _, _, rfl, rfl, _, rfl, ?_⟩
    cases c1 : decide ((1 : Int) ≤ xs.length) with
    | false =>
      have e1 : decide (1 ≤ xs.length) = false := decide_eq_false fun q => absurd (of_decide_eq_false c1) (by omega)
      rw [e1] at k
      exact iteF ⟨_, rfl, iteT (iteT (k H (.refl H)))⟩
    | true =>
    have e1 : decide (1 ≤ xs.length) = true := decide_eq_true (by have := of_decide_eq_true c1; omega)
    rw [e1] at k
    refine iteT ⟨_, _, rfl, rfl, _, rfl, ?_⟩
    cases c2 : decide ((xs.length : Int) ≤ 20) with
    | false =>
      have e2 : decide (xs.length ≤ 20) = false := decide_eq_false fun q => absurd (of_decide_eq_false c2) (by omega)
      rw [e2] at k
      exact iteT (iteT (k H (.refl H)))
    | true =>
    have e2 : decide (xs.length ≤ 20) = true := decide_eq_true (by have := of_decide_eq_true c2; omega)
    rw [e2] at k
    refine iteF ⟨_, rfl, .inl ⟨p2, ys, rfl, .inl (SqL.of hp2), _, rfl, rfl, _, rfl, ?_⟩⟩
    cases c3 : decide (V.int (ys.length : Int) = V.int (xs.length : Int)) with
    | false =>
      have e3 : decide (ys.length = xs.length) = false := decide_eq_false fun q => absurd (of_decide_eq_false c3) (by rw [q]; simp)
      rw [e3] at k
      exact iteT (k H (.refl H))
    | true =>
    have e3 : decide (ys.length = xs.length) = true := decide_eq_true (by have := V.int.inj (of_decide_eq_true c3); omega)
    rw [e3] at k
    refine iteF ⟨_, rfl, p, rfl, ⟨xs, SqL.of hp⟩, fun D hD => ?_⟩
    refine comp_mapL (K := K) hD (SqL.of hp) hS (fun i v _ => ∀ x, xs[i]? = some x → v = .bl (areNames H x)) (fun _ _ _ _ _ q => q) ?_ ?_
    · intro i x H2 N hx sm hN
      have hk := hy x (List.mem_of_getElem? hx)
      refine ⟨_, rfl, x, rfl, hk.mono sm, fun H3 s3 => hN _ _ s3 fun x' hx' => ?_⟩
      rw [hx] at hx'; cases hx'
      rw [areNames_same sm hk.1]
    intro H2 zs hD2 sm hlen hr
    have ey := all_map_of (f := areNames H) hlen fun i v x h1 h2 => hr i v h1 x h2
    refine ⟨D, _, rfl, SqL.of (by rw [hD2, ey]), _, rfl, ?_⟩
    rw [all_id]
    cases c4 : xs.all (areNames H) with
    | false =>
      rw [c4] at k
      exact iteT (k H2 sm)
    | true =>
    rw [c4] at k
    refine iteF ⟨_, rfl, p2, rfl, ⟨ys, SqL.of (sm _ _ hp2)⟩, fun D' hD' => ?_⟩
    refine comp_mapL (K := K) hD' (SqL.of (sm _ _ hp2)) hS2 (fun i v _ => ∀ x, ys[i]? = some x → v = .bl (someRooms H xs.length x)) (fun _ _ _ _ _ q => q) ?_ ?_
    · intro i x H3 N hx sm3 hN
      have hk := hy2 x (List.mem_of_getElem? hx)
      have s3 := sm.trans sm3
      refine ⟨_, rfl, _, rfl, x, _, rfl, hk.mono s3, fun H4 s4 => hN _ _ s4 fun x' hx' => ?_⟩
      rw [hx] at hx'; cases hx'
      rw [someRooms_same s3 hk.1]
    intro H3 zs3 hD3 sm3 hlen3 hr3
    have s3 := sm.trans sm3
    have ey3 := all_map_of (f := someRooms H xs.length) hlen3 fun i v x h1 h2 => hr3 i v h1 x h2
    refine ⟨D', _, rfl, SqL.of (by rw [hD3, ey3]), _, rfl, ?_⟩
    rw [all_id]
    cases c5 : ys.all (someRooms H xs.length) with
    | false =>
      rw [c5] at k
      exact iteT (k H3 s3)
    | true =>
    rw [c5] at k
    refine iteF ⟨_, rfl, _, rfl, z, _, rfl, kz.mono s3, fun H4 s4 => ⟨_, rfl, ?_⟩⟩
    rw [someRooms_same s3 kz.1]
    have s5 := s3.trans s4
    cases c6 : someRooms H xs.length z with
    | false =>
      rw [c6] at k
      exact iteF (k H4 s5)
    | true =>
    rw [c6] at k
    refine iteT ⟨_, rfl, u, rfl, ku.mono s5, fun H5 s6 => ⟨_, rfl, ?_⟩⟩
    rw [areNames_same s5 ku.1]
    have s7 := s5.trans s6
    cases c7 : areNames H u with
    | false =>
      rw [c7] at k
      exact iteF (k H5 s7)
    | true =>
    rw [c7] at k
    rcases kd_list ku.1 with ⟨_, p4, fs, rfl, hp4, hl4⟩ | ⟨_, e⟩
    · rw [hl4] at k
      refine iteT ⟨_, rfl, .inl ⟨p4, fs, rfl, .inl (SqL.of (s7 _ _ hp4)), _, _, rfl, rfl, ?_⟩⟩
      have q := k H5 s7
      have e8 : decide (fs.length ≤ 3) = decide ((fs.length : Int) ≤ 3) := decide_eq_decide.mpr (by omega)
      simp only [few3] at q
      rw [e8] at q
      exact q
    · unfold areNames at c7
      rw [e] at c7
      cases c7
end KK

set_option Elab.async false
set_option linter.all false
set_option maxRecDepth 100000
set_option maxHeartbeats 8000000
namespace KK
open PySem PySem.Spec L2 L3
def sp_World_init (K : PySem.W.Frag) (a : Adr) : Sp := fun vs H Q _ => ∃ p dx x y z u d, vs = [.ref p, x, y, z, u] ∧ H p = some (.ins a.C_World dx []) ∧ PartsV H x y z u d ∧ Good d ∧ ∀ H', SameX p H H' → WorldAt a.C_World H' p d → Q .non H'
theorem ok_World_init {P : Program} {w : World} {K : PySem.W.Frag} {mg : Str → Option Value} {base : Heap} {a : Adr} (T : Txt K mg a) (hw : w.params = a.Pm) : FnOk P w K mg base CX0 6 a.World_init a.World_init_fd ["self", "signs", "ways", "starts", "fair"] (sp_World_init K a) := by
  have G_makes_world := ok_makes_world (P := P) (w := w) (base := base) T hw
  refine T.f_World_init.ok sc_World_init (fun vs H Q E h => ?_) (fun cdv A outer s H vs Q E hr h => ?_)
  · obtain ⟨p, dx, x, y, z, u, d, rfl, _⟩ := h
    rfl
  · obtain ⟨p, dx, x, y, z, u, d, rfl, hp, pp, gd, k⟩ := h
    refine ⟨_, (@pss_cons _ _ _ _ _ (@ps_if _ _ _ _ _ _ _ _ (@pt_not _ _ _ _ (pt_val (pe_call G_makes_world (hr.mono (by decide)) rfl T.g_makes_world T.f_makes_world.kp T.n_makes_world .nil pass0 (@pa_c _ _ _ _ _ (pv 1)
      (@pa_c _ _ _ _ _ (pv 2)
      (@pa_c _ _ _ _ _ (pv 3)
      (@pa_c _ _ _ _ _ (pv 4)
      pa_nil
      (by rfl))
      (by rfl))
      (by rfl))
      (by rfl)))))
      (@pss_one _ _ _ ps_never)
      pss_nil)
      (@pss_cons _ _ _ _ _ (ps_fld (pv 0) (pe_callTy (call_tupleK (K := K) rfl) rfl T.b_tuple PyProof.Rows.Boot.«tuple» (@pa_cons _ _ _ _ _ (pe_compL (Nc := ["names"]) (ix := [none]) (CompOk.of (by decide +kernel : compChk (defScope s_World_init) ["self", "signs", "ways", "starts", "fair"] ["names"] [none] _ = true)) rfl (pi_listK (K := K) rfl (pv 1)) (fun _ _ _ _ _ => (pg_name (i := 0) (show List.Nodup (["names"] : List Str) by decide +kernel) rfl (Or.inl rfl))) (fun _ _ _ _ _ => pts_nil) (fun _ _ _ _ _ => (pe_callTy (call_tupleK (K := K) rfl) rfl T.b_tuple PyProof.Rows.Boot.«tuple» (@pa_cons _ _ _ _ _ (pe_callB (call_sortedK (K := K) rfl) rfl T.b_sorted PyProof.Rows.Boot.«sorted» (@pa_cons _ _ _ _ _ (pv 0)
      pa_nil
      (by rfl)))
      pa_nil
      (by rfl)))))
      pa_nil
      (by rfl))) rfl)
      (@pss_cons _ _ _ _ _ (ps_fld (pv 0) (pe_callTy (call_tupleK (K := K) rfl) rfl T.b_tuple PyProof.Rows.Boot.«tuple» (@pa_cons _ _ _ _ _ (pe_compL (Nc := ["rooms"]) (ix := [none]) (CompOk.of (by decide +kernel : compChk (defScope s_World_init) ["self", "signs", "ways", "starts", "fair"] ["rooms"] [none] _ = true)) rfl (pi_listK (K := K) rfl (pv 2)) (fun _ _ _ _ _ => (pg_name (i := 0) (show List.Nodup (["rooms"] : List Str) by decide +kernel) rfl (Or.inl rfl))) (fun _ _ _ _ _ => pts_nil) (fun _ _ _ _ _ => (pe_callTy (call_tupleK (K := K) rfl) rfl T.b_tuple PyProof.Rows.Boot.«tuple» (@pa_cons _ _ _ _ _ (pe_callB (call_sortedK (K := K) rfl) rfl T.b_sorted PyProof.Rows.Boot.«sorted» (@pa_cons _ _ _ _ _ (pv 0)
      pa_nil
      (by rfl)))
      pa_nil
      (by rfl)))))
      pa_nil
      (by rfl))) rfl)
      (@pss_cons _ _ _ _ _ (ps_fld (pv 0) (pe_callTy (call_tupleK (K := K) rfl) rfl T.b_tuple PyProof.Rows.Boot.«tuple» (@pa_cons _ _ _ _ _ (pe_callB (call_sortedK (K := K) rfl) rfl T.b_sorted PyProof.Rows.Boot.«sorted» (@pa_cons _ _ _ _ _ (pv 3)
      pa_nil
      (by rfl)))
      pa_nil
      (by rfl))) rfl)
      (@pss_one _ _ _ (ps_fld (pv 0) (pe_callTy (call_tupleK (K := K) rfl) rfl T.b_tuple PyProof.Rows.Boot.«tuple» (@pa_cons _ _ _ _ _ (pv 4)
      pa_nil
      (by rfl))) rfl)))))), ?_⟩
    obtain ⟨kx, ky, kz, ku⟩ := pp.kd gd
    have hm := pp.makes gd
    refine ⟨_, rfl, _, rfl, _, rfl, _, rfl, x, y, z, u, rfl, kx, ky, kz, ku, fun H1 s1 => ⟨_, rfl, ?_⟩⟩
    rw [hm]
    refine iteF ?_
    have p1 := pp.mono s1
    have hp1 := s1 _ _ hp
    have ph := p1.hid hp1
    have := gd.n20
    have := gd.wl
    -- self.room_signs
    obtain ⟨b1, v1, e1, g1, l1, q1⟩ := p1.s
    subst e1
    refine ⟨_, rfl, b1, rfl, ⟨v1, SqL.of g1⟩, fun D hD => ?_⟩
    refine comp_mapL (K := K) hD (SqL.of g1) (by rw [sizeLine_eq]; omega) (fun i v G => ∀ ss, d.signs[i]? = some ss → TS G v (sortS ss)) (fun i v _ _ sm q ss e => TS.mono _ _ _ _ sm (q ss e)) ?_ ?_
    · intro i w H2 N hx sm hN
      have hi : i < d.signs.length := by rw [← l1]; exact (List.getElem?_eq_some_iff.mp hx).1
      obtain ⟨c, rfl, ec⟩ := q1 i w _ hx (List.getElem?_eq_getElem hi)
      have hg := gd.sn _ (List.getElem_mem hi)
      refine ⟨_, rfl, .inl ⟨c, _, rfl, SqL.of (sm _ _ ec), by omega, fun l hl => ⟨l, _, rfl, .inl ⟨SqL.of upd_same, fun t ht => ?_⟩⟩⟩⟩
      refine hN _ _ ((same_upd hl).trans (same_upd ht)) fun ss hss => ⟨t, rfl, New.mk ((same_upd hl).free ht) ?_⟩
      rw [List.getElem?_eq_getElem hi] at hss
      cases hss
      rw [upd_same]
    intro H2 w1 hD2 s2 lw1 r1
    refine ⟨D, w1, rfl, .inl ⟨SqL.of hD2, fun t1 ht1 => ?_⟩⟩
    have st1 := same_upd (o := .tup w1) ht1
    have hp2 := st1 _ _ (s2 _ _ hp1)
    refine ⟨_, rfl, p, _, dx, [], rfl, hp2, T.cl_World, T.na_World_room_signs, by decide, ?_⟩
    have x2 : SameX p H1 (upd (upd H2 t1 (.tup w1)) p (.ins a.C_World dx (putF "room_signs" (.ref t1) []))) := (Same.x (s2.trans st1)).upd
    have np1 : t1 ≠ p := fun z => by subst z; rw [s2 _ _ hp1] at ht1; cases ht1
    have W1 : LT TS (hide p (upd (upd H2 t1 (.tup w1)) p (.ins a.C_World dx (putF "room_signs" (.ref t1) [])))) (.ref t1) (d.signs.map sortS) := by
      refine lt_of_map (xs := d.signs) (hide_mk np1 (by rw [upd_ne np1, upd_same])) (lw1.trans l1) fun i v hv ss hss => ?_
      refine TS.mono _ _ _ _ ?_ (r1 i v hv ss hss)
      exact (New.hidden hp1).trans (SameX.hide ((Same.x st1).upd))
    have hp3 : (upd (upd H2 t1 (.tup w1)) p (.ins a.C_World dx (putF "room_signs" (.ref t1) []))) p = some (.ins a.C_World dx (putF "room_signs" (.ref t1) [])) := upd_same
    rw [put1] at x2 W1 hp3 ⊢
    generalize upd (upd H2 t1 (.tup w1)) p (.ins a.C_World dx ([("room_signs", V.ref t1)] : List (Str × V))) = H3 at x2 W1 hp3 ⊢
    have p3 := (ph.mono x2.hide).mono hide_sub
    -- self.room_ways
    obtain ⟨b2, v2, e2, g2, l2, q2⟩ := p3.w
    subst e2
    refine ⟨_, rfl, b2, rfl, ⟨v2, SqL.of g2⟩, fun D2 hDD => ?_⟩
    refine comp_mapL (K := K) hDD (SqL.of g2) (by rw [sizeLine_eq]; omega) (fun i v G => ∀ ss, d.ways[i]? = some ss → TIn G v (sortI ss)) (fun i v _ _ sm q ss e => TIn.mono _ _ _ _ sm (q ss e)) ?_ ?_
    · intro i w H4 N hx sm hN
      have hi : i < d.ways.length := by rw [← l2]; exact (List.getElem?_eq_some_iff.mp hx).1
      obtain ⟨c, rfl, ec⟩ := q2 i w _ hx (List.getElem?_eq_getElem hi)
      have hg := gd.wn _ (List.getElem_mem hi)
      refine ⟨_, rfl, .inr ⟨c, _, rfl, SqL.of (sm _ _ ec), by omega, fun l hl => ⟨l, _, rfl, .inl ⟨SqL.of upd_same, fun t ht => ?_⟩⟩⟩⟩
      refine hN _ _ ((same_upd hl).trans (same_upd ht)) fun ss hss => ⟨t, rfl, New.mk ((same_upd hl).free ht) ?_⟩
      rw [List.getElem?_eq_getElem hi] at hss
      cases hss
      rw [upd_same]
    intro H4 w2 hD4 s4 lw2 r2
    refine ⟨D2, w2, rfl, .inl ⟨SqL.of hD4, fun t2 ht2 => ?_⟩⟩
    have st2 := same_upd (o := .tup w2) ht2
    have hp4 := st2 _ _ (s4 _ _ hp3)
    refine ⟨_, rfl, p, _, dx, _, rfl, hp4, T.cl_World, T.na_World_room_ways, by simp, ?_⟩
    have x4 : SameX p H3 (upd (upd H4 t2 (.tup w2)) p (.ins a.C_World dx (putF "room_ways" (.ref t2) ([("room_signs", V.ref t1)] : List (Str × V))))) := (Same.x (s4.trans st2)).upd
    have np2 : t2 ≠ p := fun z => by subst z; rw [s4 _ _ hp3] at ht2; cases ht2
    have W2 : LT TIn (hide p (upd (upd H4 t2 (.tup w2)) p (.ins a.C_World dx (putF "room_ways" (.ref t2) ([("room_signs", V.ref t1)] : List (Str × V)))))) (.ref t2) (d.ways.map sortI) := by
      refine lt_of_map (xs := d.ways) (hide_mk np2 (by rw [upd_ne np2, upd_same])) (lw2.trans l2) fun i v hv ss hss => ?_
      refine TIn.mono _ _ _ _ ?_ (r2 i v hv ss hss)
      exact (New.hidden hp3).trans (SameX.hide ((Same.x st2).upd))
    have hp5 : (upd (upd H4 t2 (.tup w2)) p (.ins a.C_World dx (putF "room_ways" (.ref t2) ([("room_signs", V.ref t1)] : List (Str × V))))) p = some (.ins a.C_World dx (putF "room_ways" (.ref t2) ([("room_signs", V.ref t1)] : List (Str × V)))) := upd_same
    have W1 := LT.mono TS.mono _ _ _ _ x4.hide W1
    rw [put2] at x4 W1 W2 hp5 ⊢
    generalize upd (upd H4 t2 (.tup w2)) p (.ins a.C_World dx ([("room_signs", V.ref t1), ("room_ways", V.ref t2)] : List (Str × V))) = H5 at x4 W1 W2 hp5 ⊢
    have x5 := x2.trans x4
    have p5 := (ph.mono x5.hide).mono hide_sub
    -- self.start_rooms
    obtain ⟨b3, e3, g3⟩ := p5.st
    subst e3
    have hst := gd.stn.2.2.2
    refine ⟨_, rfl, .inr ⟨b3, _, rfl, SqL.of g3, by omega, fun l hl => ⟨l, _, rfl, .inl ⟨SqL.of upd_same, fun t3 ht3 => ?_⟩⟩⟩⟩
    have st3 := (same_upd (o := .lst ((sortI d.starts).map V.int)) hl).trans (same_upd (o := .tup ((sortI d.starts).map V.int)) ht3)
    have hp6 := st3 _ _ hp5
    refine ⟨_, rfl, p, _, dx, _, rfl, hp6, T.cl_World, T.na_World_start_rooms, by simp, ?_⟩
    have np3 : t3 ≠ p := fun z => by subst z; rw [same_upd hl _ _ hp5] at ht3; cases ht3
    have x6 : SameX p H5 (upd (upd (upd H5 l (.lst ((sortI d.starts).map V.int))) t3 (.tup ((sortI d.starts).map V.int))) p (.ins a.C_World dx (putF "start_rooms" (.ref t3) ([("room_signs", V.ref t1), ("room_ways", V.ref t2)] : List (Str × V))))) := (Same.x st3).upd
    have hp7 : (upd (upd (upd H5 l (.lst ((sortI d.starts).map V.int))) t3 (.tup ((sortI d.starts).map V.int))) p (.ins a.C_World dx (putF "start_rooms" (.ref t3) ([("room_signs", V.ref t1), ("room_ways", V.ref t2)] : List (Str × V))))) p = some (.ins a.C_World dx (putF "start_rooms" (.ref t3) ([("room_signs", V.ref t1), ("room_ways", V.ref t2)] : List (Str × V)))) := upd_same
    have W3 : TIn (hide p (upd (upd (upd H5 l (.lst ((sortI d.starts).map V.int))) t3 (.tup ((sortI d.starts).map V.int))) p (.ins a.C_World dx (putF "start_rooms" (.ref t3) ([("room_signs", V.ref t1), ("room_ways", V.ref t2)] : List (Str × V)))))) (.ref t3) (sortI d.starts) := ⟨t3, rfl, hide_mk np3 (by rw [upd_ne np3, upd_same])⟩
    have W1 := LT.mono TS.mono _ _ _ _ x6.hide W1
    have W2 := LT.mono TIn.mono _ _ _ _ x6.hide W2
    rw [put3] at x6 W1 W2 W3 hp7 ⊢
    generalize upd (upd (upd H5 l (.lst ((sortI d.starts).map V.int))) t3 (.tup ((sortI d.starts).map V.int))) p (.ins a.C_World dx ([("room_signs", V.ref t1), ("room_ways", V.ref t2), ("start_rooms", V.ref t3)] : List (Str × V))) = H7 at x6 W1 W2 W3 hp7 ⊢
    have x7 := x5.trans x6
    have p7 := (ph.mono x7.hide).mono hide_sub
    -- self.fair_names
    obtain ⟨b4, e4, g4⟩ := p7.f
    subst e4
    refine ⟨_, rfl, b4, _, rfl, .inl ⟨SqL.of g4, fun t4 ht4 => ?_⟩⟩
    have st4 := same_upd (o := .tup (d.fair.map V.str)) ht4
    have hp8 := st4 _ _ hp7
    refine ⟨_, rfl, p, _, dx, _, rfl, hp8, T.cl_World, T.na_World_fair_names, by simp, ?_⟩
    have np4 : t4 ≠ p := fun z => by subst z; rw [hp7] at ht4; cases ht4
    have x8 : SameX p H7 (upd (upd H7 t4 (.tup (d.fair.map V.str))) p (.ins a.C_World dx (putF "fair_names" (.ref t4) ([("room_signs", V.ref t1), ("room_ways", V.ref t2), ("start_rooms", V.ref t3)] : List (Str × V))))) := (Same.x st4).upd
    refine k _ ((Same.x s1).trans (x7.trans x8)) ⟨dx, .ref t1, .ref t2, .ref t3, .ref t4, by rw [upd_same, put4], ?_, ?_, ?_, ?_⟩
    · exact LT.mono TS.mono _ _ _ _ (x8.hide.trans hide_sub) W1
    · exact LT.mono TIn.mono _ _ _ _ (x8.hide.trans hide_sub) W2
    · exact TIn.mono _ _ _ _ (x8.hide.trans hide_sub) W3
    · exact ⟨t4, rfl, by rw [upd_ne np4, upd_same]⟩
end KK

set_option Elab.async false
set_option linter.all false
set_option maxRecDepth 100000
set_option maxHeartbeats 8000000
namespace KK
open PySem PySem.Spec L2 L3
def sp__law_cell_at (K : PySem.W.Frag) (a : Adr) : Sp := fun vs H Q _ => ∃ (p : Addr) (ns : List Int) (j : Nat), vs = [.ref p, .int (j : Nat)] ∧ SqL K H p (ns.map V.int) ∧ ∀ n : Int, Q (.int n) H
theorem ok__law_cell_at {P : Program} {w : World} {K : PySem.W.Frag} {mg : Str → Option Value} {base : Heap} {a : Adr} (T : Txt K mg a) (hw : w.params = a.Pm) : FnOk P w K mg base CX0 1 a._law_cell_at a._law_cell_at_fd ["_law_script", "_law_k"] (sp__law_cell_at K a) := by
  refine T.f__law_cell_at.ok sc__law_cell_at (fun vs H Q E h => ?_) (fun cdv A outer s H vs Q E hr h => ?_)
  · obtain ⟨p, ns, j, rfl, _⟩ := h
    rfl
  · obtain ⟨p, ns, j, rfl, hq, k⟩ := h
    refine ⟨_, (@pss_cons _ _ _ _ _ (@ps_if _ _ _ _ _ _ _ _ (@pt_cmpR _ _ _ _ _ _ _ _ op_lt
      (pv 1)
      (pe_callB (call_lenK (K := K) rfl) rfl T.b_len PyProof.Rows.Boot.«len» (@pa_cons _ _ _ _ _ (pv 0)
      pa_nil
      (by rfl)))
      (nomark _))
      (@pss_one _ _ _ (@ps_ret _ _ _ _ (@pe_ix _ _ _ _ _ _ _ (ix_listK (K := K) rfl)
      (pv 0)
      (pv 1)
      (fun _ _ => rfl))))
      pss_nil)
      (@pss_one _ _ _ (@ps_ret _ _ _ _ pe_int))), ?_⟩
    refine ⟨_, rfl, _, rfl, .inl ⟨p, _, rfl, .inl hq, _, _, rfl, rfl, _, rfl, ?_⟩⟩
    refine ite2 (fun c => ?_) (fun _ => k 0)
    have hj : j < ns.length := by have := of_decide_eq_true c; rw [List.length_map] at this; omega
    exact ⟨_, rfl, _, rfl, p, _, _, _, rfl, rfl, hq, atI_nat (at_of hj), k _⟩
def sp__law_stream (K : PySem.W.Frag) (a : Adr) : Sp := fun vs H Q _ => ∃ (c : Int) (m : Nat), vs = [.int c, .int (m : Int)] ∧ m ≤ 1000 ∧ ∀ H' p (ns : List Int), Same H H' → H p = none → H' p = some (.lst (ns.map V.int)) → ns.length = m → Q (.ref p) H'
theorem ok__law_stream {P : Program} {w : World} {K : PySem.W.Frag} {mg : Str → Option Value} {base : Heap} {a : Adr} (T : Txt K mg a) (hw : w.params = a.Pm) : FnOk P w K mg base CX0 1 a._law_stream a._law_stream_fd ["_law_cell", "_law_many"] (sp__law_stream K a) := by
  refine T.f__law_stream.ok sc__law_stream (fun vs H Q E h => ?_) (fun cdv A outer s H vs Q E hr h => ?_)
  · obtain ⟨c, m, rfl, _⟩ := h
    rfl
  · obtain ⟨c, m, rfl, hm, k⟩ := h
    refine ⟨_, (@pss_cons _ _ _ _ _ (@ps_set _ _ (2) _ _ _ _ sc__law_stream.nd
      rfl
      (Or.inl rfl)
      (@pe_lst _ _ _ _ pa_nil)
      (by rfl)
      (by first | exact .inl rfl | exact .inr rfl | assumption))
      (@pss_cons _ _ _ _ _ (@ps_set _ _ (3) _ _ _ _ sc__law_stream.nd
      rfl
      (Or.inl rfl)
      (pv 0)
      (by rfl)
      (by first | exact .inl rfl | exact .inr rfl | assumption))
      (pss_join (@ps_if _ _ _ _ _ _ _ _ (@pt_cmpR _ _ _ _ _ _ _ _ op_eq
      (@pe_op _ _ _ _ _ _ _ _ op_mod
      (pv 0)
      pe_int)
      pe_int
      (nomark _))
      (@pss_cons _ _ _ _ _ (@ps_set _ _ (3) _ _ _ _ sc__law_stream.nd
      rfl
      (Or.inl rfl)
      (@pe_op _ _ _ _ _ _ _ _ op_fdiv
      (pv 0)
      pe_int)
      (by rfl)
      (by first | exact .inl rfl | exact .inr rfl | assumption))
      (@pss_one _ _ _ (ps_while PassesOwn.never (PW.pt (pw_and (@pt_cmpR _ _ _ _ _ _ _ _ op_gt
      (pv 3)
      (@pe_op _ _ _ _ _ _ _ _ op_pow
      pe_int
      pe_int)
      (nomark _)) (pw_and1 (@pt_cmpR _ _ _ _ _ _ _ _ op_lt
      (pe_callB (call_lenK (K := K) rfl) rfl T.b_len PyProof.Rows.Boot.«len» (@pa_cons _ _ _ _ _ (pv 2)
      pa_nil
      (by rfl)))
      (pv 1)
      (nomark _))))) (@pss_cons _ _ _ _ _ (@ps_expr _ _ _ _ (pe_bm PySem.F.plainAttrs_list PySem.F.slot_list_append PySem.F.type_list_append mt_append (pv 2) (@pa_cons _ _ _ _ _ (@pe_op _ _ _ _ _ _ _ _ op_mod
      (pv 3)
      (@pe_op _ _ _ _ _ _ _ _ op_pow
      pe_int
      pe_int))
      pa_nil
      (by rfl)))
      (by rfl))
      (@pss_one _ _ _ (@ps_set _ _ (3) _ _ _ _ sc__law_stream.nd
      rfl
      (Or.inl rfl)
      (@pe_op _ _ _ _ _ _ _ _ op_fdiv
      (pv 3)
      (@pe_op _ _ _ _ _ _ _ _ op_pow
      pe_int
      pe_int))
      (by rfl)
      (by first | exact .inl rfl | exact .inr rfl | assumption)))))))
      pss_nil)
          (@pss_cons _ _ _ _ _ (@ps_set _ _ (4) _ _ _ _ sc__law_stream.nd
      rfl
      (Or.inl rfl)
      (@pe_op _ _ _ _ _ _ _ _ op_add
      (@pe_op _ _ _ _ _ _ _ _ op_mod
      (pv 3)
      (@pe_op _ _ _ _ _ _ _ _ op_add
      (@pe_op _ _ _ _ _ _ _ _ op_pow
      pe_int
      pe_int)
      pe_int))
      pe_int)
      (by rfl)
      (by first | exact .inl rfl | exact .inr rfl | assumption))
      (@pss_cons _ _ _ _ _ (ps_for PassesOwn.never rfl (pi_range1 rfl T.b_range (@pa_cons _ _ _ _ _ (@pe_op _ _ _ _ _ _ _ _ op_add
      (pv 1)
      pe_int)
      pa_nil
      (by rfl))) (pg_name (i := 5) sc__law_stream.nd rfl (Or.inl rfl)) (@pss_cons _ _ _ _ _ (@ps_set _ _ (4) _ _ _ _ sc__law_stream.nd
      rfl
      (Or.inl rfl)
      (@pe_op _ _ _ _ _ _ _ _ op_mod
      (@pe_op _ _ _ _ _ _ _ _ op_add
      (@pe_op _ _ _ _ _ _ _ _ op_add
      (@pe_op _ _ _ _ _ _ _ _ op_mul
      (pv 4)
      (pv 4))
      (@pe_op _ _ _ _ _ _ _ _ op_mul
      pe_int
      (pv 4)))
      (pv 5))
      (@pe_op _ _ _ _ _ _ _ _ op_add
      (@pe_op _ _ _ _ _ _ _ _ op_pow
      pe_int
      pe_int)
      pe_int))
      (by rfl)
      (by first | exact .inl rfl | exact .inr rfl | assumption))
      (@pss_one _ _ _ (@ps_if _ _ _ _ _ _ _ _ (@pt_cmpR _ _ _ _ _ _ _ _ op_gt
      (pv 5)
      pe_int
      (nomark _))
      (@pss_one _ _ _ (@ps_expr _ _ _ _ (pe_bm PySem.F.plainAttrs_list PySem.F.slot_list_append PySem.F.type_list_append mt_append (pv 2) (@pa_cons _ _ _ _ _ (pv 4)
      pa_nil
      (by rfl)))
      (by rfl)))
      pss_nil))))
      (@pss_one _ _ _ (@ps_ret _ _ _ _ (pe_slice (sl_listK (K := K) rfl) (pv 2) po_none (po_some (pv 1)))))))))), ?_⟩
    refine ⟨by decide, fun D hD => ?_⟩
    refine ⟨_, rfl, ?_⟩
    refine ⟨fun σ H' => ∃ (ns : List Int) (r : Int), σ = [some (.int c), some (.int m), some (.ref D), some (.int r), none, none] ∧ H' D = some (.lst (ns.map V.int)) ∧ Same H H' ∧ ns.length ≤ m, ?_, ?_⟩
    · refine ⟨_, rfl, _, _, rfl, rfl, by decide, rfl, _, rfl, ite2 (fun c1 => ?_) (fun c1 => ?_)⟩
      · refine ⟨_, rfl, _, _, rfl, rfl, ⟨by decide, by decide⟩, ?_⟩
        refine ⟨fun n σ H' => ∃ (ns : List Int) (r : Int), σ = [some (.int c), some (.int m), some (.ref D), some (.int r), none, none] ∧ H' D = some (.lst (ns.map V.int)) ∧ Same H H' ∧ ns.length ≤ m ∧ n = m - ns.length, ⟨m, [], _, rfl, upd_same, same_upd hD, Nat.zero_le _, rfl⟩, ?_⟩
        rintro n σ H1 ⟨ns, r, rfl, h1, s1, hl, rfl⟩
        refine ⟨_, rfl, _, _, rfl, rfl, ⟨by decide, by decide, by decide⟩, _, _, rfl, rfl, _, rfl, ite2 (fun c2 => ⟨_, rfl, .inl ⟨D, _, rfl, .inl (SqL.of h1), _, rfl, _, _, rfl, rfl, _, rfl, ite2 (fun c3 => ?body) (fun c3 => ?rest)⟩⟩) (fun c2 => iteF ?rest2)⟩
        case rest => exact ⟨ns, r, rfl, h1, s1, hl⟩
        case rest2 => exact ⟨ns, r, rfl, h1, s1, hl⟩
        case body =>
          have c4 : ns.length < m := by have := of_decide_eq_true c3; rw [List.length_map] at this; omega
          refine ⟨fun σ H' => ∃ (ns' : List Int) (r : Int), σ = [some (.int c), some (.int m), some (.ref D), some (.int r), none, none] ∧ H' D = some (.lst (ns'.map V.int)) ∧ Same H H' ∧ ns'.length = ns.length + 1, ?_, ?_⟩
          · rintro σ' H' ⟨ns', r', rfl, a1, a2, a3⟩
            exact ⟨m - ns'.length, by omega, ns', r', rfl, a1, a2, by omega, rfl⟩
          · refine ⟨_, rfl, .inl ⟨rfl, _, SqL.of h1⟩, _, rfl, _, _, rfl, rfl, ⟨by decide, by decide, by decide⟩, _, _, rfl, rfl, by decide, D, _, _, rfl, rfl, h1, by rw [List.length_map, sizeLine_eq]; omega, ?_⟩
            refine ⟨_, rfl, _, _, rfl, rfl, ⟨by decide, by decide, by decide⟩, _, _, rfl, rfl, ⟨by decide, by decide⟩, ?_⟩
            exact ⟨ns ++ [_], _, rfl, by rw [upd_same, List.map_append]; rfl, (SameX.upd (Same.x s1)).same hD, by simp⟩
      · exact ⟨[], c, rfl, upd_same, same_upd hD, Nat.zero_le _⟩
    rintro σ H1 ⟨ns, r, rfl, h1, s1, hl⟩
    have e18 : ((10 : Int) ^ (18 : Int).toNat + 9) = 1000000000000000009 := by decide
    refine ⟨_, rfl, _, _, rfl, rfl, ⟨by decide, by decide, by decide⟩, _, _, rfl, rfl, _, _, rfl, rfl, by decide, _, _, rfl, rfl, ?_⟩
    refine ⟨_, rfl, _, _, rfl, rfl, _, rfl, by omega, by omega, ?_⟩
    have e0 : ((m : Int) + 2).toNat = m + 2 := by omega
    rw [e0]
    have r0 := Int.emod_nonneg r (show (1000000000000000009 : Int) ≠ 0 by decide)
    have r1 := Int.emod_lt_of_pos r (show (0 : Int) < 1000000000000000009 by decide)
    refine for_gen (J := Itr 0 (m + 2)) (n := m + 2) (fun i σ H' => ∃ (ns' : List Int) (num : Int) (z : Option V), σ = [some (.int c), some (.int m), some (.ref D), some (.int r), some (.int num), z] ∧ (0 ≤ num ∧ num < 1000000000000100000) ∧ H' D = some (.lst (ns'.map V.int)) ∧ Same H H' ∧ ns'.length = ns.length + (i - 2)) ?_ (fun i σ H' hi _ => hi) (fun σ H' _ => Nat.le_refl _) ?_ ?_
    · exact ⟨ns, r % 1000000000000000009 + 48271, none, rfl, ⟨by omega, by omega⟩, h1, s1, by simp⟩
    · rintro i x σ H2 H3 hi ⟨ns', num, z, rfl, ⟨n0, n1⟩, g1, g2, g3⟩ ⟨rfl, rfl⟩
      refine ⟨_, rfl, _, rfl, _, _, rfl, rfl, .inl ⟨by omega, by omega⟩, _, rfl, _, _, rfl, rfl, .inl ⟨by decide, by decide⟩, _, _, rfl, rfl, _, rfl, _, _, rfl, rfl, _, _, rfl, rfl, ⟨by decide, by decide, by decide⟩, _, _, rfl, rfl, _, _, rfl, rfl, by decide, ?_⟩
      have m0 := Int.emod_nonneg (num * num + 48271 * num + (0 + (i : Int))) (show ((10 : Int) ^ (18 : Int).toNat + 9) ≠ 0 by decide)
      have m1 := Int.emod_lt_of_pos (num * num + 48271 * num + (0 + (i : Int))) (show (0 : Int) < ((10 : Int) ^ (18 : Int).toNat + 9) by decide)
      have m2 : ((10 : Int) ^ (18 : Int).toNat + 9) < 1000000000000100000 := by decide
      refine ⟨_, rfl, _, _, rfl, rfl, _, rfl, ite2 (fun c1 => ?_) (fun c1 => ?_)⟩
      · have c2 : 1 < i := by have := of_decide_eq_true c1; omega
        refine ⟨_, rfl, .inl ⟨rfl, _, SqL.of g1⟩, _, rfl, D, _, _, rfl, rfl, g1, by rw [List.length_map, sizeLine_eq]; omega, ?_⟩
        exact ⟨ns' ++ [_], _, _, rfl, ⟨m0, Int.lt_trans m1 m2⟩, by rw [upd_same, List.map_append]; rfl, (SameX.upd (Same.x g2)).same hD, by rw [List.length_append, g3]; show _ + 1 = _; omega⟩
      · have c2 : ¬ 1 < i := fun q => c1 (decide_eq_true (by omega))
        exact ⟨ns', _, _, rfl, ⟨m0, Int.lt_trans m1 m2⟩, g1, g2, by rw [g3]; omega⟩
    · rintro σ H2 ⟨ns', num, z, rfl, _, g1, g2, g3⟩
      refine ⟨_, rfl, ?_⟩
      refine ⟨_, rfl, m, rfl, D, _, rfl, SqL.of g1, fun p hp => ?_⟩
      refine k _ p (ns'.take m) (g2.trans (same_upd hp)) (g2.free hp) ?_ (by rw [List.length_take]; omega)
      rw [upd_same, cutV_to _ m (by rw [List.length_map]; omega), List.map_take]
end KK

set_option Elab.async false
set_option linter.all false
set_option maxRecDepth 100000
set_option maxHeartbeats 8000000
namespace KK
open PySem PySem.Spec L2 L3
def sp__law_names (K : PySem.W.Frag) (a : Adr) : Sp := fun vs H Q _ => ∃ (c : Int), vs = [.int c] ∧ ∀ H' p (ss : List Str), Same H H' → H p = none → H' p = some (.lst (ss.map V.str)) → ss.length = 3 → (∀ x ∈ ss, isNameS x = true) → ss.Nodup → Q (.ref p) H'
theorem ok__law_names {P : Program} {w : World} {K : PySem.W.Frag} {mg : Str → Option Value} {base : Heap} {a : Adr} (T : Txt K mg a) (hw : w.params = a.Pm) : FnOk P w K mg base CX0 2 a._law_names a._law_names_fd ["_law_cell"] (sp__law_names K a) := by
  have G__law_stream := ok__law_stream (P := P) (w := w) (base := base) T hw
  refine T.f__law_names.ok sc__law_names (fun vs H Q E h => ?_) (fun cdv A outer s H vs Q E hr h => ?_)
  · obtain ⟨c, rfl, _⟩ := h
    rfl
  · obtain ⟨c, rfl, k⟩ := h
    refine ⟨_, (@pss_cons _ _ _ _ _ (@ps_set _ _ (1) _ _ _ _ sc__law_names.nd
      rfl
      (Or.inr rfl)
      pe_str
      (by rfl)
      (by first | exact .inl rfl | exact .inr rfl | assumption))
      (@pss_cons _ _ _ _ _ (@ps_set _ _ (2) _ _ _ _ sc__law_names.nd
      rfl
      (Or.inr rfl)
      (pe_call G__law_stream (hr.mono (by decide)) rfl T.g__law_stream T.f__law_stream.kp T.n__law_stream .nil pass0 (@pa_cons _ _ _ _ _ (pv 0)
      (@pa_cons _ _ _ _ _ pe_int
      pa_nil
      (by rfl))
      (by rfl)))
      (by rfl)
      (by first | exact .inl rfl | exact .inr rfl | assumption))
      (@pss_one _ _ _ (@ps_ret _ _ _ _ (pe_compL (Nc := ["_law_k", "_law_letters", "_law_xs"]) (ix := [none, some 1, some 2]) (CompOk.of (by decide +kernel : compChk (defScope s__law_names) ["_law_cell", "_law_letters", "_law_xs"] ["_law_k", "_law_letters", "_law_xs"] [none, some 1, some 2] _ = true)) rfl (pi_range1 rfl T.b_range (@pa_cons _ _ _ _ _ pe_int
      pa_nil
      (by rfl))) (fun _ _ _ _ _ => (pg_name (i := 0) (show List.Nodup (["_law_k", "_law_letters", "_law_xs"] : List Str) by decide +kernel) rfl (Or.inl rfl))) (fun _ _ _ _ _ => pts_nil) (fun _ _ _ _ _ => (@pe_op _ _ _ _ _ _ _ _ op_repS
      (@pe_ix _ _ _ _ _ _ _ ix_str
      (pv 1)
      (@pe_op _ _ _ _ _ _ _ _ op_mod
      (@pe_op _ _ _ _ _ _ _ _ op_add
      (@pe_ix _ _ _ _ _ _ _ (ix_listK (K := K) rfl)
      (pv 2)
      pe_int
      (fun _ _ => rfl))
      (@pe_op _ _ _ _ _ _ _ _ op_mul
      pe_int
      (pv 0)))
      pe_int)
      (fun _ _ => rfl))
      (@pe_op _ _ _ _ _ _ _ _ op_add
      pe_int
      (@pe_op _ _ _ _ _ _ _ _ op_mod
      (@pe_ix _ _ _ _ _ _ _ (ix_listK (K := K) rfl)
      (pv 2)
      (@pe_op _ _ _ _ _ _ _ _ op_add
      pe_int
      (pv 0))
      (fun _ _ => rfl))
      pe_int))))))))), ?_⟩
    refine ⟨_, rfl, c, 4, rfl, by decide, fun H1 X ns s1 hX1 hX hl => ?_⟩
    refine ⟨_, rfl, by decide, by decide, fun D hD => ?_⟩
    have hx : ∀ j : Nat, (hj : j < 4) → atI (ns.map V.int) (j : Int) = some (.int (ns[j]'(by omega))) := fun j hj => atI_nat (by rw [List.getElem?_map, List.getElem?_eq_getElem (by omega)]; rfl)
    refine comp_genL (J := Itr 0 3) (n := 3) (fun i σ H' => ∃ (z : Option V) (ss : List Str), σ = [z, some (.str "abcdefghijklmnopqrstuvwxyz"), some (.ref X)] ∧ Same H1 H' ∧ H' D = some (.lst (ss.map V.str)) ∧ ss.length = i ∧ ∀ (j : Nat) y, ss[j]? = some y → ∃ n : Nat, 1 ≤ n ∧ n ≤ 8 ∧ y = nameAt (ns[0]'(by omega)) j n) ?_ (fun i σ H' hi _ => hi) (fun σ H' _ => Nat.le_refl _) ?_ ?_
    · exact ⟨_, [], rfl, same_upd hD, upd_same, rfl, fun j y e => by simp at e⟩
    · rintro i x σ H' H2 hi ⟨z, ss, rfl, sm, hD2, hlen, hy⟩ ⟨rfl, rfl⟩ N N0 hN hN0
      have hXm := SqL.of (K := K) (sm _ _ hX)
      have h8 := Int.emod_nonneg (ns[1 + i]'(by omega)) (show (8 : Int) ≠ 0 by decide)
      have h9 := Int.emod_lt_of_pos (ns[1 + i]'(by omega)) (show (0 : Int) < 8 by decide)
      obtain ⟨n8, e8⟩ := Int.eq_ofNat_of_zero_le h8
      refine ⟨_, rfl, _, rfl, X, _, _, _, rfl, rfl, hXm, hx 0 (by omega), _, rfl, _, _, rfl, rfl, .inl ⟨by decide, by decide⟩, _, _, rfl, rfl, _, _, rfl, rfl, by decide, ?_⟩
      refine ⟨_, _, _, rfl, rfl, by rw [sizeLine_eq]; decide, letter_is _, ?_⟩
      have ei : (1 : Int) + (0 + (i : Int)) = ((1 + i : Nat) : Int) := by omega
      refine ⟨_, rfl, _, rfl, _, _, rfl, rfl, X, _, _, _, rfl, rfl, hXm, by rw [ei]; exact hx (1 + i) (by omega), _, _, rfl, rfl, by decide, _, _, rfl, rfl, ?_⟩
      have en : (1 : Int) + ns[1 + i]'(by omega) % 8 = ((1 + n8 : Nat) : Int) := by omega
      have ek : (97 + ((ns[0]'(by omega) + 7 * (0 + (i : Int))) % 26).toNat) = (97 + ((ns[0]'(by omega) + 7 * (i : Int)) % 26).toNat) := by rw [Int.zero_add]
      refine ⟨_, 1 + n8, rfl, congrArg V.int en, by omega, (by show 1 * (1 + n8) ≤ 4096; omega), by omega, ?_⟩
      rw [ek]
      refine hN _ _ _ _ hD2 (by rw [List.length_map, sizeLine_eq]; omega) ⟨_, ss ++ [nameAt (ns[0]'(by omega)) i (1 + n8)], rfl, (SameX.upd (Same.x sm)).same hD, by rw [upd_same, List.map_append]; rfl, by rw [List.length_append, hlen]; rfl, fun j y e => ?_⟩
      rw [List.getElem?_append] at e
      split at e
      · exact hy j y e
      · have hj : j = i := by
          cases hq : j - ss.length with
          | zero => omega
          | succ q => rw [hq] at e; cases e
        subst hj
        rw [hlen, Nat.sub_self] at e
        cases e
        exact ⟨1 + n8, by omega, by omega, rfl⟩
    · rintro σ H' ⟨z, ss, rfl, sm, hD2, hlen, hy⟩
      have ok : ∀ (j : Nat) y, ss[j]? = some y → isNameS y = true := fun j y e => by
        obtain ⟨n, a1, a2, rfl⟩ := hy j y e
        exact nameAt_ok a1 a2
      refine k H' D ss (s1.trans sm) (s1.free hD) hD2 hlen (fun x m => ?_) ?_
      · obtain ⟨j, hj, rfl⟩ := List.getElem_of_mem m
        exact ok j _ (List.getElem?_eq_getElem hj)
      · refine List.pairwise_iff_getElem.mpr fun i j hi hj hij => ?_
        obtain ⟨n, a1, a2, e1⟩ := hy i _ (List.getElem?_eq_getElem hi)
        obtain ⟨m, b1, b2, e2⟩ := hy j _ (List.getElem?_eq_getElem hj)
        rw [e1, e2]
        exact nameAt_ne a1 hij (by omega)
end KK

set_option Elab.async false
set_option linter.all false
set_option maxRecDepth 100000
set_option maxHeartbeats 8000000
namespace KK
open PySem PySem.Spec L2 L3
def wantS (w : Str) : Str := if w ∈ (["all", "some"] : List Str) then "way" else "room"
def bkS (w : Str) (ks : List Str) : Str := if (ks.map fun k => decide (V.str k = V.str (wantS w))).all id = true then (if w ∈ (["yes", "sign", "not", "and", "or", "all", "some"] : List Str) then "room" else if w ∈ (["next", "until", "always", "ever", "within"] : List Str) then "way" else "neither") else "neither"
theorem map_at {α : Type} {f : α → V} {ks : List α} {ys : List V} (hl : ys.length = ks.length) (h : ∀ (i : Nat) v, ys[i]? = some v → ∀ k, ks[i]? = some k → v = f k) : ys = ks.map f := by
  refine List.ext_getElem? fun i => ?_
  rw [List.getElem?_map]
  cases e : ks[i]? with
  | none =>
    rw [List.getElem?_eq_none_iff] at e
    exact List.getElem?_eq_none_iff.mpr (by omega)
  | some x =>
    have hi := (List.getElem?_eq_some_iff.mp e).1
    have hy : ys[i]? = some (ys[i]'(by omega)) := List.getElem?_eq_getElem (by omega)
    rw [hy, h i _ hy x e]; rfl
def sp_branch_kind (K : PySem.W.Frag) (a : Adr) : Sp := fun vs H Q _ => ∃ (w : Str) (p : Addr) (ks : List Str), vs = [.str w, .ref p] ∧ H p = some (.lst (ks.map V.str)) ∧ ks.length ≤ 100000 ∧ ∀ H', Same H H' → Q (.str (bkS w ks)) H'
theorem ok_branch_kind {P : Program} {w : World} {K : PySem.W.Frag} {mg : Str → Option Value} {base : Heap} {a : Adr} (T : Txt K mg a) (hw : w.params = a.Pm) : FnOk P w K mg base CX0 1 a.branch_kind a.branch_kind_fd ["word", "inner"] (sp_branch_kind K a) := by
  refine T.f_branch_kind.ok sc_branch_kind (fun vs H Q E h => ?_) (fun cdv A outer s H vs Q E hr h => ?_)
  · obtain ⟨w, p, ks, rfl, _⟩ := h
    rfl
  · obtain ⟨w, p, ks, rfl, hp, hl, k⟩ := h
    refine ⟨_, (@pss_cons _ _ _ _ _ (@ps_set _ _ (2) _ _ _ _ sc_branch_kind.nd
      rfl
      (Or.inr rfl)
      (pe_ifExp (@pt_cmpR _ _ _ _ _ _ _ _ (op_inK (K := K) rfl)
      (pv 0)
      (@pe_tup _ _ _ _ _ (@pa_cons _ _ _ _ _ pe_str
      (@pa_cons _ _ _ _ _ pe_str
      pa_nil
      (by rfl))
      (by rfl)))
      (by with_unfolding_all rfl)) pe_str pe_str)
      (by rfl)
      (by first | exact .inl rfl | exact .inr rfl | assumption))
      (@pss_cons _ _ _ _ _ (@ps_if _ _ _ _ _ _ _ _ (@pt_not _ _ _ _ (pt_val (pe_callB (call_allK (K := K) rfl rfl) rfl T.b_all PyProof.Rows.Boot.«all» (@pa_cons _ _ _ _ _ (pe_compL (Nc := ["kind", "wanted"]) (ix := [none, some 2]) (CompOk.of (by decide +kernel : compChk (defScope s_branch_kind) ["word", "inner", "wanted"] ["kind", "wanted"] [none, some 2] _ = true)) rfl (pi_listK (K := K) rfl (pv 1)) (fun _ _ _ _ _ => (pg_name (i := 0) (show List.Nodup (["kind", "wanted"] : List Str) by decide +kernel) rfl (Or.inl rfl))) (fun _ _ _ _ _ => pts_nil) (fun _ _ _ _ _ => (@pe_cmpR _ _ _ _ _ _ _ _ op_eq
      (pv 0)
      (pv 1)
      (nomark _))))
      pa_nil
      (by rfl)))))
      (@pss_one _ _ _ (@ps_ret _ _ _ _ pe_str))
      pss_nil)
      (@pss_cons _ _ _ _ _ (@ps_if _ _ _ _ _ _ _ _ (@pt_cmpR _ _ _ _ _ _ _ _ (op_inK (K := K) rfl)
      (pv 0)
      (@pe_tup _ _ _ _ _ (@pa_c _ _ _ _ _ pe_str
      (@pa_c _ _ _ _ _ pe_str
      (@pa_c _ _ _ _ _ pe_str
      (@pa_c _ _ _ _ _ pe_str
      (@pa_c _ _ _ _ _ pe_str
      (@pa_c _ _ _ _ _ pe_str
      (@pa_c _ _ _ _ _ pe_str
      pa_nil
      (by rfl))
      (by rfl))
      (by rfl))
      (by rfl))
      (by rfl))
      (by rfl))
      (by rfl)))
      (by with_unfolding_all rfl))
      (@pss_one _ _ _ (@ps_ret _ _ _ _ pe_str))
      pss_nil)
      (@pss_one _ _ _ (@ps_ret _ _ _ _ (pe_ifExp (@pt_cmpR _ _ _ _ _ _ _ _ (op_inK (K := K) rfl)
      (pv 0)
      (pe_gc (v := .ref a.Y_WAY_WORDS) rfl ⟨_, T.g_WAY_WORDS, rfl⟩)
      (by with_unfolding_all rfl)) pe_str pe_str)))))), ?_⟩
    have rest : ∀ (c0 : Str) (H1 : Hp), Same H H1 → wantS w = c0 → tSeq (tIfS (tNot (tB (tCB (rAll K) (tCons (tCompL (iList K (tVar 1)) [none, some 2] (gName 0) tTrue (tOp rEq (tVar 0) (tVar 1))) tNil)))) (tRet (tC (V.str "neither"))) tNext) (tSeq (tIfS (tTest (tOp (rIn K false) (tVar 0) (tTup (tCons (tC (V.str "yes")) (tCons (tC (V.str "sign")) (tCons (tC (V.str "not")) (tCons (tC (V.str "and")) (tCons (tC (V.str "or")) (tCons (tC (V.str "all")) (tCons (tC (V.str "some")) tNil)))))))))) (tRet (tC (V.str "room"))) tNext) (tRet (tIf (tTest (tOp (rIn K false) (tVar 0) (tC (V.ref a.Y_WAY_WORDS)))) (tC (V.str "way")) (tC (V.str "neither"))))) { nx := fun x H' => Q V.non H', rt := Q } [some (.str w), some (.ref p), some (.str c0)] H1 := by
      intro c0 H1 s1 ew
      refine ⟨_, rfl, p, rfl, ⟨_, SqL.of (s1 _ _ hp)⟩, fun D hD => ?_⟩
      refine comp_mapL (K := K) hD (SqL.of (s1 _ _ hp)) (by rw [List.length_map, sizeLine_eq]; omega) (fun i v _ => ∀ kk, ks[i]? = some kk → v = .bl (decide (V.str kk = V.str (wantS w)))) (fun _ _ _ _ _ q => q) ?_ ?_
      · intro i x G N hx sG hN
        rw [List.getElem?_map] at hx
        obtain ⟨kk, e1, rfl⟩ := Option.map_eq_some_iff.mp hx
        exact ⟨_, rfl, _, rfl, rfl, hN _ _ (.refl _) (fun k2 e2 => by rw [e1] at e2; cases e2; rw [ew])⟩
      intro H2 ys hys s2 hyl hyv
      rw [List.length_map] at hyl
      have ey := map_at (f := fun kk => V.bl (decide (V.str kk = V.str (wantS w)))) hyl hyv
      have ey2 : ys = (ks.map fun kk => decide (V.str kk = V.str (wantS w))).map V.bl := by rw [ey, List.map_map]; rfl
      rw [ey2] at hys
      have s12 := s1.trans s2
      refine ⟨D, _, rfl, SqL.of hys, ?_⟩
      have q0 := fun H' s' => k H' s'
      unfold bkS at q0
      cases hb : (ks.map fun kk => decide (V.str kk = V.str (wantS w))).all id with
      | false =>
        rw [hb, if_neg Bool.false_ne_true] at q0
        exact ⟨_, rfl, iteT (q0 _ s12)⟩
      | true =>
        rw [hb, if_pos rfl] at q0
        refine ⟨_, rfl, iteF ?_⟩
        refine ⟨_, rfl, by rw [sizeLine_eq]; exact (by decide : 7 ≤ 16777216), fun q2 hq2 => ⟨q2, _, rfl, .inr (SqT.of upd_same), rfl, rfl, _, rfl, ?_⟩⟩
        have s3 := same_upd (o := .tup [.str "yes", .str "sign", .str "not", .str "and", .str "or", .str "all", .str "some"]) hq2
        generalize upd H2 q2 (.tup [.str "yes", .str "sign", .str "not", .str "and", .str "or", .str "all", .str "some"]) = H3 at s3 ⊢
        have s13 := s12.trans s3
        by_cases h1 : w ∈ (["yes", "sign", "not", "and", "or", "all", "some"] : List Str)
        · rw [if_pos h1] at q0
          exact iteIn (ss := ["yes", "sign", "not", "and", "or", "all", "some"]) h1 (q0 _ s13)
        · rw [if_neg h1] at q0
          refine iteNin (ss := ["yes", "sign", "not", "and", "or", "all", "some"]) h1 ?_
          refine ⟨_, rfl, a.Y_WAY_WORDS, _, rfl, .inr (T.y_WAY_WORDS _), rfl, rfl, _, rfl, ?_⟩
          by_cases h2 : w ∈ (["next", "until", "always", "ever", "within"] : List Str)
          · rw [if_pos h2] at q0
            exact iteIn (ss := ["next", "until", "always", "ever", "within"]) h2 (q0 _ s13)
          · rw [if_neg h2] at q0
            exact iteNin (ss := ["next", "until", "always", "ever", "within"]) h2 (q0 _ s13)
    refine ⟨_, rfl, by rw [sizeLine_eq]; exact (by decide : 2 ≤ 16777216), fun q hq => ⟨q, _, rfl, .inr (SqT.of upd_same), rfl, rfl, _, rfl, ?_⟩⟩
    have s1 := same_upd (o := .tup [.str "all", .str "some"]) hq
    generalize upd H q (.tup [.str "all", .str "some"]) = H1 at s1 ⊢
    by_cases h0 : w ∈ (["all", "some"] : List Str)
    case pos => refine iteIn (ss := ["all", "some"]) h0 ?_; have ew : wantS w = "way" := if_pos h0; exact rest "way" H1 s1 ew
    case neg => refine iteNin (ss := ["all", "some"]) h0 ?_; have ew : wantS w = "room" := if_neg h0; exact rest "room" H1 s1 ew
end KK

set_option Elab.async false
set_option linter.all false
set_option maxRecDepth 100000
set_option maxHeartbeats 8000000
namespace KK
open PySem PySem.Spec L2 L3
def bkF (c : Lb) (ks : List Str) : Str := bkS (wordL c) ks
noncomputable def bkT (t : Tr) : Str := valT bkF t
theorem bk_eq (t : Tr) : bkT t = bkF t.lb (t.ks.map bkT) := valT_eq _ t
theorem bkS_of (w : Str) (ks : List Str) : bkS w ks ∈ (["room", "way", "neither"] : List Str) := by
  unfold bkS
  split
  · split
    · simp
    · split <;> simp
  · simp
theorem bk_ok (t : Tr) : PyData.strOk (bkT t) = true := by
  have h : ∀ x ∈ (["room", "way", "neither"] : List Str), PyData.strOk x = true := by decide +kernel
  rw [bk_eq]
  exact h _ (bkS_of _ _)
theorem dpS {K : PySem.W.Frag} {H : Hp} {b : Addr} {bs : List Str} (h : H b = some (.lst (bs.map V.str))) : Dp K H (.ref b) (dS bs) := .lst (SqL.of h) (dpAll_map (fun x => .str x) bs)
theorem eqv_one {x : Str} (h : x ≠ "room") : PyData.eqv (dS [x]) (dS ["room"]) = false := by
  simp [dS, PyData.eqv, PyData.eqvAll, h]
def sp_no_refuse_others (K : PySem.W.Frag) (a : Adr) : Sp := fun vs H Q E => ∃ (L : Addr) (us : List V) (n : Nat) (t : Tr), vs = [.ref L] ∧ H L = some (.lst us) ∧ AtL K n H us (post t) ∧ (post t).length ≤ 100000 ∧ (bkT t = "room" → ∀ H', Same H H' → Q .non H') ∧ (bkT t ≠ "room" → ∀ H' e, Same H H' → E (.ref e) (some a.C_NoBranch) H')
theorem no_refuse_others {P : Program} {w : World} {K : PySem.W.Frag} {mg : Str → Option Value} {base : Heap} {a : Adr} (T : Txt K mg a) (hw : w.params = a.Pm) : FnOk P w K mg base (CXe P w) 2 a.refuse_others a.refuse_others_fd ["row"] (sp_no_refuse_others K a) := by
  have G_last_ones := ok_last_ones (P := P) (w := w) (base := base) T hw
  have G_inner_of := ok_inner_of (P := P) (w := w) (base := base) T hw
  have G_branch_kind := ok_branch_kind (P := P) (w := w) (base := base) T hw
  refine fun_okX T.f_refuse_others sc_refuse_others (fun vs H Q E h => ?_) (fun cdv A outer s H vs Q E hr h => ?_)
  · obtain ⟨L, us, n, t, rfl, _⟩ := h
    rfl
  · obtain ⟨L, us, n, t, rfl, eL, aL, hz, kq, ke⟩ := h
    refine ⟨_, (@pss_cons _ _ _ _ _ (@ps_set _ _ (1) _ _ _ _ sc_refuse_others.nd
      rfl
      (Or.inl rfl)
      (@pe_lst _ _ _ _ pa_nil)
      (by rfl)
      (by first | exact .inl rfl | exact .inr rfl | assumption))
      (@pss_cons _ _ _ _ _ (ps_for PassesOwn.leaving rfl (pi_listK (K := K) rfl (pv 0)) (pg_name (i := 2) sc_refuse_others.nd rfl (Or.inl rfl)) (@pss_cons _ _ _ _ _ (@ps_set _ _ (3) _ _ _ _ sc_refuse_others.nd
      rfl
      (Or.inl rfl)
      (pe_call G_last_ones (hr.mono (by decide)) rfl T.g_last_ones T.f_last_ones.kp T.n_last_ones .nil pass0 (@pa_cons _ _ _ _ _ (pv 1)
      (@pa_cons _ _ _ _ _ (pe_callB (call_lenK (K := K) rfl) rfl T.b_len PyProof.Rows.Boot.«len» (@pa_cons _ _ _ _ _ (pe_call G_inner_of (hr.mono (by decide)) rfl T.g_inner_of T.f_inner_of.kp T.n_inner_of .nil pass0 (@pa_cons _ _ _ _ _ (pv 2)
      pa_nil
      (by rfl)))
      pa_nil
      (by rfl)))
      pa_nil
      (by rfl))
      (by rfl)))
      (by rfl)
      (by first | exact .inl rfl | exact .inr rfl | assumption))
      (@pss_one _ _ _ (@ps_expr _ _ _ _ (pe_bm PySem.F.plainAttrs_list PySem.F.slot_list_append PySem.F.type_list_append mt_append (pv 1) (@pa_cons _ _ _ _ _ (pe_call G_branch_kind (hr.mono (by decide)) rfl T.g_branch_kind T.f_branch_kind.kp T.n_branch_kind .nil pass0 (@pa_cons _ _ _ _ _ (@pe_ix _ _ _ _ _ _ _ (ix_tupK (K := K) rfl)
      (pv 2)
      pe_int
      (fun _ _ => rfl))
      (@pa_cons _ _ _ _ _ (pv 3)
      pa_nil
      (by rfl))
      (by rfl)))
      pa_nil
      (by rfl)))
      (by rfl)))))
      (@pss_one _ _ _ (@ps_if _ _ _ _ _ _ _ _ (@pt_cmpR _ _ _ _ _ _ _ _ (op_neDK (K := K) rfl (Room.units hr))
      (pv 1)
      (@pe_lst _ _ _ _ (@pa_cons _ _ _ _ _ pe_str
      pa_nil
      (by rfl)))
      (nomark _))
      (@pss_one _ _ _ (ps_raise raises_cx rfl rfl T.g_NoBranch T.x_NoBranch PySem.F.excBase_ValueError (@pa_cons _ _ _ _ _ pe_str
      pa_nil
      (by rfl))))
      pss_nil)))), ?_⟩
    refine ⟨by decide, fun F hF => ?_⟩
    obtain ⟨H1, qN, s1, e1⟩ := newE (o := .lst []) hF
    rw [qN]; clear qN
    have nLF : L ≠ F := fun e => by rw [e, hF] at eL; cases eL
    have eL := s1 _ _ eL
    have aL := aL.mono (Same.tup s1)
    obtain ⟨ok0, run0⟩ := run_all (F := bkF) t
    have hul := aL.1
    refine ⟨_, rfl, L, rfl, ⟨_, SqL.of eL⟩, ?_⟩
    refine for_list (K := K) (xs := us) (fun i σ H' => ∃ (z1 z2 : Option V) (st : List Str), σ = [some (.ref L), some (.ref F), z1, z2] ∧ SameX F H1 H' ∧ H' F = some (.lst (st.map V.str)) ∧ okRun bkF st ((post t).drop i) ∧ runF bkF st ((post t).drop i) = [bkT t] ∧ st.length ≤ i) ?_ ?_ ?_ ?_
    · exact ⟨_, _, [], rfl, .refl _, e1, ok0, run0, Nat.le_refl _⟩
    · rintro i σ H' hi ⟨z1, z2, st, rfl, x', _⟩
      exact SqL.of (x' _ _ nLF eL)
    · rintro i x σ H3 hx ⟨z1, z2, st, rfl, x3, hF3, ok3, run3, hst⟩
      have hi : i < us.length := (List.getElem?_eq_some_iff.mp hx).1
      have hi2 : i < (post t).length := by omega
      have t23 : SameT H1 H3 := SameX.tup x3 e1
      have at3 := (aL.2 i x _ hx (List.getElem?_eq_getElem hi2)).mono t23
      rw [List.drop_eq_getElem_cons hi2] at ok3 run3
      obtain ⟨⟨okl, _⟩, okr⟩ := ok3
      have runr : runF bkF (stepF bkF st (post t)[i]) ((post t).drop (i + 1)) = [bkT t] := run3
      generalize (post t)[i] = r at at3 okl okr runr
      cases n with
      | zero => exact at3.elim
      | succ n =>
      obtain ⟨ad7, ks, eu7, sh7, ok7, hl7, hq7⟩ := id at3
      refine ⟨_, rfl, _, rfl, x, ad7, ks, r.lb, rfl, eu7, sh7, by rw [hl7]; exact ok7.b, fun H4 b s4 eb => .inl ⟨b, _, rfl, .inr (eb), ?_⟩⟩
      have aK : AtL K n H4 ks r.ks := AtL.mono (Same.tup s4) ⟨hl7, hq7⟩
      have hkl := aK.1
      have hF4 := s4 _ _ hF3
      refine ⟨F, st.map V.str, ks.length, rfl, hF4, by rw [List.length_map, hkl]; exact okl, fun H5 l x5 hF5 l0 hl5 => ?_⟩
      have nlF : l ≠ F := fun e => by rw [e, hF4] at l0; cases l0
      have t45 : SameT H4 H5 := SameX.tup x5 hF4
      rw [List.length_map, ← List.map_take] at hF5
      rw [List.length_map, ← List.map_drop] at hl5
      obtain ⟨ad, us2, rfl, sh, okc, _, _⟩ := at3.mono ((Same.tup s4).trans t45)
      obtain ⟨xs2, ex2⟩ := sh.tup
      refine ⟨_, rfl, .inl ⟨rfl, _, SqL.of hF5⟩, _, rfl, ad, _, _, _, rfl, rfl, ex2, atI_nat (j := 0) rfl, _, rfl, wordL r.lb, l, _, rfl, hl5, by rw [List.length_drop]; omega, fun H6 s6 => ?_⟩
      have hF6 := s6 _ _ hF5
      refine ⟨F, _, _, rfl, rfl, hF6, by rw [List.length_map, List.length_take, sizeLine_eq]; omega, ?_⟩
      refine ⟨_, _, stepF bkF st r, rfl, ((x3.trans (Same.x s4)).trans (x5.trans (Same.x s6))).upd, ?_, okr, runr, ?_⟩
      · rw [upd_same, hkl]
        unfold stepF
        rw [List.map_append]
        rfl
      · unfold stepF
        rw [List.length_append, List.length_take]
        simp
        omega
    rintro σ H3 ⟨z1, z2, st, rfl, x3, hF3, ok3, run3, hst⟩
    rw [List.drop_eq_nil_of_le (by omega)] at run3
    have est : st = [bkT t] := run3
    subst est
    refine ⟨_, rfl, by rw [sizeLine_eq]; exact (by decide : 1 ≤ 16777216), fun R hR => ?_⟩
    obtain ⟨H4, qN, s4, e4⟩ := newE (o := .lst ((["room"] : List Str).map V.str)) hR
    have qN' : upd H3 R (.lst [.str "room"]) = H4 := qN
    rw [qN']; clear qN qN'
    have sF : Same H H4 := (((Same.x s1).trans x3).same hF).trans s4
    by_cases c : bkT t = "room"
    · rw [c] at hF3
      exact neD_no (fineS (ss := ["room"]) (by decide +kernel)) (by decide) (dpS (s4 _ _ hF3)) (dpS e4) ⟨_, rfl, iteF (kq c _ sF)⟩
    · have fi : Fine 1 (dS [bkT t]) := fineL fun x hx => by
        rw [List.mem_singleton] at hx; subst hx
        exact ⟨by rw [PyData.canLay0]; exact bk_ok t, by simp [PyData.depth]⟩
      refine ⟨dS [bkT t], dS ["room"], dpS (s4 _ _ hF3), dpS e4, fi.1, (fineS (ss := ["room"]) (by decide +kernel)).1, Nat.le_trans fi.2 (by decide), ?_⟩
      rw [eqv_one c]
      exact ⟨_, rfl, iteT ⟨by decide, fun e => ke c _ e sF⟩⟩
end KK

set_option Elab.async false
set_option linter.all false
set_option maxRecDepth 100000
set_option maxHeartbeats 8000000
namespace KK
open PySem PySem.Spec L2 L3
/-- no sentence at all -/
def BadV (K : PySem.W.Frag) (H : Hp) (v : V) : Prop := ∃ (b : Bt) (n : Nat), BAt K n H v b ∧ hasBad b = true ∧ bsz b ≤ 1000000
/-- a sentence -/
def GoodV (K : PySem.W.Frag) (H : Hp) (v : V) (t : Tr) : Prop := (∃ n, At K n H v t) ∧ (post t).length ≤ 100000
theorem BadV.mono {K : PySem.W.Frag} {H H' : Hp} {v : V} (s : Same H H') (h : BadV K H v) : BadV K H' v := by
  obtain ⟨b, n, h1, h2⟩ := h; exact ⟨b, n, h1.mono s, h2⟩
theorem GoodV.mono {K : PySem.W.Frag} {H H' : Hp} {v : V} {t : Tr} (s : Same H H') (h : GoodV K H v t) : GoodV K H' v t := by
  obtain ⟨⟨n, h1⟩, h2⟩ := h; exact ⟨⟨n, h1.mono (Same.tup s)⟩, h2⟩
def sp_no_rooms_by_sets (K : PySem.W.Frag) (a : Adr) : Sp := fun vs H Q E => ∃ (x v : V), vs = [x, v] ∧ ((BadV K H v ∧ ∀ H' e, Same H H' → E (.ref e) (some a.C_BadSentence) H') ∨ ∃ t, GoodV K H v t ∧ bkT t ≠ "room" ∧ ∀ H' e, Same H H' → E (.ref e) (some a.C_NoBranch) H')
theorem no_rooms_by_sets {P : Program} {w : World} {K : PySem.W.Frag} {mg : Str → Option Value} {base : Heap} {a : Adr} (T : Txt K mg a) (hw : w.params = a.Pm) : FnOk P w K mg base (CXe P w) 4 a.rooms_by_sets a.rooms_by_sets_fd ["world", "sentence"] (sp_no_rooms_by_sets K a) := by
  have Z_inner_ahead := fn_or2 (no_inner_ahead (P := P) (w := w) (base := base) T hw) (fn_up (ok_inner_ahead (P := P) (w := w) (base := base) T hw))
  have Z_refuse_others := no_refuse_others (P := P) (w := w) (base := base) T hw
  refine fun_okX T.f_rooms_by_sets sc_rooms_by_sets (fun vs H Q E h => ?_) (fun cdv A outer s H vs Q E hr h => ?_)
  · obtain ⟨x, v, rfl, _⟩ := h
    rfl
  · obtain ⟨x, v, rfl, h⟩ := h
    refine ⟨_, (@pss_cons _ _ _ _ _ (@ps_set _ _ (2) _ _ _ _ sc_rooms_by_sets.nd
      rfl
      (Or.inl rfl)
      (pe_call Z_inner_ahead (hr.mono (by decide)) rfl T.g_inner_ahead T.f_inner_ahead.kp T.n_inner_ahead .nil passes_cx (@pa_cons _ _ _ _ _ (pv 1)
      pa_nil
      (by rfl)))
      (by rfl)
      (by first | exact .inl rfl | exact .inr rfl | assumption))
      (@pss_cons _ _ _ _ _ (@ps_expr _ _ _ _ (pe_call Z_refuse_others (hr.mono (by decide)) rfl T.g_refuse_others T.f_refuse_others.kp T.n_refuse_others .nil passes_cx (@pa_cons _ _ _ _ _ (pv 2)
      pa_nil
      (by rfl)))
      (by rfl))
      L3.pss_never)), ?_⟩
    rcases h with ⟨⟨b, n, hb, hbad, hz⟩, k⟩ | ⟨t, ⟨⟨n, hat⟩, hz⟩, hne, k⟩
    · exact ⟨_, rfl, .inl ⟨v, b, n, rfl, hb, hbad, hz, fun H' e s => k H' e s⟩⟩
    · refine ⟨_, rfl, .inr ⟨v, t, n, rfl, hat, by omega, fun H1 L us s1 L0 eL aL => ?_⟩⟩
      exact ⟨_, rfl, L, us, n, t, rfl, eL, aL, hz, fun z => absurd z hne, fun _ H2 e s2 => k H2 e (s1.trans s2)⟩
end KK

set_option Elab.async false
set_option linter.all false
set_option maxRecDepth 100000
set_option maxHeartbeats 8000000
namespace KK
open PySem PySem.Spec L2 L3
def sp_no_turns (K : PySem.W.Frag) (a : Adr) : Sp := fun vs H Q E => ∃ (x v y : V), vs = [x, v, y] ∧ ((BadV K H v ∧ ∀ H' e, Same H H' → E (.ref e) (some a.C_BadSentence) H') ∨ (∃ t, GoodV K H v t ∧ BadV K H y ∧ ∀ H' e, Same H H' → E (.ref e) (some a.C_BadSentence) H') ∨ ∃ t u, GoodV K H v t ∧ GoodV K H y u ∧ (bkT t ≠ "room" ∨ bkT u ≠ "room") ∧ ∀ H' e, Same H H' → E (.ref e) (some a.C_NoBranch) H')
theorem no_turns {P : Program} {w : World} {K : PySem.W.Frag} {mg : Str → Option Value} {base : Heap} {a : Adr} (T : Txt K mg a) (hw : w.params = a.Pm) : FnOk P w K mg base (CXe P w) 4 a.turns a.turns_fd ["world", "one", "other"] (sp_no_turns K a) := by
  have Z_inner_ahead := fn_or2 (no_inner_ahead (P := P) (w := w) (base := base) T hw) (fn_up (ok_inner_ahead (P := P) (w := w) (base := base) T hw))
  have Z_refuse_others := no_refuse_others (P := P) (w := w) (base := base) T hw
  refine fun_okX T.f_turns sc_turns (fun vs H Q E h => ?_) (fun cdv A outer s H vs Q E hr h => ?_)
  · obtain ⟨x, v, y, rfl, _⟩ := h
    rfl
  · obtain ⟨x, v, y, rfl, h⟩ := h
    refine ⟨_, (@pss_cons _ _ _ _ _ (@ps_set _ _ (3) _ _ _ _ sc_turns.nd
      rfl
      (Or.inl rfl)
      (@pe_lst _ _ _ _ (@pa_cons _ _ _ _ _ (pe_call Z_inner_ahead (hr.mono (by decide)) rfl T.g_inner_ahead T.f_inner_ahead.kp T.n_inner_ahead .nil passes_cx (@pa_cons _ _ _ _ _ (pv 1)
      pa_nil
      (by rfl)))
      (@pa_cons _ _ _ _ _ (pe_call Z_inner_ahead (hr.mono (by decide)) rfl T.g_inner_ahead T.f_inner_ahead.kp T.n_inner_ahead .nil passes_cx (@pa_cons _ _ _ _ _ (pv 2)
      pa_nil
      (by rfl)))
      pa_nil
      (by rfl))
      (by rfl)))
      (by rfl)
      (by first | exact .inl rfl | exact .inr rfl | assumption))
      (@pss_cons _ _ _ _ _ (ps_for PassesOwn.leaving rfl (pi_listK (K := K) rfl (pv 3)) (pg_name (i := 4) sc_turns.nd rfl (Or.inl rfl)) (@pss_one _ _ _ (@ps_expr _ _ _ _ (pe_call Z_refuse_others (hr.mono (by decide)) rfl T.g_refuse_others T.f_refuse_others.kp T.n_refuse_others .nil passes_cx (@pa_cons _ _ _ _ _ (pv 4)
      pa_nil
      (by rfl)))
      (by rfl))))
      L3.pss_never)), ?_⟩
    rcases h with ⟨⟨b, n, hb, hbad, hz⟩, k⟩ | ⟨t, ⟨⟨n, hat⟩, hz⟩, hy, k⟩ | ⟨t, u, ⟨⟨n, hat⟩, hz⟩, hy, hne, k⟩
    · exact ⟨_, rfl, .inl ⟨v, b, n, rfl, hb, hbad, hz, fun H' e s => k H' e s⟩⟩
    · refine ⟨_, rfl, .inr ⟨v, t, n, rfl, hat, by omega, fun H1 L us s1 L0 eL aL => ?_⟩⟩
      obtain ⟨b, m, hb, hbad, hz2⟩ := hy.mono s1
      exact ⟨_, rfl, .inl ⟨y, b, m, rfl, hb, hbad, hz2, fun H' e s => k H' e (s1.trans s)⟩⟩
    refine ⟨_, rfl, .inr ⟨v, t, n, rfl, hat, by omega, fun H1 L us s1 L0 eL aL => ?_⟩⟩
    obtain ⟨⟨m, hay⟩, hzy⟩ := hy.mono s1
    refine ⟨_, rfl, .inr ⟨y, u, m, rfl, hay, by omega, fun H2 M ws s2 M0 eM aM => ?_⟩⟩
    refine ⟨by rw [sizeLine_eq]; exact (by decide : 2 ≤ 16777216), fun R hR => ?_⟩
    obtain ⟨H3, qN, s3, eR⟩ := newE (o := .lst [.ref L, .ref M]) hR
    rw [qN]; clear qN
    have eL3 := s3 _ _ (s2 _ _ eL)
    have eM3 := s3 _ _ eM
    have aL3 := aL.mono (Same.tup (s2.trans s3))
    have aM3 := aM.mono (Same.tup s3)
    have s03 := s1.trans (s2.trans s3)
    refine ⟨_, rfl, R, rfl, ⟨_, SqL.of eR⟩, ?_⟩
    refine for_list (K := K) (xs := [.ref L, .ref M]) (fun i σ G => ∃ z4 : Option V, σ = [some x, some v, some y, some (.ref R), z4, none, none, none, none, none, none, none, none] ∧ Same H3 G ∧ (1 ≤ i → bkT t = "room") ∧ (2 ≤ i → bkT u = "room")) ?_ ?_ ?_ ?_
    · exact ⟨_, rfl, .refl _, fun z => by omega, fun z => by omega⟩
    · rintro i σ G hi ⟨z4, rfl, sG, _⟩
      exact SqL.of (sG _ _ eR)
    · rintro i w σ G hx ⟨z4, rfl, sG, h1, h2⟩
      have hi := (List.getElem?_eq_some_iff.mp hx).1
      rcases (show i = 0 ∨ i = 1 by simp at hi; omega) with rfl | rfl
      · cases hx
        exact ⟨_, rfl, L, us, n, t, rfl, sG _ _ eL3, aL3.mono (Same.tup sG), hz, fun z H' s' => ⟨_, rfl, sG.trans s', fun _ => z, fun z => by omega⟩, fun _ H' e s' => k H' e (s03.trans (sG.trans s'))⟩
      · cases hx
        exact ⟨_, rfl, M, ws, m, u, rfl, sG _ _ eM3, aM3.mono (Same.tup sG), hzy, fun z H' s' => ⟨_, rfl, sG.trans s', fun _ => h1 (by omega), fun _ => z⟩, fun _ H' e s' => k H' e (s03.trans (sG.trans s'))⟩
    rintro σ G ⟨z4, rfl, sG, h1, h2⟩
    have b1 := h1 (show 1 ≤ 2 by decide)
    have b2 := h2 (show 2 ≤ 2 by decide)
    rcases hne with h | h
    · exact absurd b1 h
    · exact absurd b2 h
end KK

set_option Elab.async false
set_option linter.all false
set_option maxRecDepth 100000
set_option maxHeartbeats 8000000
namespace KK
open PySem PySem.Spec L2 L3
def sp__law_next (K : PySem.W.Frag) (a : Adr) : Sp := fun vs H Q _ => ∃ (p : Addr) (ns : List Int), vs = [.ref p] ∧ H p = some (.lst (ns.map V.int)) ∧ ∀ H' (n : Int) (ns' : List Int), SameX p H H' → H' p = some (.lst (ns'.map V.int)) → Q (.int n) H'
theorem ok__law_next {P : Program} {w : World} {K : PySem.W.Frag} {mg : Str → Option Value} {base : Heap} {a : Adr} (T : Txt K mg a) (hw : w.params = a.Pm) : FnOk P w K mg base CX0 1 a._law_next a._law_next_fd ["_law_xs"] (sp__law_next K a) := by
  refine T.f__law_next.ok sc__law_next (fun vs H Q E h => ?_) (fun cdv A outer s H vs Q E hr h => ?_)
  · obtain ⟨p, ns, rfl, _⟩ := h
    rfl
  · obtain ⟨p, ns, rfl, hp, k⟩ := h
    refine ⟨_, (@pss_cons _ _ _ _ _ (@ps_if _ _ _ _ _ _ _ _ (@pt_cmpR _ _ _ _ _ _ _ _ (op_eqDK (K := K) rfl (Room.units hr))
      (pv 0)
      (@pe_lst _ _ _ _ pa_nil)
      (nomark _))
      (@pss_one _ _ _ (@ps_ret _ _ _ _ pe_int))
      pss_nil)
      (@pss_one _ _ _ (@ps_ret _ _ _ _ (pe_bm0 PySem.F.plainAttrs_list PySem.F.slot_list_pop PySem.F.type_list_pop mt_pop (pv 0))))), ?_⟩
    refine ⟨_, rfl, by decide, fun l hl => ?_⟩
    have s1 := same_upd (o := .lst []) hl
    refine eqD_nil (s1 _ _ hp) upd_same fun c hc => ⟨_, rfl, ?_⟩
    cases c with
    | true => exact iteT (k _ 0 ns (Same.x s1) (s1 _ _ hp))
    | false =>
      refine iteF ⟨_, rfl, .inl ⟨rfl, _, SqL.of (s1 _ _ hp)⟩, ?_⟩
      have hne : ns ≠ [] := fun e => by have := hc.mpr e; cases this
      have hl : ns.length - 1 < ns.length := by have := List.length_pos_iff.mpr hne; omega
      refine ⟨p, _, .int ns[ns.length - 1], rfl, rfl, s1 _ _ hp, by simp [hl], ?_⟩
      exact k _ _ ns.dropLast (Same.x s1).upd (by rw [upd_same, List.map_dropLast])
def sp__law_made (K : PySem.W.Frag) (a : Adr) : Sp := fun vs H Q _ => ∃ (t : Addr) (s w st f nm : V) (d : WD), vs = [.ref t] ∧ H t = some (.tup [s, w, st, f, nm]) ∧ PartsV H s w st f d ∧ Good d ∧ ∀ H' o, Same H H' → H o = none → WorldAt a.C_World H' o d → Q (.ref o) H'
theorem ok__law_made {P : Program} {w : World} {K : PySem.W.Frag} {mg : Str → Option Value} {base : Heap} {a : Adr} (T : Txt K mg a) (hw : w.params = a.Pm) : FnOk P w K mg base CX0 8 a._law_made a._law_made_fd ["_law_spec"] (sp__law_made K a) := by
  have G_World_init := ok_World_init (P := P) (w := w) (base := base) T hw
  refine T.f__law_made.ok sc__law_made (fun vs H Q E h => ?_) (fun cdv A outer s H vs Q E hr h => ?_)
  · obtain ⟨t, s, w, st, f, nm, d, rfl, _⟩ := h
    rfl
  · obtain ⟨t, sv, wv, stv, fv, nm, d, rfl, ht, pts, gd, k⟩ := h
    refine ⟨_, (@pss_cons _ _ _ _ _ (ps_asg (pv 0) (pg_tupK (K := K) (n := 5) rfl rfl (pgs_cons (pg_name (i := 1) sc__law_made.nd rfl (Or.inl rfl)) (pgs_cons (pg_name (i := 2) sc__law_made.nd rfl (Or.inl rfl)) (pgs_cons (pg_name (i := 3) sc__law_made.nd rfl (Or.inl rfl)) (pgs_cons (pg_name (i := 4) sc__law_made.nd rfl (Or.inl rfl)) (pgs_cons (pg_name (i := 5) sc__law_made.nd rfl (Or.inl rfl)) pgs_nil)))))))
      (@pss_one _ _ _ (@ps_ret _ _ _ _ (pe_make T.mk_World G_World_init (hr.mono (by decide)) rfl T.g_World T.n_World_init .nil pass0 (@pa_c _ _ _ _ _ (pe_compL (Nc := ["_law_one"]) (ix := [none]) (CompOk.of (by decide +kernel : compChk (defScope s__law_made) ["_law_spec", "_law_signs", "_law_ways", "_law_starts", "_law_fair", "_law_names_here"] ["_law_one"] [none] _ = true)) rfl (pi_listK (K := K) rfl (pv 1)) (fun _ _ _ _ _ => (pg_name (i := 0) (show List.Nodup (["_law_one"] : List Str) by decide +kernel) rfl (Or.inl rfl))) (fun _ _ _ _ _ => pts_nil) (fun _ _ _ _ _ => (pe_callTy (call_listK (K := K) rfl rfl) rfl T.b_list PyProof.Rows.Boot.«list» (@pa_cons _ _ _ _ _ (pv 0)
      pa_nil
      (by rfl)))))
      (@pa_c _ _ _ _ _ (pe_compL (Nc := ["_law_one"]) (ix := [none]) (CompOk.of (by decide +kernel : compChk (defScope s__law_made) ["_law_spec", "_law_signs", "_law_ways", "_law_starts", "_law_fair", "_law_names_here"] ["_law_one"] [none] _ = true)) rfl (pi_listK (K := K) rfl (pv 2)) (fun _ _ _ _ _ => (pg_name (i := 0) (show List.Nodup (["_law_one"] : List Str) by decide +kernel) rfl (Or.inl rfl))) (fun _ _ _ _ _ => pts_nil) (fun _ _ _ _ _ => (pe_callTy (call_listK (K := K) rfl rfl) rfl T.b_list PyProof.Rows.Boot.«list» (@pa_cons _ _ _ _ _ (pv 0)
      pa_nil
      (by rfl)))))
      (@pa_c _ _ _ _ _ (pe_callTy (call_listK (K := K) rfl rfl) rfl T.b_list PyProof.Rows.Boot.«list» (@pa_cons _ _ _ _ _ (pv 3)
      pa_nil
      (by rfl)))
      (@pa_c _ _ _ _ _ (pe_callTy (call_listK (K := K) rfl rfl) rfl T.b_list PyProof.Rows.Boot.«list» (@pa_cons _ _ _ _ _ (pv 4)
      pa_nil
      (by rfl)))
      pa_nil
      (by rfl))
      (by rfl))
      (by rfl))
      (by rfl)))))), ?_⟩
    refine ⟨_, rfl, t, _, rfl, SqT.of ht, rfl, _, _, rfl, _, _, rfl, _, _, rfl, _, _, rfl, _, _, rfl, rfl, ?_⟩
    obtain ⟨S, zs, rfl, hS, ezs, qs⟩ := pts.s.z
    obtain ⟨W, zw, rfl, hW, ezw, qw⟩ := pts.w.z
    obtain ⟨ST, rfl, hST⟩ := pts.st
    obtain ⟨F, rfl, hF⟩ := pts.f
    have n20 := gd.n20
    have wl := gd.wl
    have lzs : zs.length = d.signs.length := by rw [← ezs, List.length_map]
    have lzw : zw.length = d.ways.length := by rw [← ezw, List.length_map]
    refine ⟨_, rfl, S, rfl, ⟨_, SqL.of hS⟩, fun D1 hD1 => ?_⟩
    refine comp_newL zs Prod.fst (fun x => x.2.map V.str) hD1 (SqL.of hS) (by rw [sizeLine_eq]; omega) ?_ ?_
    · intro x hx G N sG hN
      obtain ⟨c, ec, gc⟩ := qs x hx
      rw [ec]
      refine ⟨_, rfl, .inl ⟨c, _, rfl, .inl (SqL.of (sG _ _ gc)), fun l hl => hN l _ (same_upd hl) hl upd_same⟩⟩
    intro H1 z1 e1 s1 ez1 q1
    refine ⟨_, rfl, W, rfl, ⟨_, SqL.of (s1 _ _ hW)⟩, fun D2 hD2 => ?_⟩
    refine comp_newL zw Prod.fst (fun x => x.2.map V.int) hD2 (SqL.of (s1 _ _ hW)) (by rw [sizeLine_eq]; omega) ?_ ?_
    · intro x hx G N sG hN
      obtain ⟨c, ec, gc⟩ := qw x hx
      rw [ec]
      refine ⟨_, rfl, .inl ⟨c, _, rfl, .inl (SqL.of ((s1.trans sG) _ _ gc)), fun l hl => hN l _ (same_upd hl) hl upd_same⟩⟩
    intro H2 z2 e2 s2 ez2 q2
    have s12 := s1.trans s2
    refine ⟨_, rfl, .inl ⟨ST, _, rfl, .inl (SqL.of (s12 _ _ hST)), fun L3 hL3 => ?_⟩⟩
    obtain ⟨H3, qN, s3, e3⟩ := newE (o := .lst (d.starts.map V.int)) hL3
    rw [qN]; clear qN
    refine ⟨_, rfl, .inl ⟨F, _, rfl, .inl (SqL.of ((s12.trans s3) _ _ hF)), fun L4 hL4 => ?_⟩⟩
    obtain ⟨H4, qN, s4, e4⟩ := newE (o := .lst (d.fair.map V.str)) hL4
    rw [qN]; clear qN
    have s14 := s12.trans (s3.trans s4)
    intro o dw no ndw new
    have sm : Same H4 (upd (upd H4 dw (.own o)) o (.ins a.C_World dw [])) := (same_upd ndw).trans (same_upd (by rw [upd_ne (Ne.symm new)]; exact no))
    have pp : PartsV H4 (.ref D1) (.ref D2) (.ref L3) (.ref L4) d := by
      have g1 := RL.ls (f := Prod.snd) (H := H4) ((s2.trans (s3.trans s4)) _ _ e1) ez1 fun x hx => let ⟨c, ec, gc⟩ := q1 x hx; ⟨c, ec, (s2.trans (s3.trans s4)) _ _ (New.of gc).2⟩
      have g2 := RL.li (f := Prod.snd) (H := H4) ((s3.trans s4) _ _ e2) ez2 fun x hx => let ⟨c, ec, gc⟩ := q2 x hx; ⟨c, ec, (s3.trans s4) _ _ (New.of gc).2⟩
      rw [ezs] at g1
      rw [ezw] at g2
      exact ⟨g1, g2, ⟨L3, rfl, s4 _ _ e3⟩, ⟨L4, rfl, e4⟩⟩
    exact ⟨o, dw, _, _, _, _, d, rfl, upd_same, pp.mono sm, gd, fun H5 x5 wa => ⟨rfl, k _ o (fun b u e => x5 b u (ne_of_none (s14 _ _ e) no) (sm b u (s14 _ _ e))) (s14.free no) wa⟩⟩
end KK

set_option Elab.async false
set_option linter.all false
set_option maxRecDepth 100000
set_option maxHeartbeats 8000000
namespace KK
open PySem PySem.Spec L2 L3
theorem tab3 : ∀ x ∈ ([1, 2, 4] : List Int), 0 < x ∧ x ≤ 1000 := by decide
theorem tab3b : ∀ x ∈ ([1, 3, 9] : List Int), 0 < x ∧ x ≤ 1000 := by decide
theorem tab6 : ∀ x ∈ ([1, 3, 9, 27, 81, 243] : List Int), 0 < x ∧ x ≤ 1000 := by decide
theorem tab6b : ∀ x ∈ ([1, 2, 4, 8, 16, 32] : List Int), 0 < x ∧ x ≤ 1000 := by decide
def sp__law_world (K : PySem.W.Frag) (a : Adr) : Sp := fun vs H Q _ => ∃ (p : Addr) (zs : List Int), vs = [.ref p] ∧ SqL K H p (zs.map V.int) ∧ ∀ H' t s w st f nm d (nn : List Str), Same H H' → H' t = some (.tup [s, w, st, f, .ref nm]) → PartsV H' s w st f d → Good d → H' nm = some (.lst (nn.map V.str)) → nn.length = 3 → (∀ x ∈ nn, isNameS x = true) → Q (.ref t) H'
theorem ok__law_world {P : Program} {w : World} {K : PySem.W.Frag} {mg : Str → Option Value} {base : Heap} {a : Adr} (T : Txt K mg a) (hw : w.params = a.Pm) : FnOk P w K mg base CX0 3 a._law_world a._law_world_fd ["_law_script"] (sp__law_world K a) := by
  have G__law_cell_at := ok__law_cell_at (P := P) (w := w) (base := base) T hw
  have G__law_stream := ok__law_stream (P := P) (w := w) (base := base) T hw
  have G__law_names := ok__law_names (P := P) (w := w) (base := base) T hw
  refine T.f__law_world.ok sc__law_world (fun vs H Q E h => ?_) (fun cdv A outer s H vs Q E hr h => ?_)
  · obtain ⟨p, zs, rfl, _⟩ := h
    rfl
  · obtain ⟨p, cs, rfl, hp, k⟩ := h
    refine ⟨_, (@pss_cons _ _ _ _ _ (@ps_set _ _ (1) _ _ _ _ sc__law_world.nd
      rfl
      (Or.inr rfl)
      (pe_call G__law_names (hr.mono (by decide)) rfl T.g__law_names T.f__law_names.kp T.n__law_names .nil pass0 (@pa_cons _ _ _ _ _ (pe_call G__law_cell_at (hr.mono (by decide)) rfl T.g__law_cell_at T.f__law_cell_at.kp T.n__law_cell_at .nil pass0 (@pa_cons _ _ _ _ _ (pv 0)
      (@pa_cons _ _ _ _ _ pe_int
      pa_nil
      (by rfl))
      (by rfl)))
      pa_nil
      (by rfl)))
      (by rfl)
      (by first | exact .inl rfl | exact .inr rfl | assumption))
      (@pss_cons _ _ _ _ _ (@ps_set _ _ (2) _ _ _ _ sc__law_world.nd
      rfl
      (Or.inr rfl)
      (pe_call G__law_stream (hr.mono (by decide)) rfl T.g__law_stream T.f__law_stream.kp T.n__law_stream .nil pass0 (@pa_cons _ _ _ _ _ (pe_call G__law_cell_at (hr.mono (by decide)) rfl T.g__law_cell_at T.f__law_cell_at.kp T.n__law_cell_at .nil pass0 (@pa_cons _ _ _ _ _ (pv 0)
      (@pa_cons _ _ _ _ _ pe_int
      pa_nil
      (by rfl))
      (by rfl)))
      (@pa_cons _ _ _ _ _ pe_int
      pa_nil
      (by rfl))
      (by rfl)))
      (by rfl)
      (by first | exact .inl rfl | exact .inr rfl | assumption))
      (@pss_cons _ _ _ _ _ (@ps_set _ _ (3) _ _ _ _ sc__law_world.nd
      rfl
      (Or.inl rfl)
      (@pe_op _ _ _ _ _ _ _ _ op_add
      pe_int
      (@pe_op _ _ _ _ _ _ _ _ op_mod
      (@pe_ix _ _ _ _ _ _ _ (ix_listK (K := K) rfl)
      (pv 2)
      pe_int
      (fun _ _ => rfl))
      pe_int))
      (by rfl)
      (by first | exact .inl rfl | exact .inr rfl | assumption))
      (@pss_cons _ _ _ _ _ (@ps_set _ _ (4) _ _ _ _ sc__law_world.nd
      rfl
      (Or.inl rfl)
      (@pe_lst _ _ _ _ pa_nil)
      (by rfl)
      (by first | exact .inl rfl | exact .inr rfl | assumption))
      (@pss_cons _ _ _ _ _ (@ps_set _ _ (5) _ _ _ _ sc__law_world.nd
      rfl
      (Or.inl rfl)
      (@pe_lst _ _ _ _ pa_nil)
      (by rfl)
      (by first | exact .inl rfl | exact .inr rfl | assumption))
      (@pss_cons _ _ _ _ _ (ps_for PassesOwn.never rfl (pi_range1 rfl T.b_range (@pa_cons _ _ _ _ _ (pv 3)
      pa_nil
      (by rfl))) (pg_name (i := 6) sc__law_world.nd rfl (Or.inr rfl)) (@pss_cons _ _ _ _ _ (@ps_expr _ _ _ _ (pe_bm PySem.F.plainAttrs_list PySem.F.slot_list_append PySem.F.type_list_append mt_append (pv 4) (@pa_cons _ _ _ _ _ (pe_compL (Nc := ["_law_k", "_law_name", "_law_xs", "_law_room"]) (ix := [none, none, some 2, some 6]) (CompOk.of (by decide +kernel : compChk (defScope s__law_world) ["_law_script", "_law_names_here", "_law_xs", "_law_many", "_law_signs", "_law_ways", "_law_room", "_law_on", "_law_starts", "_law_fair"] ["_law_k", "_law_name", "_law_xs", "_law_room"] [none, none, some 2, some 6] _ = true)) rfl (pi_enumK (K := K) rfl rfl T.b_enumerate (@pa_cons _ _ _ _ _ (pv 1)
      pa_nil
      (by rfl))) (fun _ _ _ _ _ => (pg_tupK (K := K) (n := 2) rfl rfl (pgs_cons (pg_name (i := 0) (show List.Nodup (["_law_k", "_law_name", "_law_xs", "_law_room"] : List Str) by decide +kernel) rfl (Or.inl rfl)) (pgs_cons (pg_name (i := 1) (show List.Nodup (["_law_k", "_law_name", "_law_xs", "_law_room"] : List Str) by decide +kernel) rfl (Or.inl rfl)) pgs_nil)))) (fun _ _ _ _ _ => (pts_one (@pt_cmpR _ _ _ _ _ _ _ _ op_eq
      (@pe_op _ _ _ _ _ _ _ _ op_mod
      (@pe_op _ _ _ _ _ _ _ _ op_fdiv
      (@pe_ix _ _ _ _ _ _ _ (ix_listK (K := K) rfl)
      (pv 2)
      (@pe_op _ _ _ _ _ _ _ _ op_add
      pe_int
      (pv 3))
      (fun _ _ => rfl))
      (@pe_ix _ _ _ _ _ _ _ (ix_tupK (K := K) rfl)
      (@pe_tup _ _ _ _ _ (@pa_c _ _ _ _ _ pe_int
      (@pa_c _ _ _ _ _ pe_int
      (@pa_c _ _ _ _ _ pe_int
      pa_nil
      (by rfl))
      (by rfl))
      (by rfl)))
      (pv 0)
      (fun _ _ => rfl)))
      pe_int)
      pe_int
      (nomark _)))) (fun _ _ _ _ _ => (pv 1)))
      pa_nil
      (by rfl)))
      (by rfl))
      (@pss_cons _ _ _ _ _ (ps_setCompL (i := 7) sc__law_world.nd rfl rfl (Nc := ["_law_other", "_law_xs", "_law_room"]) (ix := [none, some 2, some 6]) (CompOk.of (by decide +kernel : compChk (defScope s__law_world) ["_law_script", "_law_names_here", "_law_xs", "_law_many", "_law_signs", "_law_ways", "_law_room", "_law_on", "_law_starts", "_law_fair"] ["_law_other", "_law_xs", "_law_room"] [none, some 2, some 6] _ = true)) rfl (pi_range1 rfl T.b_range (@pa_cons _ _ _ _ _ (pv 3)
      pa_nil
      (by rfl))) (fun _ _ _ _ _ => (pg_name (i := 0) (show List.Nodup (["_law_other", "_law_xs", "_law_room"] : List Str) by decide +kernel) rfl (Or.inl rfl))) (fun _ _ _ _ _ => (pts_one (@pt_cmpR _ _ _ _ _ _ _ _ op_eq
      (@pe_op _ _ _ _ _ _ _ _ op_mod
      (@pe_op _ _ _ _ _ _ _ _ op_fdiv
      (@pe_ix _ _ _ _ _ _ _ (ix_listK (K := K) rfl)
      (pv 1)
      (@pe_op _ _ _ _ _ _ _ _ op_add
      pe_int
      (pv 2))
      (fun _ _ => rfl))
      (@pe_ix _ _ _ _ _ _ _ (ix_tupK (K := K) rfl)
      (@pe_tup _ _ _ _ _ (@pa_c _ _ _ _ _ pe_int
      (@pa_c _ _ _ _ _ pe_int
      (@pa_c _ _ _ _ _ pe_int
      (@pa_c _ _ _ _ _ pe_int
      (@pa_c _ _ _ _ _ pe_int
      (@pa_c _ _ _ _ _ pe_int
      pa_nil
      (by rfl))
      (by rfl))
      (by rfl))
      (by rfl))
      (by rfl))
      (by rfl)))
      (pv 0)
      (fun _ _ => rfl)))
      pe_int)
      pe_int
      (nomark _)))) (fun _ _ _ _ _ => (pv 0)))
      (@pss_cons _ _ _ _ _ (@ps_if _ _ _ _ _ _ _ _ (@pt_cmpR _ _ _ _ _ _ _ _ (op_eqDK (K := K) rfl (Room.units hr))
      (pv 7)
      (@pe_lst _ _ _ _ pa_nil)
      (nomark _))
      (@pss_one _ _ _ (@ps_set _ _ (7) _ _ _ _ sc__law_world.nd
      rfl
      (Or.inl rfl)
      (@pe_lst _ _ _ _ (@pa_cons _ _ _ _ _ (@pe_op _ _ _ _ _ _ _ _ op_mod
      (@pe_ix _ _ _ _ _ _ _ (ix_listK (K := K) rfl)
      (pv 2)
      (@pe_op _ _ _ _ _ _ _ _ op_add
      pe_int
      (pv 6))
      (fun _ _ => rfl))
      (pv 3))
      pa_nil
      (by rfl)))
      (by rfl)
      (by first | exact .inl rfl | exact .inr rfl | assumption)))
      pss_nil)
      (@pss_one _ _ _ (@ps_expr _ _ _ _ (pe_bm PySem.F.plainAttrs_list PySem.F.slot_list_append PySem.F.type_list_append mt_append (pv 5) (@pa_cons _ _ _ _ _ (pv 7)
      pa_nil
      (by rfl)))
      (by rfl)))))))
      (@pss_cons _ _ _ _ _ (ps_setCompL (i := 8) sc__law_world.nd rfl rfl (Nc := ["_law_room", "_law_xs"]) (ix := [none, some 2]) (CompOk.of (by decide +kernel : compChk (defScope s__law_world) ["_law_script", "_law_names_here", "_law_xs", "_law_many", "_law_signs", "_law_ways", "_law_room", "_law_on", "_law_starts", "_law_fair"] ["_law_room", "_law_xs"] [none, some 2] _ = true)) rfl (pi_range1 rfl T.b_range (@pa_cons _ _ _ _ _ (pv 3)
      pa_nil
      (by rfl))) (fun _ _ _ _ _ => (pg_name (i := 0) (show List.Nodup (["_law_room", "_law_xs"] : List Str) by decide +kernel) rfl (Or.inl rfl))) (fun _ _ _ _ _ => (pts_one (@pt_cmpR _ _ _ _ _ _ _ _ op_eq
      (@pe_op _ _ _ _ _ _ _ _ op_mod
      (@pe_op _ _ _ _ _ _ _ _ op_fdiv
      (@pe_ix _ _ _ _ _ _ _ (ix_listK (K := K) rfl)
      (pv 1)
      pe_int
      (fun _ _ => rfl))
      (@pe_ix _ _ _ _ _ _ _ (ix_tupK (K := K) rfl)
      (@pe_tup _ _ _ _ _ (@pa_c _ _ _ _ _ pe_int
      (@pa_c _ _ _ _ _ pe_int
      (@pa_c _ _ _ _ _ pe_int
      (@pa_c _ _ _ _ _ pe_int
      (@pa_c _ _ _ _ _ pe_int
      (@pa_c _ _ _ _ _ pe_int
      pa_nil
      (by rfl))
      (by rfl))
      (by rfl))
      (by rfl))
      (by rfl))
      (by rfl)))
      (pv 0)
      (fun _ _ => rfl)))
      pe_int)
      pe_int
      (nomark _)))) (fun _ _ _ _ _ => (pv 0)))
      (pss_join (@ps_if _ _ _ _ _ _ _ _ (@pt_cmpR _ _ _ _ _ _ _ _ (op_eqDK (K := K) rfl (Room.units hr))
      (pv 8)
      (@pe_lst _ _ _ _ pa_nil)
      (nomark _))
      (@pss_one _ _ _ (@ps_set _ _ (8) _ _ _ _ sc__law_world.nd
      rfl
      (Or.inl rfl)
      (@pe_lst _ _ _ _ (@pa_cons _ _ _ _ _ (@pe_op _ _ _ _ _ _ _ _ op_mod
      (@pe_ix _ _ _ _ _ _ _ (ix_listK (K := K) rfl)
      (pv 2)
      pe_int
      (fun _ _ => rfl))
      (pv 3))
      pa_nil
      (by rfl)))
      (by rfl)
      (by first | exact .inl rfl | exact .inr rfl | assumption)))
      pss_nil)
          (@pss_cons _ _ _ _ _ (ps_setCompL (i := 9) sc__law_world.nd rfl rfl (Nc := ["_law_k", "_law_names_here", "_law_xs"]) (ix := [none, some 1, some 2]) (CompOk.of (by decide +kernel : compChk (defScope s__law_world) ["_law_script", "_law_names_here", "_law_xs", "_law_many", "_law_signs", "_law_ways", "_law_room", "_law_on", "_law_starts", "_law_fair"] ["_law_k", "_law_names_here", "_law_xs"] [none, some 1, some 2] _ = true)) rfl (pi_range1 rfl T.b_range (@pa_cons _ _ _ _ _ pe_int
      pa_nil
      (by rfl))) (fun _ _ _ _ _ => (pg_name (i := 0) (show List.Nodup (["_law_k", "_law_names_here", "_law_xs"] : List Str) by decide +kernel) rfl (Or.inl rfl))) (fun _ _ _ _ _ => (pts_one (@pt_cmpR _ _ _ _ _ _ _ _ op_eq
      (@pe_op _ _ _ _ _ _ _ _ op_mod
      (@pe_op _ _ _ _ _ _ _ _ op_fdiv
      (@pe_ix _ _ _ _ _ _ _ (ix_listK (K := K) rfl)
      (pv 2)
      pe_int
      (fun _ _ => rfl))
      (@pe_ix _ _ _ _ _ _ _ (ix_tupK (K := K) rfl)
      (@pe_tup _ _ _ _ _ (@pa_c _ _ _ _ _ pe_int
      (@pa_c _ _ _ _ _ pe_int
      (@pa_c _ _ _ _ _ pe_int
      pa_nil
      (by rfl))
      (by rfl))
      (by rfl)))
      (pv 0)
      (fun _ _ => rfl)))
      pe_int)
      pe_int
      (nomark _)))) (fun _ _ _ _ _ => (@pe_ix _ _ _ _ _ _ _ (ix_listK (K := K) rfl)
      (pv 1)
      (pv 0)
      (fun _ _ => rfl))))
      (@pss_one _ _ _ (@ps_ret _ _ _ _ (@pe_tup _ _ _ _ _ (@pa_c _ _ _ _ _ (pv 4)
      (@pa_c _ _ _ _ _ (pv 5)
      (@pa_c _ _ _ _ _ (pv 8)
      (@pa_c _ _ _ _ _ (pv 9)
      (@pa_c _ _ _ _ _ (pv 1)
      pa_nil
      (by rfl))
      (by rfl))
      (by rfl))
      (by rfl))
      (by rfl)))))))))))))), ?_⟩
    refine ⟨_, rfl, p, cs, 0, rfl, hp, fun n0 => ⟨n0, rfl, fun H1 NM nn s1 NM0 hNM ln nnm nnd => ?_⟩⟩
    refine ⟨_, rfl, p, cs, 1, rfl, s1.seq hp, fun n1 => ⟨n1, 30, rfl, by decide, fun H2 X ns s2 X0 hX lx => ?_⟩⟩
    have hx : ∀ j : Nat, (hj : j < 30) → atI (ns.map V.int) (j : Int) = some (.int (ns[j]'(by omega))) := fun j hj => atI_nat (by rw [List.getElem?_map, List.getElem?_eq_getElem (by omega)]; rfl)
    refine ⟨_, rfl, X, _, _, _, rfl, rfl, SqL.of hX, hx 0 (by omega), _, _, rfl, rfl, by decide, _, _, rfl, rfl, ?_⟩
    have m0 := Int.emod_nonneg (ns[0]'(by omega)) (show (6 : Int) ≠ 0 by decide)
    have m1 := Int.emod_lt_of_pos (ns[0]'(by omega)) (show (0 : Int) < 6 by decide)
    generalize ns[0]'(by omega) % (6 : Int) = r0 at m0 m1 ⊢
    obtain ⟨M, eM⟩ := Int.eq_ofNat_of_zero_le (show 0 ≤ 1 + r0 by omega)
    rw [eM]
    have M1 : 1 ≤ M := by omega
    have M6 : M ≤ 6 := by omega
    clear m0 m1 eM
    have hNM2 := s2 _ _ hNM
    have s02 := s1.trans s2
    refine ⟨by rw [sizeLine_eq]; decide, fun S hS0 => ?_⟩
    obtain ⟨H3, qN, s3, hS3⟩ := newE (o := .lst []) hS0
    rw [qN]; clear qN
    refine ⟨by rw [sizeLine_eq]; decide, fun W hW0 => ?_⟩
    obtain ⟨H4, qN, s4, hW4⟩ := newE (o := .lst []) hW0
    rw [qN]; clear qN
    have nSW : S ≠ W := fun e => by rw [← e, hS3] at hW0; cases hW0
    refine ⟨_, rfl, _, rfl, by omega, by omega, ?_⟩
    rw [Int.toNat_natCast]
    have hW2 : H2 W = none := s3.free hW0
    refine for_gen (J := Itr 0 M) (n := M) (fun i σ G => ∃ (z6 z7 : Option V) (zs : List (V × List Str)) (zw : List (V × List Int)), σ = [some (.ref p), some (.ref NM), some (.ref X), some (.int M), some (.ref S), some (.ref W), z6, z7, none, none] ∧ Same H2 G ∧ G S = some (.lst (zs.map Prod.fst)) ∧ G W = some (.lst (zw.map Prod.fst)) ∧ zs.length = i ∧ zw.length = i ∧ ZL LS (hid2 S W (New H2 G)) zs ∧ ZL LI (hid2 S W (New H2 G)) zw ∧ (∀ x ∈ zs, x.2.Sublist nn) ∧ (∀ x ∈ zw, x.2.Nodup ∧ x.2 ≠ [] ∧ (∀ y ∈ x.2, 0 ≤ y ∧ y < (M : Nat)) ∧ x.2.length ≤ 20)) ?_ (fun _ _ _ h _ => h) (fun _ _ _ => Nat.le_refl _) ?_ ?_
    · exact ⟨_, _, [], [], rfl, s3.trans s4, s4 _ _ hS3, hW4, rfl, rfl, ZL.nil, ZL.nil, (fun x hx => by cases hx), (fun x hx => by cases hx)⟩
    · rintro i x σ G0 G hi ⟨z6, z7, zs, zw, rfl, sG, gS, gW, lzs, lzw, qs, qw, bs, bw⟩ ⟨rfl, rfl⟩
      have ei : (0 : Int) + (i : Int) = ((i : Nat) : Int) := Int.zero_add _
      rw [ei]
      have e1 : (1 : Int) + (i : Int) = ((1 + i : Nat) : Int) := by omega
      have e8 : (8 : Int) + (i : Int) = ((8 + i : Nat) : Int) := by omega
      have e15 : (15 : Int) + (i : Int) = ((15 + i : Nat) : Int) := by omega
      have hXG := sG _ _ hX
      refine ⟨_, rfl, .inl ⟨rfl, _, SqL.of gS⟩, _, rfl, NM, _, rfl, .inl (sG _ _ hNM2), fun D1 hD1 => ?_⟩
      refine comp_subE (K := K) nn V.str hD1 (sG _ _ hNM2) (by omega) ?_ ?_
      · intro j hj F N N0 sF h1 h2
        obtain ⟨jj, ej, j0, j1⟩ := at_tab (l := [1, 2, 4]) tab3 (i := j) (show j < 3 by omega)
        refine ⟨_, rfl, _, rfl, _, _, rfl, rfl, X, _, _, _, rfl, rfl, SqL.of (sF _ _ hXG), by rw [e1]; exact hx (1 + i) (by omega), by rw [sizeLine_eq]; exact (by decide : 3 ≤ 16777216), fun q hq => ?_⟩
        have su := same_upd (o := .tup [.int 1, .int 2, .int 4]) hq
        refine ⟨_, rfl, q, _, _, .int jj, rfl, rfl, SqT.of upd_same, ej, _, _, rfl, rfl, ⟨by omega, by omega⟩, _, _, rfl, rfl, by decide, rfl, _, rfl, ite2 (fun c => ?_) (fun c => ?_)⟩
        · exact ⟨_, rfl, h1 _ su⟩
        · exact h2 _ su
      intro G1 ss eD1 t1 sub
      have nD1 : D1 ≠ S ∧ D1 ≠ W := ⟨(ne_new gS hD1).symm, (ne_new gW hD1).symm⟩
      have sl3 := sub.length_le
      refine ⟨S, _, _, rfl, rfl, t1 _ _ gS, by rw [List.length_map, sizeLine_eq]; omega, ?_⟩
      obtain ⟨G2, eG2⟩ : ∃ G2, upd G1 S (.lst (zs.map Prod.fst ++ [.ref D1])) = G2 := ⟨_, rfl⟩
      rw [eG2]
      have gS2 : G2 S = some (.lst ((zs ++ [(V.ref D1, ss)]).map Prod.fst)) := by rw [← eG2, upd_same, List.map_append]; rfl
      have t2 : Same2 S W G G2 := by rw [← eG2]; exact (Same.two t1).upd1
      have gW2 : G2 W = some (.lst (zw.map Prod.fst)) := by rw [← eG2, upd_ne (Ne.symm nSW)]; exact t1 _ _ gW
      have eD2 : G2 D1 = some (.lst (ss.map V.str)) := by rw [← eG2, upd_ne nD1.1]; exact eD1
      have sG2 : Same H2 G2 := ((Same.two sG).trans t2).same hS0 hW2
      clear eG2 t1 eD1
      have hXG2 := sG2 _ _ hX
      have done : ∀ (G7 : Hp) (Z : Addr) (on : List Int), Same G2 G7 → G2 Z = none → G7 Z = some (.lst (on.map V.int)) → on.Nodup → on ≠ [] → (∀ y ∈ on, 0 ≤ y ∧ y < (M : Nat)) → on.length ≤ 20 →
          ∃ (z6 z7 : Option V) (zs' : List (V × List Str)) (zw' : List (V × List Int)), [some (.ref p), some (.ref NM), some (.ref X), some (.int M), some (.ref S), some (.ref W), some (.int (i : Nat)), some (.ref Z), none, none] = [some (.ref p), some (.ref NM), some (.ref X), some (.int M), some (.ref S), some (.ref W), z6, z7, none, none] ∧ Same H2 (upd G7 W (.lst (zw.map Prod.fst ++ [.ref Z]))) ∧ (upd G7 W (.lst (zw.map Prod.fst ++ [.ref Z]))) S = some (.lst (zs'.map Prod.fst)) ∧ (upd G7 W (.lst (zw.map Prod.fst ++ [.ref Z]))) W = some (.lst (zw'.map Prod.fst)) ∧ zs'.length = i + 1 ∧ zw'.length = i + 1 ∧ ZL LS (hid2 S W (New H2 (upd G7 W (.lst (zw.map Prod.fst ++ [.ref Z]))))) zs' ∧ ZL LI (hid2 S W (New H2 (upd G7 W (.lst (zw.map Prod.fst ++ [.ref Z]))))) zw' ∧ (∀ x ∈ zs', x.2.Sublist nn) ∧ (∀ x ∈ zw', x.2.Nodup ∧ x.2 ≠ [] ∧ (∀ y ∈ x.2, 0 ≤ y ∧ y < (M : Nat)) ∧ x.2.length ≤ 20) := by
        intro G7 Z on t27 Z2 gZ ond one obd ol
        have nZ : Z ≠ S ∧ Z ≠ W := ⟨(ne_new gS2 Z2).symm, (ne_new gW2 Z2).symm⟩
        have tt : Same2 S W G2 (upd G7 W (.lst (zw.map Prod.fst ++ [.ref Z]))) := (Same.two t27).upd2
        refine ⟨_, _, zs ++ [(V.ref D1, ss)], zw ++ [(V.ref Z, on)], rfl, ((Same.two sG2).trans tt).same hS0 hW2, by rw [upd_ne nSW]; exact t27 _ _ gS2, by rw [upd_same, List.map_append]; rfl, by rw [List.length_append, lzs]; rfl, by rw [List.length_append, lzw]; rfl, ?_, ?_, ?_, ?_⟩
        · refine ZL.app (qs.mono LS.mono (t2.trans tt).new) (ZL.one ⟨D1, rfl, hid2_mk nD1.1 nD1.2 (New.mk (sG.free hD1) (tt _ _ nD1.1 nD1.2 eD2))⟩)
        · refine ZL.app (qw.mono LI.mono (t2.trans tt).new) (ZL.one ⟨Z, rfl, hid2_mk nZ.1 nZ.2 (New.mk (sG2.free Z2) (by rw [upd_ne nZ.2]; exact gZ))⟩)
        · intro x hx
          rcases List.mem_append.mp hx with h | h
          · exact bs x h
          · cases List.mem_singleton.mp h; exact sub
        · intro x hx
          rcases List.mem_append.mp hx with h | h
          · exact bw x h
          · cases List.mem_singleton.mp h
            exact ⟨ond, one, obd, ol⟩
      refine ⟨_, rfl, _, rfl, by omega, by omega, fun D2 hD2 => ?_⟩
      rw [Int.toNat_natCast]
      refine comp_subR (toRm M) V.int (toRm_len M) hD2 (by omega) ?_ ?_
      · intro j hj F N N0 sF h1 h2
        rw [toRm_at hj] at h1
        rw [toRm_len] at hj
        obtain ⟨jj, ej, j0, j1⟩ := at_tab (l := [1, 3, 9, 27, 81, 243]) tab6 (i := j) (show j < 6 by omega)
        refine ⟨_, rfl, _, rfl, _, _, rfl, rfl, X, _, _, _, rfl, rfl, SqL.of (sF _ _ hXG2), by rw [e8]; exact hx (8 + i) (by omega), by rw [sizeLine_eq]; exact (by decide : 6 ≤ 16777216), fun q hq => ?_⟩
        have su := same_upd (o := .tup [.int 1, .int 3, .int 9, .int 27, .int 81, .int 243]) hq
        refine ⟨_, rfl, q, _, _, .int jj, rfl, rfl, SqT.of upd_same, ej, _, _, rfl, rfl, ⟨by omega, by omega⟩, _, _, rfl, rfl, by decide, rfl, _, rfl, ite2 (fun c => ?_) (fun c => ?_)⟩
        · exact ⟨_, rfl, h1 _ su⟩
        · exact h2 _ su
      intro G3 on eD t3 sbo
      have ond := (toRm_nd M).sublist sbo
      have obd : ∀ y ∈ on, 0 ≤ y ∧ y < (M : Nat) := fun y hy => toRm_b (sbo.subset hy)
      have ol := sbo.length_le
      rw [toRm_len] at ol
      refine ⟨_, rfl, by decide, fun E hE => ?_⟩
      obtain ⟨G4, qN, t4, eE⟩ := newE (o := .lst []) hE
      rw [qN]; clear qN
      have t24 := t3.trans t4
      refine eqD_nil (t4 _ _ eD) eE fun b hb => ⟨_, rfl, ite2 (fun cb => ?_) (fun cb => ?_)⟩
      · refine ⟨_, rfl, _, rfl, _, _, rfl, rfl, X, _, _, _, rfl, rfl, SqL.of (t24 _ _ hXG2), by rw [e15]; exact hx (15 + i) (by omega), _, rfl, _, _, rfl, rfl, by omega, by rw [sizeLine_eq]; exact (by decide : 1 ≤ 16777216), fun Z hZ => ?_⟩
        have f0 := Int.emod_nonneg (ns[15 + i]'(by omega)) (show (M : Int) ≠ 0 by omega)
        have f1 := Int.emod_lt_of_pos (ns[15 + i]'(by omega)) (show (0 : Int) < M by omega)
        generalize ns[15 + i]'(by omega) % (M : Int) = fi at f0 f1 ⊢
        obtain ⟨G5, qN, t5, eZ⟩ := newE (o := .lst (([fi] : List Int).map V.int)) hZ
        have qN' : upd G4 Z (.lst [.int fi]) = G5 := qN
        rw [qN']; clear qN qN'
        exact ⟨_, rfl, .inl ⟨rfl, _, SqL.of ((t24.trans t5) _ _ gW2)⟩, _, rfl, W, _, _, rfl, rfl, (t24.trans t5) _ _ gW2, by rw [List.length_map, sizeLine_eq]; omega, done G5 Z [fi] (t24.trans t5) (t24.free hZ) eZ (by simp) (by simp) (fun y hy => by rw [List.mem_singleton] at hy; subst hy; exact ⟨f0, f1⟩) (by simp)⟩
      · exact ⟨_, rfl, .inl ⟨rfl, _, SqL.of (t24 _ _ gW2)⟩, _, rfl, W, _, _, rfl, rfl, t24 _ _ gW2, by rw [List.length_map, sizeLine_eq]; omega, done G4 D2 on t24 hD2 (t4 _ _ eD) ond (fun z => cb (hb.mpr z)) obd (by omega)⟩
    rintro σ H5 ⟨z6, z7, zs, zw, rfl, sG, gS, gW, lzs, lzw, qs, qw, bs, bw⟩
    have hX5 := sG _ _ hX
    have hNM5 := sG _ _ hNM2
    refine ⟨_, rfl, _, rfl, by omega, by omega, fun D hD => ?_⟩
    rw [Int.toNat_natCast]
    refine comp_subR (toRm M) V.int (toRm_len M) hD (by omega) ?_ ?_
    · intro j hj F N N0 sF h1 h2
      rw [toRm_at hj] at h1
      rw [toRm_len] at hj
      obtain ⟨jj, ej, j0, j1⟩ := at_tab (l := [1, 2, 4, 8, 16, 32]) tab6b (i := j) (show j < 6 by omega)
      refine ⟨_, rfl, X, _, _, _, rfl, rfl, SqL.of (sF _ _ hX5), hx 22 (by omega), by rw [sizeLine_eq]; exact (by decide : 6 ≤ 16777216), fun q hq => ?_⟩
      have su := same_upd (o := .tup [.int 1, .int 2, .int 4, .int 8, .int 16, .int 32]) hq
      refine ⟨_, rfl, q, _, _, .int jj, rfl, rfl, SqT.of upd_same, ej, _, _, rfl, rfl, ⟨by omega, by omega⟩, _, _, rfl, rfl, by decide, rfl, _, rfl, ite2 (fun c => ?_) (fun c => ?_)⟩
      · exact ⟨_, rfl, h1 _ su⟩
      · exact h2 _ su
    intro H6 on eD s6 sbo
    have ond := (toRm_nd M).sublist sbo
    have obd : ∀ y ∈ on, 0 ≤ y ∧ y < (M : Nat) := fun y hy => toRm_b (sbo.subset hy)
    have ol := sbo.length_le
    rw [toRm_len] at ol
    refine ⟨fun σ G => ∃ (ST : Addr) (sts : List Int), σ = [some (.ref p), some (.ref NM), some (.ref X), some (.int M), some (.ref S), some (.ref W), z6, z7, some (.ref ST), none] ∧ Same H5 G ∧ G ST = some (.lst (sts.map V.int)) ∧ sts.Nodup ∧ sts ≠ [] ∧ (∀ y ∈ sts, 0 ≤ y ∧ y < (M : Nat)) ∧ sts.length ≤ 20, ?_, ?_⟩
    · refine ⟨_, rfl, by decide, fun E hE => ?_⟩
      obtain ⟨G4, qN, t4, eE⟩ := newE (o := .lst []) hE
      rw [qN]; clear qN
      have t24 := s6.trans t4
      refine eqD_nil (t4 _ _ eD) eE fun b hb => ⟨_, rfl, ite2 (fun cb => ?_) (fun cb => ?_)⟩
      · refine ⟨_, rfl, X, _, _, _, rfl, rfl, SqL.of (t24 _ _ hX5), hx 23 (by omega), _, rfl, _, _, rfl, rfl, by omega, by rw [sizeLine_eq]; exact (by decide : 1 ≤ 16777216), fun Z hZ => ?_⟩
        have f0 := Int.emod_nonneg (ns[23]'(by omega)) (show (M : Int) ≠ 0 by omega)
        have f1 := Int.emod_lt_of_pos (ns[23]'(by omega)) (show (0 : Int) < M by omega)
        generalize ns[23]'(by omega) % (M : Int) = fi at f0 f1 ⊢
        obtain ⟨G5, qN, t5, eZ⟩ := newE (o := .lst (([fi] : List Int).map V.int)) hZ
        have qN' : upd G4 Z (.lst [.int fi]) = G5 := qN
        rw [qN']; clear qN qN'
        exact ⟨Z, [fi], rfl, t24.trans t5, eZ, by simp, by simp, fun y hy => by rw [List.mem_singleton] at hy; subst hy; exact ⟨f0, f1⟩, by simp⟩
      · exact ⟨D, on, rfl, t24, t4 _ _ eD, ond, fun z => cb (hb.mpr z), obd, by omega⟩
    rintro σ H7 ⟨ST, sts, rfl, s7, eST, tnd, tne, tbd, tlen⟩
    refine ⟨3, rfl, by decide, by decide, fun D3 hD3 => ?_⟩
    refine comp_subR (n := 3) nn V.str ln hD3 (by omega) ?_ ?_
    · intro j hj F N N0 sF h1 h2
      obtain ⟨jj, ej, j0, j1⟩ := at_tab (l := [1, 3, 9]) tab3b (i := j) (show j < 3 by omega)
      refine ⟨_, rfl, X, _, _, _, rfl, rfl, SqL.of (sF _ _ (s7 _ _ hX5)), hx 24 (by omega), by rw [sizeLine_eq]; exact (by decide : 3 ≤ 16777216), fun q hq => ?_⟩
      have su := same_upd (o := .tup [.int 1, .int 3, .int 9]) hq
      refine ⟨_, rfl, q, _, _, .int jj, rfl, rfl, SqT.of upd_same, ej, _, _, rfl, rfl, ⟨by omega, by omega⟩, _, _, rfl, rfl, by decide, rfl, _, rfl, ite2 (fun c => ?_) (fun c => ?_)⟩
      · exact ⟨_, rfl, _, rfl, NM, _, _, _, rfl, rfl, SqL.of (su _ _ (sF _ _ (s7 _ _ hNM5))), atI_nat (by rw [List.getElem?_map, List.getElem?_eq_getElem hj]; rfl), h1 _ su⟩
      · exact h2 _ su
    intro H8 fs eF s8 sbf
    have fl := sbf.length_le
    refine ⟨_, rfl, _, rfl, _, rfl, _, rfl, _, rfl, by rw [sizeLine_eq]; exact (by decide : 5 ≤ 16777216), fun t ht => ?_⟩
    obtain ⟨H9, qN, s9, e9⟩ := newE (o := .tup [.ref S, .ref W, .ref ST, .ref D3, .ref NM]) ht
    rw [qN]; clear qN
    have s59 := s7.trans (s8.trans s9)
    have sH5 := s02.trans sG
    refine k H9 t _ _ _ _ NM ⟨zs.map Prod.snd, zw.map Prod.snd, sts, fs⟩ nn (sH5.trans s59) e9 ⟨?_, ?_, ?_, ?_⟩ ⟨?_, ?_, ?_, ?_, ?_, ?_, ?_⟩ (s59 _ _ hNM5) ln nnm
    · exact ZL.ll (s59 _ _ gS) (qs.mono LS.mono (hid2_sub.trans (New.sub.trans s59)))
    · exact ZL.ll (s59 _ _ gW) (qw.mono LI.mono (hid2_sub.trans (New.sub.trans s59)))
    · exact ⟨ST, rfl, (s8.trans s9) _ _ eST⟩
    · exact ⟨D3, rfl, s9 _ _ eF⟩
    · show 1 ≤ (zs.map Prod.snd).length; rw [List.length_map]; omega
    · show (zs.map Prod.snd).length ≤ 20; rw [List.length_map]; omega
    · show (zw.map Prod.snd).length = (zs.map Prod.snd).length; rw [List.length_map, List.length_map]; omega
    · intro ss hss
      obtain ⟨x, hx, rfl⟩ := List.mem_map.mp hss
      have sb := bs x hx
      have := sb.length_le
      exact ⟨nnd.sublist sb, fun y hy => nnm y (sb.subset hy), by omega⟩
    · intro ss hss
      obtain ⟨x, hx, rfl⟩ := List.mem_map.mp hss
      show _ ∧ _ ∧ (∀ y ∈ x.2, 0 ≤ y ∧ y < (((zs.map Prod.snd).length : Nat) : Int)) ∧ _
      rw [List.length_map, lzs]
      exact bw x hx
    · refine ⟨tnd, tne, ?_, tlen⟩
      show ∀ y ∈ sts, 0 ≤ y ∧ y < (((zs.map Prod.snd).length : Nat) : Int)
      rw [List.length_map, lzs]
      exact tbd
    · exact ⟨nnd.sublist sbf, fun x hx => nnm x (sbf.subset hx), by show fs.length ≤ 3; omega⟩
end KK

set_option Elab.async false
set_option linter.all false
set_option maxRecDepth 100000
set_option maxHeartbeats 8000000
namespace KK
open PySem PySem.Spec L2 L3
theorem upd_tupL {H : Hp} {S : Addr} {xs : List V} {o : HO} (h1 : H S = some (.lst xs)) : SameT H (upd H S o) := fun K b ys h => by
  rcases h with (h | ⟨o', h⟩) | h
  · exact .inl (.inl (by rw [upd_ne (fun z => by rw [z, h1] at h; cases h)]; exact h))
  · exact .inl (.inr ⟨o', by rw [upd_ne (fun z => by rw [z, h1] at h; cases h)]; exact h⟩)
  · exact .inr h
/-- the sets of the somes, by their numbers -/
theorem at_str {l : List Str} {i : Nat} (hi : i < l.length) : atI (l.map V.str) (i : Int) = some (.str l[i]) := atI_nat (by rw [List.getElem?_map, List.getElem?_eq_getElem hi]; rfl)
theorem mod_nat (n : Int) {m : Nat} (h : 0 < m) : ∃ r : Nat, n % (m : Int) = (r : Int) ∧ r < m := by
  have h0 := Int.emod_nonneg n (show (m : Int) ≠ 0 by omega)
  have h1 := Int.emod_lt_of_pos n (show (0 : Int) < (m : Int) by omega)
  exact ⟨(n % (m : Int)).toNat, by omega, by omega⟩
theorem pure_or {t u : TT} {σ : L2.St} {H : Hp} {b c : Bool} (ht : ∀ Q : Bool → Hp → Prop, Q b H → t σ H Q) (hu : ∀ Q : Bool → Hp → Prop, Q c H → u σ H Q) (Q : Bool → Hp → Prop) (q : Q (b || c) H) : tOr t u σ H Q := by
  refine ht _ ?_
  cases b with
  | true => exact iteT q
  | false => exact iteF (hu _ q)
theorem seq_or {t u : TT} {A B C : L2.TS} {D} {σ : L2.St} {H : Hp} {b c : Bool} (ht : ∀ Q : Bool → Hp → Prop, Q b H → t σ H Q) (hu : ∀ Q : Bool → Hp → Prop, Q c H → u σ H Q) (q : if (b || c) = true then A { D with nx := C D } σ H else B { D with nx := C D } σ H) : tSeq (tIfS (tOr t u) A B) C D σ H := pure_or ht hu _ q
def five : List Str := ["next", "until", "always", "ever", "within"]
theorem fiveW : ∀ w ∈ five, w ≠ "until" → w ≠ "within" → w ∈ W1 := by decide +kernel
def zy : List Str := ["zyx"]
def sa2 : List Str := ["some", "all"]
def ao2 : List Str := ["and", "or"]
theorem ao2W : ∀ w ∈ ao2, w = "and" ∨ w = "or" := by decide +kernel
def sp__law_branch (n : Nat) (K : PySem.W.Frag) (a : Adr) : Sp := fun vs H Q _ => ∃ (nm p : Addr) (nn : List Str) (ns : List Int) (d : Nat), vs = [.ref nm, .ref p, .int (d : Nat)] ∧ d < n ∧ d ≤ 2 ∧ H nm = some (.lst (nn.map V.str)) ∧ nn.length = 3 ∧ (∀ x ∈ nn, isNameS x = true) ∧ nm ≠ p ∧ H p = some (.lst (ns.map V.int)) ∧ ∀ H' v t (ns' : List Int), SameX p H H' → H' p = some (.lst (ns'.map V.int)) → At K (2 * d + 1) H' v t → (post t).length ≤ 5 ^ (d + 1) → Q v H'
theorem zz__law_branch {K : PySem.W.Frag} {a : Adr} {vs : List V} {H : Hp} {Q : VK} {E : XK} (h : sp__law_branch 0 K a vs H Q E) : False := by
  obtain ⟨_, _, _, _, d, _, hm, _⟩ := h
  omega
theorem ok__law_branch {P : Program} {w : World} {K : PySem.W.Frag} {mg : Str → Option Value} {base : Heap} {a : Adr} (T : Txt K mg a) (hw : w.params = a.Pm) : ∀ n : Nat, FnOk P w K mg base CX0 (2 + n) a._law_branch a._law_branch_fd ["_law_names_here", "_law_xs", "_law_deep"] (sp__law_branch n K a) := by
  have G__law_next := ok__law_next (P := P) (w := w) (base := base) T hw
  intro n
  induction n with
  | zero => exact ⟨fun _ _ _ _ h => (zz__law_branch h).elim, fun _ _ _ _ _ _ _ _ _ _ _ _ _ h => (zz__law_branch h).elim⟩
  | succ n G__law_branch =>
    refine T.f__law_branch.ok sc__law_branch (fun vs H Q E h => ?_) (fun cdv A outer s H vs Q E hr h => ?_)
    · obtain ⟨nm, p, nn, ns, d, rfl, _⟩ := h
      rfl
    · obtain ⟨nm, p, nn, ns, d, rfl, hd, d2, hnm, ln, nnm, nnp, hp, k⟩ := h
      refine ⟨_, (@pss_cons _ _ _ _ _ (@ps_set _ _ (3) _ _ _ _ sc__law_branch.nd
      rfl
      (Or.inl rfl)
      (@pe_op _ _ _ _ _ _ _ _ op_mod
      (pe_call G__law_next (hr.mono (show _ ≤ 2 + n by omega)) rfl T.g__law_next T.f__law_next.kp T.n__law_next .nil pass0 (@pa_cons _ _ _ _ _ (pv 1)
      pa_nil
      (by rfl)))
      pe_int)
      (by rfl)
      (by first | exact .inl rfl | exact .inr rfl | assumption))
      (@pss_cons _ _ _ _ _ (@ps_if _ _ _ _ _ _ _ _ (PW.pt (pw_or (@pt_cmpR _ _ _ _ _ _ _ _ op_eq
      (pv 2)
      pe_int
      (nomark _)) (pw_or1 (@pt_cmpR _ _ _ _ _ _ _ _ op_eq
      (pv 3)
      pe_int
      (nomark _)))))
      (@pss_cons _ _ _ _ _ (@ps_if _ _ _ _ _ _ _ _ (@pt_cmpR _ _ _ _ _ _ _ _ op_eq
      (@pe_op _ _ _ _ _ _ _ _ op_mod
      (pe_call G__law_next (hr.mono (show _ ≤ 2 + n by omega)) rfl T.g__law_next T.f__law_next.kp T.n__law_next .nil pass0 (@pa_cons _ _ _ _ _ (pv 1)
      pa_nil
      (by rfl)))
      pe_int)
      pe_int
      (nomark _))
      (@pss_one _ _ _ (@ps_ret _ _ _ _ (@pe_tup _ _ _ _ _ (@pa_cons _ _ _ _ _ pe_str
      pa_nil
      (by rfl)))))
      pss_nil)
      (@pss_one _ _ _ (@ps_ret _ _ _ _ (@pe_tup _ _ _ _ _ (@pa_cons _ _ _ _ _ pe_str
      (@pa_cons _ _ _ _ _ (@pe_ix _ _ _ _ _ _ _ (ix_listK (K := K) rfl)
      (@pe_op _ _ _ _ _ _ _ _ op_cat
      (pv 0)
      (@pe_lst _ _ _ _ (@pa_cons _ _ _ _ _ pe_str
      pa_nil
      (by rfl))))
      (@pe_op _ _ _ _ _ _ _ _ op_mod
      (pe_call G__law_next (hr.mono (show _ ≤ 2 + n by omega)) rfl T.g__law_next T.f__law_next.kp T.n__law_next .nil pass0 (@pa_cons _ _ _ _ _ (pv 1)
      pa_nil
      (by rfl)))
      pe_int)
      (fun _ _ => rfl))
      pa_nil
      (by rfl))
      (by rfl))))))
      pss_nil)
      (@pss_cons _ _ _ _ _ (@ps_if _ _ _ _ _ _ _ _ (@pt_cmpR _ _ _ _ _ _ _ _ op_eq
      (pv 3)
      pe_int
      (nomark _))
      (@pss_one _ _ _ (@ps_ret _ _ _ _ (@pe_tup _ _ _ _ _ (@pa_cons _ _ _ _ _ pe_str
      (@pa_cons _ _ _ _ _ (pe_call G__law_branch hr rfl T.g__law_branch T.f__law_branch.kp T.n__law_branch .nil pass0 (@pa_c _ _ _ _ _ (pv 0)
      (@pa_c _ _ _ _ _ (pv 1)
      (@pa_c _ _ _ _ _ (@pe_op _ _ _ _ _ _ _ _ op_sub
      (pv 2)
      pe_int)
      pa_nil
      (by rfl))
      (by rfl))
      (by rfl)))
      pa_nil
      (by rfl))
      (by rfl)))))
      pss_nil)
      (@pss_cons _ _ _ _ _ (@ps_if _ _ _ _ _ _ _ _ (@pt_cmpR _ _ _ _ _ _ _ _ (op_inK (K := K) rfl)
      (pv 3)
      (@pe_tup _ _ _ _ _ (@pa_cons _ _ _ _ _ pe_int
      (@pa_cons _ _ _ _ _ pe_int
      pa_nil
      (by rfl))
      (by rfl)))
      (by with_unfolding_all rfl))
      (@pss_cons _ _ _ _ _ (@ps_set _ _ (4) _ _ _ _ sc__law_branch.nd
      rfl
      (Or.inl rfl)
      (@pe_op _ _ _ _ _ _ _ _ op_mod
      (pe_call G__law_next (hr.mono (show _ ≤ 2 + n by omega)) rfl T.g__law_next T.f__law_next.kp T.n__law_next .nil pass0 (@pa_cons _ _ _ _ _ (pv 1)
      pa_nil
      (by rfl)))
      pe_int)
      (by rfl)
      (by first | exact .inl rfl | exact .inr rfl | assumption))
      (@pss_one _ _ _ (@ps_ret _ _ _ _ (@pe_tup _ _ _ _ _ (@pa_cons _ _ _ _ _ (@pe_ix _ _ _ _ _ _ _ (ix_listK (K := K) rfl)
      (@pe_lst _ _ _ _ (@pa_cons _ _ _ _ _ pe_str
      (@pa_cons _ _ _ _ _ pe_str
      pa_nil
      (by rfl))
      (by rfl)))
      (@pe_op _ _ _ _ _ _ _ _ op_sub
      (pv 3)
      pe_int)
      (fun _ _ => rfl))
      (@pa_cons _ _ _ _ _ (pe_callTy (call_tupleK (K := K) rfl) rfl T.b_tuple PyProof.Rows.Boot.«tuple» (@pa_cons _ _ _ _ _ (pe_compL (Nc := ["_law_k", "_law_names_here", "_law_xs", "_law_deep"]) (ix := [none, some 0, some 1, some 2]) (CompOk.of (by decide +kernel : compChk (defScope s__law_branch) ["_law_names_here", "_law_xs", "_law_deep", "_law_way", "_law_many", "_law_word", "_law_one", "_law_part"] ["_law_k", "_law_names_here", "_law_xs", "_law_deep"] [none, some 0, some 1, some 2] _ = true)) rfl (pi_range1 rfl T.b_range (@pa_cons _ _ _ _ _ (pv 4)
      pa_nil
      (by rfl))) (fun _ _ _ _ _ => (pg_name (i := 0) (show List.Nodup (["_law_k", "_law_names_here", "_law_xs", "_law_deep"] : List Str) by decide +kernel) rfl (Or.inl rfl))) (fun _ _ _ _ _ => pts_nil) (fun _ _ _ _ _ => (pe_call G__law_branch hr rfl T.g__law_branch T.f__law_branch.kp T.n__law_branch .nil pass0 (@pa_c _ _ _ _ _ (pv 1)
      (@pa_c _ _ _ _ _ (pv 2)
      (@pa_c _ _ _ _ _ (@pe_op _ _ _ _ _ _ _ _ op_sub
      (pv 3)
      pe_int)
      pa_nil
      (by rfl))
      (by rfl))
      (by rfl)))))
      pa_nil
      (by rfl)))
      pa_nil
      (by rfl))
      (by rfl))))))
      pss_nil)
      (@pss_cons _ _ _ _ _ (@ps_set _ _ (5) _ _ _ _ sc__law_branch.nd
      rfl
      (Or.inl rfl)
      (@pe_ix _ _ _ _ _ _ _ (ix_listK (K := K) rfl)
      (@pe_lst _ _ _ _ (@pa_c _ _ _ _ _ pe_str
      (@pa_c _ _ _ _ _ pe_str
      (@pa_c _ _ _ _ _ pe_str
      (@pa_c _ _ _ _ _ pe_str
      (@pa_c _ _ _ _ _ pe_str
      pa_nil
      (by rfl))
      (by rfl))
      (by rfl))
      (by rfl))
      (by rfl)))
      (@pe_op _ _ _ _ _ _ _ _ op_sub
      (pv 3)
      pe_int)
      (fun _ _ => rfl))
      (by rfl)
      (by first | exact .inl rfl | exact .inr rfl | assumption))
      (@pss_cons _ _ _ _ _ (@ps_set _ _ (6) _ _ _ _ sc__law_branch.nd
      rfl
      (Or.inl rfl)
      (pe_call G__law_branch hr rfl T.g__law_branch T.f__law_branch.kp T.n__law_branch .nil pass0 (@pa_c _ _ _ _ _ (pv 0)
      (@pa_c _ _ _ _ _ (pv 1)
      (@pa_c _ _ _ _ _ (@pe_op _ _ _ _ _ _ _ _ op_sub
      (pv 2)
      pe_int)
      pa_nil
      (by rfl))
      (by rfl))
      (by rfl)))
      (by rfl)
      (by first | exact .inl rfl | exact .inr rfl | assumption))
      (@pss_cons _ _ _ _ _ (@ps_set _ _ (7) _ _ _ _ sc__law_branch.nd
      rfl
      (Or.inl rfl)
      (@pe_tup _ _ _ _ _ (@pa_cons _ _ _ _ _ (pv 5)
      (@pa_cons _ _ _ _ _ (pv 6)
      pa_nil
      (by rfl))
      (by rfl)))
      (by rfl)
      (by first | exact .inl rfl | exact .inr rfl | assumption))
      (@pss_cons _ _ _ _ _ (@ps_if _ _ _ _ _ _ _ _ (@pt_cmpR _ _ _ _ _ _ _ _ op_eq
      (pv 5)
      pe_str
      (nomark _))
      (@pss_one _ _ _ (@ps_set _ _ (7) _ _ _ _ sc__law_branch.nd
      rfl
      (Or.inl rfl)
      (@pe_tup _ _ _ _ _ (@pa_c _ _ _ _ _ (pv 5)
      (@pa_c _ _ _ _ _ (pv 6)
      (@pa_c _ _ _ _ _ (pe_call G__law_branch hr rfl T.g__law_branch T.f__law_branch.kp T.n__law_branch .nil pass0 (@pa_c _ _ _ _ _ (pv 0)
      (@pa_c _ _ _ _ _ (pv 1)
      (@pa_c _ _ _ _ _ (@pe_op _ _ _ _ _ _ _ _ op_sub
      (pv 2)
      pe_int)
      pa_nil
      (by rfl))
      (by rfl))
      (by rfl)))
      pa_nil
      (by rfl))
      (by rfl))
      (by rfl)))
      (by rfl)
      (by first | exact .inl rfl | exact .inr rfl | assumption)))
      pss_nil)
      (@pss_cons _ _ _ _ _ (@ps_if _ _ _ _ _ _ _ _ (@pt_cmpR _ _ _ _ _ _ _ _ op_eq
      (pv 5)
      pe_str
      (nomark _))
      (@pss_cons _ _ _ _ _ (@ps_set _ _ (4) _ _ _ _ sc__law_branch.nd
      rfl
      (Or.inl rfl)
      (@pe_op _ _ _ _ _ _ _ _ op_mod
      (pe_call G__law_next (hr.mono (show _ ≤ 2 + n by omega)) rfl T.g__law_next T.f__law_next.kp T.n__law_next .nil pass0 (@pa_cons _ _ _ _ _ (pv 1)
      pa_nil
      (by rfl)))
      (@pe_ix _ _ _ _ _ _ _ (ix_listK (K := K) rfl)
      (@pe_lst _ _ _ _ (@pa_cons _ _ _ _ _ pe_int
      (@pa_cons _ _ _ _ _ pe_int
      pa_nil
      (by rfl))
      (by rfl)))
      (pe_callTy (call_int1) rfl T.b_int PyProof.Rows.Boot.«int» (@pa_cons _ _ _ _ _ (@pe_cmpR _ _ _ _ _ _ _ _ op_eq
      (pv 2)
      pe_int
      (nomark _))
      pa_nil
      (by rfl)))
      (fun _ _ => rfl)))
      (by rfl)
      (by first | exact .inl rfl | exact .inr rfl | assumption))
      (@pss_one _ _ _ (@ps_set _ _ (7) _ _ _ _ sc__law_branch.nd
      rfl
      (Or.inl rfl)
      (@pe_tup _ _ _ _ _ (@pa_c _ _ _ _ _ (pv 5)
      (@pa_c _ _ _ _ _ (pv 4)
      (@pa_c _ _ _ _ _ (pv 6)
      (@pa_c _ _ _ _ _ (pe_call G__law_branch hr rfl T.g__law_branch T.f__law_branch.kp T.n__law_branch .nil pass0 (@pa_c _ _ _ _ _ (pv 0)
      (@pa_c _ _ _ _ _ (pv 1)
      (@pa_c _ _ _ _ _ (@pe_op _ _ _ _ _ _ _ _ op_sub
      (pv 2)
      pe_int)
      pa_nil
      (by rfl))
      (by rfl))
      (by rfl)))
      pa_nil
      (by rfl))
      (by rfl))
      (by rfl))
      (by rfl)))
      (by rfl)
      (by first | exact .inl rfl | exact .inr rfl | assumption))))
      pss_nil)
      (@pss_one _ _ _ (@ps_ret _ _ _ _ (@pe_tup _ _ _ _ _ (@pa_cons _ _ _ _ _ (@pe_ix _ _ _ _ _ _ _ (ix_listK (K := K) rfl)
      (@pe_lst _ _ _ _ (@pa_cons _ _ _ _ _ pe_str
      (@pa_cons _ _ _ _ _ pe_str
      pa_nil
      (by rfl))
      (by rfl)))
      (@pe_op _ _ _ _ _ _ _ _ op_mod
      (pe_call G__law_next (hr.mono (show _ ≤ 2 + n by omega)) rfl T.g__law_next T.f__law_next.kp T.n__law_next .nil pass0 (@pa_cons _ _ _ _ _ (pv 1)
      pa_nil
      (by rfl)))
      pe_int)
      (fun _ _ => rfl))
      (@pa_cons _ _ _ _ _ (pv 7)
      pa_nil
      (by rfl))
      (by rfl)))))))))))))), ?_⟩
      obtain ⟨os, hos⟩ : ∃ o, H p = some o := ⟨_, hp⟩
      refine ⟨_, rfl, p, ns, rfl, hp, fun H1 m1 ns1 x1 hp1 => ⟨_, _, rfl, rfl, by decide, ?_⟩⟩
      obtain ⟨y, ey, y9⟩ := mod_nat m1 (m := 9) (by decide)
      have ey' : m1 % 9 = (y : Int) := ey
      rw [ey']
      have hnm1 := x1 _ _ nnp hnm
      have p5 : 5 ≤ 5 ^ (d + 1) := by rw [Nat.pow_succ]; have := Nat.one_le_pow d 5 (by decide); omega
      dsimp only [gName, tNext]
      show tSeq (tIfS (tOr _ _) _ _) _ _ [some (.ref nm), some (.ref p), some (.int (d : Nat)), some (.int (y : Nat)), none, none, none, none] H1
      refine seq_or (b := decide (V.int (d : Nat) = V.int 0)) (c := decide (V.int (y : Nat) = V.int 0)) ?_ ?_ ?_
      · exact fun Q q => ⟨_, rfl, rfl, _, rfl, q⟩
      · exact fun Q q => ⟨_, rfl, rfl, _, rfl, q⟩
      refine ite2 (fun c => ?_) (fun c => ?_)
      · refine ⟨_, rfl, p, ns1, rfl, hp1, fun H2 m2 ns2 x2 hp2 => ⟨_, _, rfl, rfl, by decide, rfl, _, rfl, ite2 (fun c => ?_) (fun c => ?_)⟩⟩
        · refine ⟨by rw [sizeLine_eq]; exact (by decide : 1 ≤ 16777216), fun t ht => ?_⟩
          obtain ⟨H3, qN, u3, e3⟩ := newE (o := .tup [.str "yes"]) ht
          rw [qN]; clear qN
          exact k H3 _ (.node .yes []) ns2 ((x1.trans x2).trans (Same.x u3)) (u3 _ _ hp2) (at_yes (SqT.of e3)) (by rw [post_len]; show 0 + 1 ≤ _; omega)
        · have hnm2 := x2 _ _ nnp hnm1
          refine ⟨_, rfl, by rw [sizeLine_eq]; exact (by decide : 1 ≤ 16777216), fun B hB => ?_⟩
          obtain ⟨H3, qN, u3, e3⟩ := newE (o := .lst (zy.map V.str)) hB
          have qN' : upd H2 B (.lst [.str "zyx"]) = H3 := qN
          rw [qN']; clear qN qN'
          refine ⟨nm, B, _, _, rfl, rfl, u3 _ _ hnm2, e3, by rw [List.length_map, List.length_map, ln, sizeLine_eq]; decide, fun C hC => ?_⟩
          rw [← List.map_append]
          obtain ⟨H4, qN, u4, e4⟩ := newE (o := .lst ((nn ++ zy).map V.str)) hC
          rw [qN]; clear qN
          have l4 : (nn ++ zy).length = 4 := by rw [List.length_append, ln]; rfl
          have nC : C ≠ p := fun e => by rw [e, u3 _ _ hp2] at hC; cases hC
          refine ⟨_, rfl, p, ns2, rfl, (u3.trans u4) _ _ hp2, fun H5 m5 ns5 x5 hp5 => ?_⟩
          obtain ⟨r, er, hr4⟩ := mod_nat m5 (m := 4) (by decide)
          have hz : isNameS ((nn ++ zy)[r]'(by omega)) = true := by
            have hm := List.getElem_mem (show r < (nn ++ zy).length by omega)
            rcases List.mem_append.mp hm with h | h
            · exact nnm _ h
            · rw [List.mem_singleton.mp h]; decide +kernel
          refine ⟨_, _, rfl, rfl, by decide, C, _, _, .str ((nn ++ zy)[r]'(by omega)), rfl, rfl, SqL.of (x5 _ _ nC e4), by rw [show (4 : Int) = ((4 : Nat) : Int) from rfl, er]; exact at_str (by omega), by rw [sizeLine_eq]; exact (by decide : 2 ≤ 16777216), fun t ht => ?_⟩
          generalize ((nn ++ zy)[r]'(by omega)) = z at hz
          obtain ⟨H6, qN, u6, e6⟩ := newE (o := .tup [.str "sign", .str z]) ht
          rw [qN]; clear qN
          exact k H6 _ (.node (.sign z) []) ns5 ((x1.trans x2).trans ((Same.x (u3.trans u4)).trans (x5.trans (Same.x u6)))) (u6 _ _ hp5) (at_sign (SqT.of e6) hz) (by rw [post_len]; show 0 + 1 ≤ _; omega)
      have hc : ¬ (d = 0) ∧ ¬ (y = 0) := by
        refine ⟨fun z => c ?_, fun z => c ?_⟩
        · subst z; rfl
        · subst z; rw [Bool.or_eq_true]; exact .inr rfl
      obtain ⟨hd0, hy0⟩ := hc
      obtain ⟨e, rfl⟩ : ∃ e, d = e + 1 := ⟨d - 1, by omega⟩
      have q1 : 5 ^ (e + 1 + 1) = 5 ^ (e + 1) * 5 := Nat.pow_succ ..
      have q4 : 5 ≤ 5 ^ (e + 1) := by rw [Nat.pow_succ]; have := Nat.one_le_pow e 5 (by decide); omega
      have ed : ((e + 1 : Nat) : Int) - 1 = ((e : Nat) : Int) := by omega
      clear c p5
      refine ⟨_, rfl, rfl, _, rfl, ite2 (fun c => ?_) (fun c => ?_)⟩
      · refine ⟨_, rfl, _, rfl, _, rfl, _, _, rfl, rfl, nm, p, nn, ns1, e, by rw [ed]; rfl, by omega, by omega, hnm1, ln, nnm, nnp, hp1, fun H2 v1 t1 ns2 x2 hp2 at1 sz1 => ⟨by rw [sizeLine_eq]; exact (by decide : 2 ≤ 16777216), fun t ht => ?_⟩⟩
        obtain ⟨H3, qN, u3, e3⟩ := newE (o := .tup [.str "not", v1]) ht
        rw [qN]; clear qN
        exact k H3 _ (.node (.op "not") [t1]) ns2 ((x1.trans x2).trans (Same.x u3)) (u3 _ _ hp2) ((at_op1 (SqT.of e3) (by decide +kernel) (at1.mono (Same.tup u3))).le (by omega)) (by rw [post_len, postL_one]; omega)
      have hy1 : ¬ y = 1 := fun z => c (by subst z; rfl)
      clear c
      refine ⟨_, rfl, by rw [sizeLine_eq]; exact (by decide : 2 ≤ 16777216), fun B hB => ?_⟩
      obtain ⟨H2, qN, u2, e2⟩ := newE (o := .tup [.int 2, .int 3]) hB
      rw [qN]; clear qN
      have hp2 := u2 _ _ hp1
      have hnm2 := u2 _ _ hnm1
      have x2 := x1.trans (Same.x u2)
      refine ⟨B, _, rfl, .inr (SqT.of e2), rfl, rfl, _, rfl, ite2 (fun c => ?_) (fun c => ?_)⟩
      · refine ⟨_, rfl, p, ns1, rfl, hp2, fun H3 m3 ns3 x3 hp3 => ⟨_, _, rfl, rfl, by decide, ?_⟩⟩
        have hy23 : y = 2 ∨ y = 3 := by
          apply Classical.byContradiction
          intro z
          have c' : inV (V.int (y : Nat)) (([2, 3] : List Int).map V.int) = true := c
          rw [inV_int] at c'
          have := of_decide_eq_true c'
          simp at this
          omega
        obtain ⟨mm, em, hm4⟩ := mod_nat m3 (m := 4) (by decide)
        have em' : m3 % 4 = (mm : Int) := em
        rw [em']
        have hnm3 := x3 _ _ nnp hnm2
        refine ⟨by rw [sizeLine_eq]; exact (by decide : 2 ≤ 16777216), fun L hL => ?_⟩
        obtain ⟨H4, qN, u4, e4⟩ := newE (o := .lst (ao2.map V.str)) hL
        have qN' : upd H3 L (.lst [.str "and", .str "or"]) = H4 := qN
        rw [qN']; clear qN qN'
        have nL : L ≠ p := fun e => by rw [e, hp3] at hL; cases hL
        have ey2 : ((y : Nat) : Int) - 2 = ((y - 2 : Nat) : Int) := by omega
        have ha2 := ao2W _ (List.getElem_mem (show y - 2 < ao2.length from (by show y - 2 < 2; omega)))
        refine ⟨_, rfl, _, _, rfl, rfl, L, _, _, .str (ao2[y - 2]'(by show y - 2 < 2; omega)), rfl, rfl, SqL.of e4, by rw [ey2]; exact at_str (l := ao2) (show y - 2 < 2 by omega), ?_⟩
        generalize (ao2[y - 2]'(by show y - 2 < 2; omega)) = wd at ha2
        have hp4 := u4 _ _ hp3
        refine ⟨_, rfl, _, rfl, by omega, by omega, fun D hD => ?_⟩
        rw [Int.toNat_natCast]
        have nD : D ≠ p := fun e => by rw [e, hp4] at hD; cases hD
        have x4 : SameX p H H4 := x2.trans (x3.trans (Same.x u4))
        refine comp_genL (J := Itr 0 mm) (n := mm) (fun i σ G => ∃ (z : Option V) (us : List V) (ks : List Tr) (ns' : List Int), σ = [z, some (.ref nm), some (.ref p), some (.int ((e + 1 : Nat) : Int))] ∧ SameX p H4 G ∧ G p = some (.lst (ns'.map V.int)) ∧ G D = some (.lst us) ∧ AtL K (2 * e + 1) G us ks ∧ ks.length = i ∧ (postL ks).length ≤ i * 5 ^ (e + 1)) ?_ (fun _ _ _ h _ => h) (fun _ _ _ => Nat.le_refl _) ?_ ?_
        · exact ⟨_, [], [], ns3, rfl, Same.x (same_upd hD), same_upd hD _ _ hp4, upd_same, AtL.nil, rfl, by simp [postL]⟩
        · rintro i x σ G0 G hi ⟨z, us, ks, ns', rfl, xG, hpG, gD, aL, kl, sz⟩ ⟨rfl, rfl⟩ N N0 hN hN0
          have hnmG := xG _ _ nnp (u4 _ _ hnm3)
          refine ⟨_, rfl, _, rfl, _, rfl, _, _, rfl, rfl, nm, p, nn, ns', e, by rw [ed]; rfl, by omega, by omega, hnmG, ln, nnm, nnp, hpG, fun G2 v1 t1 ns2 y2 hp2 at1 sz1 => ?_⟩
          have ul := aL.1
          have gD2 := y2 _ _ nD gD
          have tU := upd_tupL (o := .lst (us ++ [v1])) gD2
          refine hN _ _ G2 _ gD2 (by rw [sizeLine_eq]; omega) ⟨_, us ++ [v1], ks ++ [t1], ns2, rfl, (xG.trans y2).updN hD, by rw [upd_ne (Ne.symm nD)]; exact hp2, upd_same, (aL.mono ((SameX.tup y2 hpG).trans tU)).app (AtL.one (at1.mono tU)), by rw [List.length_append, kl]; rfl, ?_⟩
          rw [postL_app, postL_one, List.length_append, Nat.succ_mul]
          omega
        rintro σ G ⟨z, us, ks, ns', rfl, xG, hpG, gD, aL, kl, sz⟩
        refine ⟨D, _, rfl, .inl ⟨SqL.of gD, fun b hb => ?_⟩⟩
        obtain ⟨G2, qN, g2, e5⟩ := newE (o := .tup us) hb
        rw [qN]; clear qN
        refine ⟨by rw [sizeLine_eq]; exact (by decide : 2 ≤ 16777216), fun t ht => ?_⟩
        obtain ⟨G3, qN, g3, e6⟩ := newE (o := .tup [.str wd, .ref b]) ht
        rw [qN]; clear qN
        have sz3 : mm * 5 ^ (e + 1) ≤ 3 * 5 ^ (e + 1) := Nat.mul_le_mul_right _ (by omega)
        exact k G3 _ (.node (.many wd) ks) ns' (x4.trans (xG.trans (Same.x (g2.trans g3)))) ((g2.trans g3) _ _ hpG) ((at_mny (SqT.of e6) (SqT.of (g3 _ _ e5)) (aL.mono (Same.tup (g2.trans g3))) ha2 (by omega)).le (by omega)) (by rw [post_len]; omega)
      have hy4 : 4 ≤ y := by
        apply Classical.byContradiction
        intro z
        apply c
        rcases (show y = 2 ∨ y = 3 by omega) with rfl | rfl <;> decide
      clear c
      refine ⟨by rw [sizeLine_eq]; exact (by decide : 5 ≤ 16777216), fun L5 hL5 => ?_⟩
      obtain ⟨H3, qN, u3, e3⟩ := newE (o := .lst (five.map V.str)) hL5
      have qN' : upd H2 L5 (.lst [.str "next", .str "until", .str "always", .str "ever", .str "within"]) = H3 := qN
      rw [qN']; clear qN qN'
      have ey4 : ((y : Nat) : Int) - 4 = ((y - 4 : Nat) : Int) := by omega
      have hw5 := fiveW _ (List.getElem_mem (show y - 4 < five.length from (by show y - 4 < 5; omega)))
      refine ⟨_, rfl, _, _, rfl, rfl, L5, _, _, .str (five[y - 4]'(by show y - 4 < 5; omega)), rfl, rfl, SqL.of e3, by rw [ey4]; exact at_str (l := five) (show y - 4 < 5 by omega), ?_⟩
      generalize (five[y - 4]'(by show y - 4 < 5; omega)) = wd at hw5
      refine ⟨_, rfl, _, rfl, _, rfl, _, _, rfl, rfl, nm, p, nn, ns1, e, by rw [ed]; rfl, by omega, by omega, u3 _ _ hnm2, ln, nnm, nnp, u3 _ _ hp2, fun H4 v1 t1 ns4 x4 hp4 at1 sz1 => ?_⟩
      have hnm4 := x4 _ _ nnp (u3 _ _ hnm2)
      refine ⟨_, rfl, _, rfl, by rw [sizeLine_eq]; exact (by decide : 2 ≤ 16777216), fun T0 hT0 => ?_⟩
      obtain ⟨H5, qN, u5, e5⟩ := newE (o := .tup [.str wd, v1]) hT0
      rw [qN]; clear qN
      have hp5 := u5 _ _ hp4
      have hnm5 := u5 _ _ hnm4
      have at5 := at1.mono (Same.tup u5)
      have x5 : SameX p H H5 := x2.trans ((Same.x u3).trans (x4.trans (Same.x u5)))
      refine ⟨_, rfl, rfl, _, rfl, ite2 (fun c => ?_) (fun c => ?_)⟩
      · have cw : wd = "until" := V.str.inj (of_decide_eq_true c)
        subst cw
        refine ⟨_, rfl, _, rfl, _, rfl, _, rfl, _, rfl, _, _, rfl, rfl, nm, p, nn, ns4, e, by rw [ed]; rfl, by omega, by omega, hnm5, ln, nnm, nnp, hp5, fun H6 v2 t2 ns6 x6 hp6 at2 sz2 => ⟨by rw [sizeLine_eq]; exact (by decide : 3 ≤ 16777216), fun T hT => ?_⟩⟩
        obtain ⟨J0, qN, u6, e6⟩ := newE (o := .tup [.str "until", v1, v2]) hT
        rw [qN]; clear qN
        have hJ := u6 _ _ hp6
        have xJ : SameX p H J0 := x5.trans (x6.trans (Same.x u6))
        have t56 : SameT H5 J0 := (SameX.tup x6 hp5).trans (Same.tup u6)
        have atP : At K (2 * e + 2) J0 (.ref T) (.node (.op "until") [t1, t2]) := at_op2 (SqT.of e6) (by decide +kernel) (at5.mono t56) (at2.mono (Same.tup u6))
        have szP : (post (.node (.op "until") [t1, t2])).length ≤ 2 * 5 ^ (e + 1) + 1 := by rw [post_len, show [t1, t2] = [t1] ++ [t2] from rfl, postL_app, postL_one, postL_one, List.length_append]; omega
        generalize Tr.node (.op "until") [t1, t2] = tp at atP szP
        refine ⟨_, rfl, rfl, _, rfl, ite2 (fun c => absurd (V.str.inj (of_decide_eq_true c)) (by decide +kernel)) (fun _ => ?_)⟩
        refine ⟨by rw [sizeLine_eq]; exact (by decide : 2 ≤ 16777216), fun L hL => ?_⟩
        obtain ⟨J1, qN, j1, eL⟩ := newE (o := .lst (sa2.map V.str)) hL
        have qN' : upd J0 L (.lst [.str "some", .str "all"]) = J1 := qN
        rw [qN']; clear qN qN'
        have nL : L ≠ p := fun e => by rw [e, hJ] at hL; cases hL
        refine ⟨_, rfl, p, _, rfl, j1 _ _ hJ, fun J2 m2 ns2 y2 hp2 => ?_⟩
        obtain ⟨r2, er2, hr2⟩ := mod_nat m2 (m := 2) (by decide)
        refine ⟨_, _, rfl, rfl, by decide, L, _, _, .str (sa2[r2]'hr2), rfl, rfl, SqL.of (y2 _ _ nL eL), by rw [show (2 : Int) = ((2 : Nat) : Int) from rfl, er2]; exact at_str hr2, _, rfl, by rw [sizeLine_eq]; exact (by decide : 2 ≤ 16777216), fun T2 hT2 => ?_⟩
        obtain ⟨J3, qN, j3, e3⟩ := newE (o := .tup [.str (sa2[r2]'hr2), .ref T]) hT2
        rw [qN]; clear qN
        have tj : SameT J0 J3 := (Same.tup j1).trans ((SameX.tup y2 (j1 _ _ hJ)).trans (Same.tup j3))
        have w1 : (sa2[r2]'hr2) ∈ W1 := by
          have h : ∀ x ∈ sa2, x ∈ W1 := by decide +kernel
          exact h _ (List.getElem_mem hr2)
        exact k J3 _ (.node (.op (sa2[r2]'hr2)) [tp]) ns2 (xJ.trans ((Same.x j1).trans (y2.trans (Same.x j3)))) (j3 _ _ hp2) ((at_op1 (SqT.of e3) w1 (atP.mono tj)).le (by omega)) (by rw [post_len, postL_one]; omega)
      have cw1 : wd ≠ "until" := fun z => c (by rw [z]; rfl)
      clear c
      refine ⟨_, rfl, rfl, _, rfl, ite2 (fun c => ?_) (fun c => ?_)⟩
      · have cw : wd = "within" := V.str.inj (of_decide_eq_true c)
        subst cw
        refine ⟨_, rfl, p, ns4, rfl, hp5, fun H6 m6 ns6 x6 hp6 => ⟨by rw [sizeLine_eq]; exact (by decide : 2 ≤ 16777216), fun L6 hL6 => ?_⟩⟩
        obtain ⟨H7, qN, u7, e7⟩ := newE (o := .lst [.int 2, .int 6]) hL6
        rw [qN]; clear qN
        refine ⟨_, rfl, rfl, .inr ⟨_, rfl, ?_⟩⟩
        obtain ⟨b2, eb2, b20, b26⟩ : ∃ b2 : Int, atI [V.int 2, .int 6] (if decide (V.int ((e + 1 : Nat) : Int) = V.int 1) = true then 1 else 0) = some (.int b2) ∧ 0 < b2 ∧ b2 ≤ 6 := by
          by_cases z : decide (V.int ((e + 1 : Nat) : Int) = V.int 1) = true
          · rw [if_pos z]; exact ⟨6, rfl, by decide, by decide⟩
          · rw [if_neg z]; exact ⟨2, rfl, by decide, by decide⟩
        refine ⟨L6, _, _, .int b2, rfl, rfl, SqL.of e7, eb2, _, _, rfl, rfl, b20, ?_⟩
        have g0 := Int.emod_nonneg m6 (show b2 ≠ 0 by omega)
        have g1 := Int.emod_lt_of_pos m6 b20
        generalize m6 % b2 = mm at g0 g1 ⊢
        have hp7 := u7 _ _ hp6
        refine ⟨_, rfl, _, rfl, _, rfl, _, rfl, _, rfl, _, rfl, _, _, rfl, rfl, nm, p, nn, ns6, e, by rw [ed]; rfl, by omega, by omega, u7 _ _ (x6 _ _ nnp hnm5), ln, nnm, nnp, hp7, fun H8 v2 t2 ns8 x8 hp8 at2 sz2 => ⟨by rw [sizeLine_eq]; exact (by decide : 4 ≤ 16777216), fun T hT => ?_⟩⟩
        obtain ⟨J0, qN, u9, e9⟩ := newE (o := .tup [.str "within", .int mm, v1, v2]) hT
        rw [qN]; clear qN
        have hJ := u9 _ _ hp8
        have xJ : SameX p H J0 := x5.trans (x6.trans ((Same.x u7).trans (x8.trans (Same.x u9))))
        have t56 : SameT H5 J0 := (SameX.tup x6 hp5).trans ((Same.tup u7).trans ((SameX.tup x8 hp7).trans (Same.tup u9)))
        have atP : At K (2 * e + 2) J0 (.ref T) (.node (.wit mm) [t1, t2]) := at_wit (SqT.of e9) ⟨by omega, by omega⟩ (at5.mono t56) (at2.mono (Same.tup u9))
        have szP : (post (.node (.wit mm) [t1, t2])).length ≤ 2 * 5 ^ (e + 1) + 1 := by rw [post_len, show [t1, t2] = [t1] ++ [t2] from rfl, postL_app, postL_one, postL_one, List.length_append]; omega
        generalize Tr.node (.wit mm) [t1, t2] = tp at atP szP
        refine ⟨by rw [sizeLine_eq]; exact (by decide : 2 ≤ 16777216), fun L hL => ?_⟩
        obtain ⟨J1, qN, j1, eL⟩ := newE (o := .lst (sa2.map V.str)) hL
        have qN' : upd J0 L (.lst [.str "some", .str "all"]) = J1 := qN
        rw [qN']; clear qN qN'
        have nL : L ≠ p := fun e => by rw [e, hJ] at hL; cases hL
        refine ⟨_, rfl, p, _, rfl, j1 _ _ hJ, fun J2 m2 ns2 y2 hp2 => ?_⟩
        obtain ⟨r2, er2, hr2⟩ := mod_nat m2 (m := 2) (by decide)
        refine ⟨_, _, rfl, rfl, by decide, L, _, _, .str (sa2[r2]'hr2), rfl, rfl, SqL.of (y2 _ _ nL eL), by rw [show (2 : Int) = ((2 : Nat) : Int) from rfl, er2]; exact at_str hr2, _, rfl, by rw [sizeLine_eq]; exact (by decide : 2 ≤ 16777216), fun T2 hT2 => ?_⟩
        obtain ⟨J3, qN, j3, e3⟩ := newE (o := .tup [.str (sa2[r2]'hr2), .ref T]) hT2
        rw [qN]; clear qN
        have tj : SameT J0 J3 := (Same.tup j1).trans ((SameX.tup y2 (j1 _ _ hJ)).trans (Same.tup j3))
        have w1 : (sa2[r2]'hr2) ∈ W1 := by
          have h : ∀ x ∈ sa2, x ∈ W1 := by decide +kernel
          exact h _ (List.getElem_mem hr2)
        exact k J3 _ (.node (.op (sa2[r2]'hr2)) [tp]) ns2 (xJ.trans ((Same.x j1).trans (y2.trans (Same.x j3)))) (j3 _ _ hp2) ((at_op1 (SqT.of e3) w1 (atP.mono tj)).le (by omega)) (by rw [post_len, postL_one]; omega)
      have cw2 : wd ≠ "within" := fun z => c (by rw [z]; rfl)
      have w1m := hw5 cw1 cw2
      have atP : At K (2 * e + 2) H5 (.ref T0) (.node (.op wd) [t1]) := at_op1 (SqT.of e5) w1m at5
      have szP : (post (.node (.op wd) [t1])).length ≤ 2 * 5 ^ (e + 1) + 1 := by rw [post_len, postL_one]; omega
      generalize Tr.node (.op wd) [t1] = tp at atP szP
      have hJ := hp5
      have xJ := x5
      clear e5 at5 hnm5
      generalize H5 = J0 at atP hJ xJ ⊢
      refine ⟨by rw [sizeLine_eq]; exact (by decide : 2 ≤ 16777216), fun L hL => ?_⟩
      obtain ⟨J1, qN, j1, eL⟩ := newE (o := .lst (sa2.map V.str)) hL
      have qN' : upd J0 L (.lst [.str "some", .str "all"]) = J1 := qN
      rw [qN']; clear qN qN'
      have nL : L ≠ p := fun e => by rw [e, hJ] at hL; cases hL
      refine ⟨_, rfl, p, _, rfl, j1 _ _ hJ, fun J2 m2 ns2 y2 hp2 => ?_⟩
      obtain ⟨r2, er2, hr2⟩ := mod_nat m2 (m := 2) (by decide)
      refine ⟨_, _, rfl, rfl, by decide, L, _, _, .str (sa2[r2]'hr2), rfl, rfl, SqL.of (y2 _ _ nL eL), by rw [show (2 : Int) = ((2 : Nat) : Int) from rfl, er2]; exact at_str hr2, _, rfl, by rw [sizeLine_eq]; exact (by decide : 2 ≤ 16777216), fun T2 hT2 => ?_⟩
      obtain ⟨J3, qN, j3, e3⟩ := newE (o := .tup [.str (sa2[r2]'hr2), .ref T0]) hT2
      rw [qN]; clear qN
      have tj : SameT J0 J3 := (Same.tup j1).trans ((SameX.tup y2 (j1 _ _ hJ)).trans (Same.tup j3))
      have w1 : (sa2[r2]'hr2) ∈ W1 := by
        have h : ∀ x ∈ sa2, x ∈ W1 := by decide +kernel
        exact h _ (List.getElem_mem hr2)
      exact k J3 _ (.node (.op (sa2[r2]'hr2)) [tp]) ns2 (xJ.trans ((Same.x j1).trans (y2.trans (Same.x j3)))) (j3 _ _ hp2) ((at_op1 (SqT.of e3) w1 (atP.mono tj)).le (by omega)) (by rw [post_len, postL_one]; omega)
end KK

set_option Elab.async false
set_option linter.all false
set_option maxRecDepth 100000
set_option maxHeartbeats 8000000
namespace KK
open PySem PySem.Spec L2 L3
theorem bk0 (c : Lb) : bkT (.node c []) = bkS (wordL c) [] := bk_eq _
theorem bk1 {k : Tr} {x : Str} (c : Lb) (h : bkT k = x) : bkT (.node c [k]) = bkS (wordL c) [x] := by subst h; exact bk_eq _
theorem bk2 {k r : Tr} {x y : Str} (c : Lb) (h : bkT k = x) (g : bkT r = y) : bkT (.node c [k, r]) = bkS (wordL c) [x, y] := by subst h g; exact bk_eq _
/-- a sentence whose kind of branches is not b -/
def GN1 (K : PySem.W.Frag) (b : Str) (H : Hp) (x : V) : Prop := ∃ t, At K 4 H x t ∧ (post t).length ≤ 10 ∧ bkT t ≠ b
def GN (K : PySem.W.Frag) (b : Str) (H : Hp) (xs : List V) : Prop := ∀ x ∈ xs, GN1 K b H x
theorem GN.mono {K : PySem.W.Frag} {b : Str} {H H' : Hp} {xs : List V} (h : GN K b H xs) (s : SameT H H') : GN K b H' xs := fun x hx => let ⟨t, h1, h2⟩ := h x hx; ⟨t, h1.mono s, h2⟩
theorem GN.add {K : PySem.W.Frag} {b : Str} {H : Hp} {xs : List V} {v : V} (h : GN K b H xs) (g : GN1 K b H v) : GN K b H (xs ++ [v]) := fun x hx => by
  rcases List.mem_append.mp hx with hx | hx
  · exact h x hx
  · rw [List.mem_singleton.mp hx]; exact g
theorem GN.app {K : PySem.W.Frag} {b : Str} {H : Hp} {xs ys : List V} (h : GN K b H xs) (g : GN K b H ys) : GN K b H (xs ++ ys) := fun x hx => by
  rcases List.mem_append.mp hx with hx | hx
  · exact h x hx
  · exact g x hx
theorem at_len {xs : List V} {n : Nat} (h : xs.length = n) (n0 : 0 < n) (i : Int) : ∃ u, atI xs (i % ((n : Nat) : Int)) = some u ∧ u ∈ xs := by
  obtain ⟨r, er, hr⟩ := mod_nat i n0
  rw [er]
  exact ⟨xs[r]'(by omega), atI_nat (List.getElem?_eq_getElem (by omega)), List.getElem_mem _⟩
theorem sameX_step {p L : Addr} {H G G' : Hp} (x : SameX p H G) (y : SameX L G G') (h : H L = none) : SameX p H G' := fun b o n e => y _ _ (fun z => by rw [z, h] at e; cases e) (x _ _ n e)
theorem sa2W : ∀ w ∈ sa2, w ∈ W1 ∧ ∀ t, bkT t ≠ "way" → bkT (.node (.op w) [t]) ≠ "room" := fun w hw => by
  have h : ∀ w ∈ sa2, w ∈ W1 ∧ w ∈ (["all", "some"] : List Str) := by decide +kernel
  obtain ⟨h1, h2⟩ := h w hw
  refine ⟨h1, fun t ht e => ?_⟩
  rw [bk1 (.op w) rfl] at e
  unfold bkS wantS at e
  have h2' : wordL (.op w) ∈ (["all", "some"] : List Str) := h2
  rw [if_pos h2'] at e
  have hd : decide (V.str (bkT t) = V.str "way") = false := decide_eq_false fun z => ht (V.str.inj z)
  simp only [List.map_cons, List.map_nil, List.all_cons, hd, id, Bool.false_and, Bool.false_eq_true, if_false] at e
  exact absurd e (by decide +kernel)
def sp__law_none (K : PySem.W.Frag) (a : Adr) : Sp := fun vs H Q _ => ∃ (nm p : Addr) (nn : List Str) (ns : List Int), vs = [.ref nm, .ref p] ∧ H nm = some (.lst (nn.map V.str)) ∧ nn.length = 3 ∧ (∀ x ∈ nn, isNameS x = true) ∧ nm ≠ p ∧ H p = some (.lst (ns.map V.int)) ∧ ∀ H' v t (ns' : List Int), SameX p H H' → H' p = some (.lst (ns'.map V.int)) → At K 5 H' v t → (post t).length ≤ 20 → bkT t ≠ "room" → Q v H'
theorem ok__law_none {P : Program} {w : World} {K : PySem.W.Frag} {mg : Str → Option Value} {base : Heap} {a : Adr} (T : Txt K mg a) (hw : w.params = a.Pm) : FnOk P w K mg base CX0 2 a._law_none a._law_none_fd ["_law_names_here", "_law_xs"] (sp__law_none K a) := by
  have G__law_next := ok__law_next (P := P) (w := w) (base := base) T hw
  refine T.f__law_none.ok sc__law_none (fun vs H Q E h => ?_) (fun cdv A outer s H vs Q E hr h => ?_)
  · obtain ⟨nm, p, nn, ns, rfl, _⟩ := h
    rfl
  · obtain ⟨nm, p, nn, ns, rfl, hnm, ln, nnm, nnp, hp, k⟩ := h
    refine ⟨_, (@pss_cons _ _ _ _ _ (@ps_set _ _ (2) _ _ _ _ sc__law_none.nd
      rfl
      (Or.inl rfl)
      (@pe_tup _ _ _ _ _ (@pa_cons _ _ _ _ _ pe_str
      (@pa_cons _ _ _ _ _ (@pe_ix _ _ _ _ _ _ _ (ix_listK (K := K) rfl)
      (pv 0)
      (@pe_op _ _ _ _ _ _ _ _ op_mod
      (pe_call G__law_next (hr.mono (by decide)) rfl T.g__law_next T.f__law_next.kp T.n__law_next .nil pass0 (@pa_cons _ _ _ _ _ (pv 1)
      pa_nil
      (by rfl)))
      pe_int)
      (fun _ _ => rfl))
      pa_nil
      (by rfl))
      (by rfl)))
      (by rfl)
      (by first | exact .inl rfl | exact .inr rfl | assumption))
      (@pss_cons _ _ _ _ _ (@ps_set _ _ (3) _ _ _ _ sc__law_none.nd
      rfl
      (Or.inl rfl)
      (@pe_tup _ _ _ _ _ (@pa_cons _ _ _ _ _ pe_str
      (@pa_cons _ _ _ _ _ (pv 2)
      pa_nil
      (by rfl))
      (by rfl)))
      (by rfl)
      (by first | exact .inl rfl | exact .inr rfl | assumption))
      (@pss_cons _ _ _ _ _ (@ps_set _ _ (4) _ _ _ _ sc__law_none.nd
      rfl
      (Or.inl rfl)
      (@pe_lst _ _ _ _ (@pa_c _ _ _ _ _ (pv 2)
      (@pa_c _ _ _ _ _ (@pe_tup _ _ _ _ _ (@pa_cons _ _ _ _ _ pe_str
      (@pa_cons _ _ _ _ _ (pv 3)
      pa_nil
      (by rfl))
      (by rfl)))
      (@pa_c _ _ _ _ _ (@pe_tup _ _ _ _ _ (@pa_cons _ _ _ _ _ pe_str
      (@pa_cons _ _ _ _ _ (@pe_tup _ _ _ _ _ (@pa_cons _ _ _ _ _ (pv 3)
      (@pa_cons _ _ _ _ _ (pv 3)
      pa_nil
      (by rfl))
      (by rfl)))
      pa_nil
      (by rfl))
      (by rfl)))
      (@pa_c _ _ _ _ _ (@pe_tup _ _ _ _ _ (@pa_cons _ _ _ _ _ pe_str
      (@pa_cons _ _ _ _ _ (@pe_tup _ _ _ _ _ (@pa_cons _ _ _ _ _ (pv 3)
      pa_nil
      (by rfl)))
      pa_nil
      (by rfl))
      (by rfl)))
      (@pa_c _ _ _ _ _ (@pe_tup _ _ _ _ _ (@pa_cons _ _ _ _ _ pe_str
      (@pa_cons _ _ _ _ _ (pv 3)
      pa_nil
      (by rfl))
      (by rfl)))
      (@pa_c _ _ _ _ _ (@pe_tup _ _ _ _ _ (@pa_c _ _ _ _ _ pe_str
      (@pa_c _ _ _ _ _ (pv 3)
      (@pa_c _ _ _ _ _ (pv 2)
      pa_nil
      (by rfl))
      (by rfl))
      (by rfl)))
      pa_nil
      (by rfl))
      (by rfl))
      (by rfl))
      (by rfl))
      (by rfl))
      (by rfl)))
      (by rfl)
      (by first | exact .inl rfl | exact .inr rfl | assumption))
      (@pss_cons _ _ _ _ _ (@ps_expr _ _ _ _ (pe_bm PySem.F.plainAttrs_list PySem.F.slot_list_append PySem.F.type_list_append mt_append (pv 4) (@pa_cons _ _ _ _ _ (@pe_tup _ _ _ _ _ (@pa_cons _ _ _ _ _ pe_str
      (@pa_cons _ _ _ _ _ (@pe_tup _ _ _ _ _ (@pa_cons _ _ _ _ _ pe_str
      (@pa_cons _ _ _ _ _ (pv 3)
      pa_nil
      (by rfl))
      (by rfl)))
      pa_nil
      (by rfl))
      (by rfl)))
      pa_nil
      (by rfl)))
      (by rfl))
      (@pss_cons _ _ _ _ _ (@ps_set _ _ (4) _ _ _ _ sc__law_none.nd
      rfl
      (Or.inl rfl)
      (@pe_op _ _ _ _ _ _ _ _ op_cat
      (pv 4)
      (@pe_lst _ _ _ _ (@pa_c _ _ _ _ _ (@pe_tup _ _ _ _ _ (@pa_cons _ _ _ _ _ pe_str
      (@pa_cons _ _ _ _ _ (pv 2)
      pa_nil
      (by rfl))
      (by rfl)))
      (@pa_c _ _ _ _ _ (@pe_tup _ _ _ _ _ (@pa_c _ _ _ _ _ pe_str
      (@pa_c _ _ _ _ _ (pv 2)
      (@pa_c _ _ _ _ _ (pv 2)
      pa_nil
      (by rfl))
      (by rfl))
      (by rfl)))
      (@pa_c _ _ _ _ _ (@pe_tup _ _ _ _ _ (@pa_cons _ _ _ _ _ pe_str
      (@pa_cons _ _ _ _ _ (pv 2)
      pa_nil
      (by rfl))
      (by rfl)))
      (@pa_c _ _ _ _ _ (@pe_tup _ _ _ _ _ (@pa_cons _ _ _ _ _ pe_str
      (@pa_cons _ _ _ _ _ (pv 2)
      pa_nil
      (by rfl))
      (by rfl)))
      (@pa_c _ _ _ _ _ (@pe_tup _ _ _ _ _ (@pa_cons _ _ _ _ _ pe_str
      (@pa_cons _ _ _ _ _ (@pe_tup _ _ _ _ _ (@pa_cons _ _ _ _ _ pe_str
      (@pa_cons _ _ _ _ _ (pv 2)
      pa_nil
      (by rfl))
      (by rfl)))
      pa_nil
      (by rfl))
      (by rfl)))
      pa_nil
      (by rfl))
      (by rfl))
      (by rfl))
      (by rfl))
      (by rfl))))
      (by rfl)
      (by first | exact .inl rfl | exact .inr rfl | assumption))
      (@pss_cons _ _ _ _ _ (@ps_set _ _ (4) _ _ _ _ sc__law_none.nd
      rfl
      (Or.inl rfl)
      (@pe_op _ _ _ _ _ _ _ _ op_cat
      (pv 4)
      (@pe_lst _ _ _ _ (@pa_c _ _ _ _ _ (@pe_tup _ _ _ _ _ (@pa_c _ _ _ _ _ pe_str
      (@pa_c _ _ _ _ _ pe_int
      (@pa_c _ _ _ _ _ (pv 3)
      (@pa_c _ _ _ _ _ (pv 2)
      pa_nil
      (by rfl))
      (by rfl))
      (by rfl))
      (by rfl)))
      (@pa_c _ _ _ _ _ (@pe_tup _ _ _ _ _ (@pa_c _ _ _ _ _ pe_str
      (@pa_c _ _ _ _ _ pe_int
      (@pa_c _ _ _ _ _ (pv 2)
      (@pa_c _ _ _ _ _ (pv 3)
      pa_nil
      (by rfl))
      (by rfl))
      (by rfl))
      (by rfl)))
      (@pa_c _ _ _ _ _ (@pe_tup _ _ _ _ _ (@pa_cons _ _ _ _ _ pe_str
      (@pa_cons _ _ _ _ _ (pv 3)
      pa_nil
      (by rfl))
      (by rfl)))
      (@pa_c _ _ _ _ _ (@pe_tup _ _ _ _ _ (@pa_cons _ _ _ _ _ pe_str
      (@pa_cons _ _ _ _ _ (@pe_tup _ _ _ _ _ pa_nil)
      pa_nil
      (by rfl))
      (by rfl)))
      pa_nil
      (by rfl))
      (by rfl))
      (by rfl))
      (by rfl))))
      (by rfl)
      (by first | exact .inl rfl | exact .inr rfl | assumption))
      (@pss_cons _ _ _ _ _ (@ps_expr _ _ _ _ (pe_bm PySem.F.plainAttrs_list PySem.F.slot_list_append PySem.F.type_list_append mt_append (pv 4) (@pa_cons _ _ _ _ _ (@pe_tup _ _ _ _ _ (@pa_cons _ _ _ _ _ pe_str
      (@pa_cons _ _ _ _ _ (@pe_tup _ _ _ _ _ (@pa_cons _ _ _ _ _ pe_str
      (@pa_cons _ _ _ _ _ (pv 2)
      pa_nil
      (by rfl))
      (by rfl)))
      pa_nil
      (by rfl))
      (by rfl)))
      pa_nil
      (by rfl)))
      (by rfl))
      (@pss_cons _ _ _ _ _ (@ps_set _ _ (5) _ _ _ _ sc__law_none.nd
      rfl
      (Or.inl rfl)
      (@pe_ix _ _ _ _ _ _ _ (ix_listK (K := K) rfl)
      (pv 4)
      (@pe_op _ _ _ _ _ _ _ _ op_mod
      (pe_call G__law_next (hr.mono (by decide)) rfl T.g__law_next T.f__law_next.kp T.n__law_next .nil pass0 (@pa_cons _ _ _ _ _ (pv 1)
      pa_nil
      (by rfl)))
      (pe_callB (call_lenK (K := K) rfl) rfl T.b_len PyProof.Rows.Boot.«len» (@pa_cons _ _ _ _ _ (pv 4)
      pa_nil
      (by rfl))))
      (fun _ _ => rfl))
      (by rfl)
      (by first | exact .inl rfl | exact .inr rfl | assumption))
      (@pss_cons _ _ _ _ _ (@ps_if _ _ _ _ _ _ _ _ (@pt_cmpR _ _ _ _ _ _ _ _ op_eq
      (@pe_op _ _ _ _ _ _ _ _ op_mod
      (pe_call G__law_next (hr.mono (by decide)) rfl T.g__law_next T.f__law_next.kp T.n__law_next .nil pass0 (@pa_cons _ _ _ _ _ (pv 1)
      pa_nil
      (by rfl)))
      pe_int)
      pe_int
      (nomark _))
      (@pss_one _ _ _ (@ps_ret _ _ _ _ (@pe_ix _ _ _ _ _ _ _ (ix_listK (K := K) rfl)
      (@pe_lst _ _ _ _ (@pa_c _ _ _ _ _ (pv 3)
      (@pa_c _ _ _ _ _ (@pe_tup _ _ _ _ _ (@pa_c _ _ _ _ _ pe_str
      (@pa_c _ _ _ _ _ (pv 2)
      (@pa_c _ _ _ _ _ (pv 2)
      pa_nil
      (by rfl))
      (by rfl))
      (by rfl)))
      (@pa_c _ _ _ _ _ (@pe_tup _ _ _ _ _ (@pa_cons _ _ _ _ _ pe_str
      (@pa_cons _ _ _ _ _ (pv 2)
      pa_nil
      (by rfl))
      (by rfl)))
      (@pa_c _ _ _ _ _ (@pe_tup _ _ _ _ _ (@pa_cons _ _ _ _ _ pe_str
      (@pa_cons _ _ _ _ _ (pv 3)
      pa_nil
      (by rfl))
      (by rfl)))
      (@pa_c _ _ _ _ _ (@pe_tup _ _ _ _ _ (@pa_cons _ _ _ _ _ pe_str
      (@pa_cons _ _ _ _ _ (@pe_tup _ _ _ _ _ (@pa_cons _ _ _ _ _ (pv 2)
      (@pa_cons _ _ _ _ _ (pv 3)
      pa_nil
      (by rfl))
      (by rfl)))
      pa_nil
      (by rfl))
      (by rfl)))
      pa_nil
      (by rfl))
      (by rfl))
      (by rfl))
      (by rfl))
      (by rfl)))
      (@pe_op _ _ _ _ _ _ _ _ op_mod
      (pe_call G__law_next (hr.mono (by decide)) rfl T.g__law_next T.f__law_next.kp T.n__law_next .nil pass0 (@pa_cons _ _ _ _ _ (pv 1)
      pa_nil
      (by rfl)))
      pe_int)
      (fun _ _ => rfl))))
      pss_nil)
      (@pss_one _ _ _ (@ps_ret _ _ _ _ (@pe_tup _ _ _ _ _ (@pa_cons _ _ _ _ _ (@pe_ix _ _ _ _ _ _ _ (ix_listK (K := K) rfl)
      (@pe_lst _ _ _ _ (@pa_cons _ _ _ _ _ pe_str
      (@pa_cons _ _ _ _ _ pe_str
      pa_nil
      (by rfl))
      (by rfl)))
      (@pe_op _ _ _ _ _ _ _ _ op_mod
      (pe_call G__law_next (hr.mono (by decide)) rfl T.g__law_next T.f__law_next.kp T.n__law_next .nil pass0 (@pa_cons _ _ _ _ _ (pv 1)
      pa_nil
      (by rfl)))
      pe_int)
      (fun _ _ => rfl))
      (@pa_cons _ _ _ _ _ (pv 5)
      pa_nil
      (by rfl))
      (by rfl)))))))))))))), ?_⟩
    have sx : SameX p H H := SameX.refl _
    refine ⟨_, rfl, ?_⟩
    refine ⟨_, rfl, p, _, rfl, hp, fun H1 m1 ns1 y hpN => ?_⟩
    replace hnm := y _ _ nnp hnm
    replace sx := sx.trans y
    clear hp y
    have hp := hpN
    clear hpN
    obtain ⟨r1, er1, hr1⟩ := mod_nat m1 (m := 3) (by decide)
    have hz : isNameS (nn[r1]'(by omega)) = true := nnm _ (List.getElem_mem _)
    refine ⟨_, _, rfl, rfl, by decide, nm, _, _, .str (nn[r1]'(by omega)), rfl, rfl, SqL.of hnm, by rw [show (3 : Int) = ((3 : Nat) : Int) from rfl, er1]; exact at_str (by omega), ?_⟩
    generalize (nn[r1]'(by omega)) = z at hz
    refine ⟨by rw [sizeLine_eq]; exact (by decide : 2 ≤ 16777216), fun t2 ht => ?_⟩
    obtain ⟨H2, qN, u, e2⟩ := newE (o := .tup [(.str "sign"), (.str z)]) ht
    rw [qN]; clear qN
    replace hp := u _ _ hp
    replace hnm := u _ _ hnm
    replace sx := sx.trans (Same.x u)
    clear u ht
    replace e2 := SqT.of (K := K) e2
    refine ⟨_, rfl, ?_⟩
    refine ⟨by rw [sizeLine_eq]; exact (by decide : 2 ≤ 16777216), fun t3 ht => ?_⟩
    obtain ⟨H3, qN, u, e3⟩ := newE (o := .tup [(.str "next"), (.ref t2)]) ht
    rw [qN]; clear qN
    replace hp := u _ _ hp
    replace hnm := u _ _ hnm
    replace e2 := Same.tup u _ _ _ e2
    replace sx := sx.trans (Same.x u)
    clear u ht
    replace e3 := SqT.of (K := K) e3
    have gn : GN K "way" H3 [] := fun x hx => by cases hx
    refine ⟨_, rfl, ?_⟩
    replace gn : GN K "way" H3 [(.ref t2)] := GN.add gn (⟨(.node (.sign z) []), (at_sign e2 hz), by simp [post, postL], fun zz => absurd (((bk0 (.sign z)).trans (by decide +kernel : bkS (wordL (.sign "")) [] = "room")).symm.trans zz) (by decide +kernel)⟩)
    refine ⟨_, rfl, ?_⟩
    refine ⟨by rw [sizeLine_eq]; exact (by decide : 2 ≤ 16777216), fun t4 ht => ?_⟩
    obtain ⟨H4, qN, u, e4⟩ := newE (o := .tup [(.str "not"), (.ref t3)]) ht
    rw [qN]; clear qN
    replace hp := u _ _ hp
    replace hnm := u _ _ hnm
    replace e2 := Same.tup u _ _ _ e2
    replace e3 := Same.tup u _ _ _ e3
    replace gn := gn.mono (Same.tup u)
    replace sx := sx.trans (Same.x u)
    clear u ht
    replace e4 := SqT.of (K := K) e4
    replace gn : GN K "way" H4 [(.ref t2), (.ref t4)] := GN.add gn (⟨(.node (.op "not") [(.node (.op "next") [(.node (.sign z) [])])]), (at_op1 e4 (by decide +kernel) (at_op1 e3 (by decide +kernel) (at_sign e2 hz))), by simp [post, postL], fun zz => absurd (((bk1 (.op "not") ((bk1 (.op "next") ((bk0 (.sign z)).trans (by decide +kernel : bkS (wordL (.sign "")) [] = "room"))).trans (by decide +kernel : bkS (wordL (.op "next")) ["room"] = "way"))).trans (by decide +kernel : bkS (wordL (.op "not")) ["way"] = "neither")).symm.trans zz) (by decide +kernel)⟩)
    clear e4
    refine ⟨_, rfl, ?_⟩
    refine ⟨_, rfl, ?_⟩
    refine ⟨by rw [sizeLine_eq]; exact (by decide : 2 ≤ 16777216), fun t5 ht => ?_⟩
    obtain ⟨H5, qN, u, e5⟩ := newE (o := .tup [(.ref t3), (.ref t3)]) ht
    rw [qN]; clear qN
    replace hp := u _ _ hp
    replace hnm := u _ _ hnm
    replace e2 := Same.tup u _ _ _ e2
    replace e3 := Same.tup u _ _ _ e3
    replace gn := gn.mono (Same.tup u)
    replace sx := sx.trans (Same.x u)
    clear u ht
    replace e5 := SqT.of (K := K) e5
    refine ⟨by rw [sizeLine_eq]; exact (by decide : 2 ≤ 16777216), fun t6 ht => ?_⟩
    obtain ⟨H6, qN, u, e6⟩ := newE (o := .tup [(.str "and"), (.ref t5)]) ht
    rw [qN]; clear qN
    replace hp := u _ _ hp
    replace hnm := u _ _ hnm
    replace e2 := Same.tup u _ _ _ e2
    replace e3 := Same.tup u _ _ _ e3
    replace e5 := Same.tup u _ _ _ e5
    replace gn := gn.mono (Same.tup u)
    replace sx := sx.trans (Same.x u)
    clear u ht
    replace e6 := SqT.of (K := K) e6
    replace gn : GN K "way" H6 [(.ref t2), (.ref t4), (.ref t6)] := GN.add gn (⟨(.node (.many "and") [(.node (.op "next") [(.node (.sign z) [])]), (.node (.op "next") [(.node (.sign z) [])])]), (at_mny e6 e5 (AtL.two (at_op1 e3 (by decide +kernel) (at_sign e2 hz)) (at_op1 e3 (by decide +kernel) (at_sign e2 hz))) (by decide +kernel) (by simp)), by simp [post, postL], fun zz => absurd (((bk2 (.many "and") ((bk1 (.op "next") ((bk0 (.sign z)).trans (by decide +kernel : bkS (wordL (.sign "")) [] = "room"))).trans (by decide +kernel : bkS (wordL (.op "next")) ["room"] = "way")) ((bk1 (.op "next") ((bk0 (.sign z)).trans (by decide +kernel : bkS (wordL (.sign "")) [] = "room"))).trans (by decide +kernel : bkS (wordL (.op "next")) ["room"] = "way"))).trans (by decide +kernel : bkS (wordL (.many "and")) ["way", "way"] = "neither")).symm.trans zz) (by decide +kernel)⟩)
    clear e5
    clear e6
    refine ⟨_, rfl, ?_⟩
    refine ⟨by rw [sizeLine_eq]; exact (by decide : 1 ≤ 16777216), fun t7 ht => ?_⟩
    obtain ⟨H7, qN, u, e7⟩ := newE (o := .tup [(.ref t3)]) ht
    rw [qN]; clear qN
    replace hp := u _ _ hp
    replace hnm := u _ _ hnm
    replace e2 := Same.tup u _ _ _ e2
    replace e3 := Same.tup u _ _ _ e3
    replace gn := gn.mono (Same.tup u)
    replace sx := sx.trans (Same.x u)
    clear u ht
    replace e7 := SqT.of (K := K) e7
    refine ⟨by rw [sizeLine_eq]; exact (by decide : 2 ≤ 16777216), fun t8 ht => ?_⟩
    obtain ⟨H8, qN, u, e8⟩ := newE (o := .tup [(.str "or"), (.ref t7)]) ht
    rw [qN]; clear qN
    replace hp := u _ _ hp
    replace hnm := u _ _ hnm
    replace e2 := Same.tup u _ _ _ e2
    replace e3 := Same.tup u _ _ _ e3
    replace e7 := Same.tup u _ _ _ e7
    replace gn := gn.mono (Same.tup u)
    replace sx := sx.trans (Same.x u)
    clear u ht
    replace e8 := SqT.of (K := K) e8
    replace gn : GN K "way" H8 [(.ref t2), (.ref t4), (.ref t6), (.ref t8)] := GN.add gn (⟨(.node (.many "or") [(.node (.op "next") [(.node (.sign z) [])])]), (at_mny e8 e7 (AtL.one (at_op1 e3 (by decide +kernel) (at_sign e2 hz))) (by decide +kernel) (by simp)), by simp [post, postL], fun zz => absurd (((bk1 (.many "or") ((bk1 (.op "next") ((bk0 (.sign z)).trans (by decide +kernel : bkS (wordL (.sign "")) [] = "room"))).trans (by decide +kernel : bkS (wordL (.op "next")) ["room"] = "way"))).trans (by decide +kernel : bkS (wordL (.many "or")) ["way"] = "neither")).symm.trans zz) (by decide +kernel)⟩)
    clear e7
    clear e8
    refine ⟨_, rfl, ?_⟩
    refine ⟨by rw [sizeLine_eq]; exact (by decide : 2 ≤ 16777216), fun t9 ht => ?_⟩
    obtain ⟨H9, qN, u, e9⟩ := newE (o := .tup [(.str "next"), (.ref t3)]) ht
    rw [qN]; clear qN
    replace hp := u _ _ hp
    replace hnm := u _ _ hnm
    replace e2 := Same.tup u _ _ _ e2
    replace e3 := Same.tup u _ _ _ e3
    replace gn := gn.mono (Same.tup u)
    replace sx := sx.trans (Same.x u)
    clear u ht
    replace e9 := SqT.of (K := K) e9
    replace gn : GN K "way" H9 [(.ref t2), (.ref t4), (.ref t6), (.ref t8), (.ref t9)] := GN.add gn (⟨(.node (.op "next") [(.node (.op "next") [(.node (.sign z) [])])]), (at_op1 e9 (by decide +kernel) (at_op1 e3 (by decide +kernel) (at_sign e2 hz))), by simp [post, postL], fun zz => absurd (((bk1 (.op "next") ((bk1 (.op "next") ((bk0 (.sign z)).trans (by decide +kernel : bkS (wordL (.sign "")) [] = "room"))).trans (by decide +kernel : bkS (wordL (.op "next")) ["room"] = "way"))).trans (by decide +kernel : bkS (wordL (.op "next")) ["way"] = "neither")).symm.trans zz) (by decide +kernel)⟩)
    clear e9
    refine ⟨_, rfl, ?_⟩
    refine ⟨_, rfl, ?_⟩
    refine ⟨by rw [sizeLine_eq]; exact (by decide : 3 ≤ 16777216), fun t10 ht => ?_⟩
    obtain ⟨H10, qN, u, e10⟩ := newE (o := .tup [(.str "until"), (.ref t3), (.ref t2)]) ht
    rw [qN]; clear qN
    replace hp := u _ _ hp
    replace hnm := u _ _ hnm
    replace e2 := Same.tup u _ _ _ e2
    replace e3 := Same.tup u _ _ _ e3
    replace gn := gn.mono (Same.tup u)
    replace sx := sx.trans (Same.x u)
    clear u ht
    replace e10 := SqT.of (K := K) e10
    replace gn : GN K "way" H10 [(.ref t2), (.ref t4), (.ref t6), (.ref t8), (.ref t9), (.ref t10)] := GN.add gn (⟨(.node (.op "until") [(.node (.op "next") [(.node (.sign z) [])]), (.node (.sign z) [])]), (at_op2 e10 (by decide +kernel) (at_op1 e3 (by decide +kernel) (at_sign e2 hz)) (at_sign e2 hz)), by simp [post, postL], fun zz => absurd (((bk2 (.op "until") ((bk1 (.op "next") ((bk0 (.sign z)).trans (by decide +kernel : bkS (wordL (.sign "")) [] = "room"))).trans (by decide +kernel : bkS (wordL (.op "next")) ["room"] = "way")) ((bk0 (.sign z)).trans (by decide +kernel : bkS (wordL (.sign "")) [] = "room"))).trans (by decide +kernel : bkS (wordL (.op "until")) ["way", "room"] = "neither")).symm.trans zz) (by decide +kernel)⟩)
    clear e10
    have gl : GN K "way" H10 [(.ref t2), (.ref t4), (.ref t6), (.ref t8), (.ref t9), (.ref t10)] := gn
    have xl : ([(.ref t2), (.ref t4), (.ref t6), (.ref t8), (.ref t9), (.ref t10)] : List V).length = 6 := rfl
    clear gn
    refine ⟨by rw [sizeLine_eq]; exact (by decide : 6 ≤ 16777216), fun lA ht => ?_⟩
    generalize ([(.ref t2), (.ref t4), (.ref t6), (.ref t8), (.ref t9), (.ref t10)] : List V) = xs0 at gl xl ⊢
    obtain ⟨HA, qN, u, eA⟩ := newE (o := .lst xs0) ht
    rw [qN]; clear qN
    have neA : lA ≠ p := fun z => by rw [z, hp] at ht; cases ht
    have lnmA : lA ≠ nm := fun z => by rw [z, hnm] at ht; cases ht
    have l0A : H lA = none := sx.free neA ht
    replace hp := u _ _ hp
    replace hnm := u _ _ hnm
    replace e2 := Same.tup u _ _ _ e2
    replace e3 := Same.tup u _ _ _ e3
    replace gl := gl.mono (Same.tup u)
    replace sx := sx.trans (Same.x u)
    clear u ht
    refine ⟨_, rfl, .inl ⟨rfl, _, SqL.of eA⟩, ?_⟩
    refine ⟨_, rfl, ?_⟩
    refine ⟨by rw [sizeLine_eq]; exact (by decide : 2 ≤ 16777216), fun t11 ht => ?_⟩
    obtain ⟨H11, qN, u, e11⟩ := newE (o := .tup [(.str "not"), (.ref t3)]) ht
    rw [qN]; clear qN
    replace hp := u _ _ hp
    replace hnm := u _ _ hnm
    replace eA := u _ _ eA
    replace e2 := Same.tup u _ _ _ e2
    replace e3 := Same.tup u _ _ _ e3
    replace gl := gl.mono (Same.tup u)
    replace sx := sx.trans (Same.x u)
    clear u ht
    replace e11 := SqT.of (K := K) e11
    refine ⟨by rw [sizeLine_eq]; exact (by decide : 2 ≤ 16777216), fun t12 ht => ?_⟩
    obtain ⟨H12, qN, u, e12⟩ := newE (o := .tup [(.str "always"), (.ref t11)]) ht
    rw [qN]; clear qN
    replace hp := u _ _ hp
    replace hnm := u _ _ hnm
    replace eA := u _ _ eA
    replace e2 := Same.tup u _ _ _ e2
    replace e3 := Same.tup u _ _ _ e3
    replace e11 := Same.tup u _ _ _ e11
    replace gl := gl.mono (Same.tup u)
    replace sx := sx.trans (Same.x u)
    clear u ht
    replace e12 := SqT.of (K := K) e12
    replace gl := GN.add gl (⟨(.node (.op "always") [(.node (.op "not") [(.node (.op "next") [(.node (.sign z) [])])])]), (at_op1 e12 (by decide +kernel) (at_op1 e11 (by decide +kernel) (at_op1 e3 (by decide +kernel) (at_sign e2 hz)))), by simp [post, postL], fun zz => absurd (((bk1 (.op "always") ((bk1 (.op "not") ((bk1 (.op "next") ((bk0 (.sign z)).trans (by decide +kernel : bkS (wordL (.sign "")) [] = "room"))).trans (by decide +kernel : bkS (wordL (.op "next")) ["room"] = "way"))).trans (by decide +kernel : bkS (wordL (.op "not")) ["way"] = "neither"))).trans (by decide +kernel : bkS (wordL (.op "always")) ["neither"] = "neither")).symm.trans zz) (by decide +kernel)⟩)
    clear e11
    clear e12
    have yl : (xs0 ++ [(V.ref t12)]).length = 7 := by rw [List.length_append, xl]; rfl
    refine ⟨lA, _, _, rfl, rfl, eA, by rw [sizeLine_eq, xl]; decide, ?_⟩
    generalize xs0 ++ [(V.ref t12)] = ys1 at gl yl ⊢
    obtain ⟨HQ1, hQ⟩ : ∃ G, upd H12 lA (.lst ys1) = G := ⟨_, rfl⟩
    have tS : SameT H12 HQ1 := by rw [← hQ]; exact upd_tupL eA
    replace e2 := tS _ _ _ e2
    replace e3 := tS _ _ _ e3
    replace gl := gl.mono tS
    have xS : SameX lA H12 HQ1 := by rw [← hQ]; exact (SameX.refl _).upd
    replace hp := xS _ _ (Ne.symm neA) hp
    replace hnm := xS _ _ (Ne.symm (lnmA)) hnm
    replace sx : SameX p H HQ1 := sameX_step sx xS l0A
    have eQ : HQ1 lA = some (.lst ys1) := by rw [← hQ]; exact upd_same
    rw [hQ]
    clear eA tS xS hQ xl
    have eA := eQ
    have xl := yl
    clear eQ yl
    refine ⟨_, rfl, ?_⟩
    have gn : GN K "way" HQ1 [] := fun x hx => by cases hx
    refine ⟨_, rfl, ?_⟩
    refine ⟨by rw [sizeLine_eq]; exact (by decide : 2 ≤ 16777216), fun t13 ht => ?_⟩
    obtain ⟨H13, qN, u, e13⟩ := newE (o := .tup [(.str "before"), (.ref t2)]) ht
    rw [qN]; clear qN
    replace hp := u _ _ hp
    replace hnm := u _ _ hnm
    replace eA := u _ _ eA
    replace e2 := Same.tup u _ _ _ e2
    replace e3 := Same.tup u _ _ _ e3
    replace gl := gl.mono (Same.tup u)
    replace gn := gn.mono (Same.tup u)
    replace sx := sx.trans (Same.x u)
    clear u ht
    replace e13 := SqT.of (K := K) e13
    replace gn : GN K "way" H13 [(.ref t13)] := GN.add gn (⟨(.node (.op "before") [(.node (.sign z) [])]), (at_op1 e13 (by decide +kernel) (at_sign e2 hz)), by simp [post, postL], fun zz => absurd (((bk1 (.op "before") ((bk0 (.sign z)).trans (by decide +kernel : bkS (wordL (.sign "")) [] = "room"))).trans (by decide +kernel : bkS (wordL (.op "before")) ["room"] = "neither")).symm.trans zz) (by decide +kernel)⟩)
    clear e13
    refine ⟨_, rfl, ?_⟩
    refine ⟨_, rfl, ?_⟩
    refine ⟨by rw [sizeLine_eq]; exact (by decide : 3 ≤ 16777216), fun t14 ht => ?_⟩
    obtain ⟨H14, qN, u, e14⟩ := newE (o := .tup [(.str "since"), (.ref t2), (.ref t2)]) ht
    rw [qN]; clear qN
    replace hp := u _ _ hp
    replace hnm := u _ _ hnm
    replace eA := u _ _ eA
    replace e2 := Same.tup u _ _ _ e2
    replace e3 := Same.tup u _ _ _ e3
    replace gl := gl.mono (Same.tup u)
    replace gn := gn.mono (Same.tup u)
    replace sx := sx.trans (Same.x u)
    clear u ht
    replace e14 := SqT.of (K := K) e14
    replace gn : GN K "way" H14 [(.ref t13), (.ref t14)] := GN.add gn (⟨(.node (.op "since") [(.node (.sign z) []), (.node (.sign z) [])]), (at_op2 e14 (by decide +kernel) (at_sign e2 hz) (at_sign e2 hz)), by simp [post, postL], fun zz => absurd (((bk2 (.op "since") ((bk0 (.sign z)).trans (by decide +kernel : bkS (wordL (.sign "")) [] = "room")) ((bk0 (.sign z)).trans (by decide +kernel : bkS (wordL (.sign "")) [] = "room"))).trans (by decide +kernel : bkS (wordL (.op "since")) ["room", "room"] = "neither")).symm.trans zz) (by decide +kernel)⟩)
    clear e14
    refine ⟨_, rfl, ?_⟩
    refine ⟨by rw [sizeLine_eq]; exact (by decide : 2 ≤ 16777216), fun t15 ht => ?_⟩
    obtain ⟨H15, qN, u, e15⟩ := newE (o := .tup [(.str "once"), (.ref t2)]) ht
    rw [qN]; clear qN
    replace hp := u _ _ hp
    replace hnm := u _ _ hnm
    replace eA := u _ _ eA
    replace e2 := Same.tup u _ _ _ e2
    replace e3 := Same.tup u _ _ _ e3
    replace gl := gl.mono (Same.tup u)
    replace gn := gn.mono (Same.tup u)
    replace sx := sx.trans (Same.x u)
    clear u ht
    replace e15 := SqT.of (K := K) e15
    replace gn : GN K "way" H15 [(.ref t13), (.ref t14), (.ref t15)] := GN.add gn (⟨(.node (.op "once") [(.node (.sign z) [])]), (at_op1 e15 (by decide +kernel) (at_sign e2 hz)), by simp [post, postL], fun zz => absurd (((bk1 (.op "once") ((bk0 (.sign z)).trans (by decide +kernel : bkS (wordL (.sign "")) [] = "room"))).trans (by decide +kernel : bkS (wordL (.op "once")) ["room"] = "neither")).symm.trans zz) (by decide +kernel)⟩)
    clear e15
    refine ⟨_, rfl, ?_⟩
    refine ⟨by rw [sizeLine_eq]; exact (by decide : 2 ≤ 16777216), fun t16 ht => ?_⟩
    obtain ⟨H16, qN, u, e16⟩ := newE (o := .tup [(.str "sofar"), (.ref t2)]) ht
    rw [qN]; clear qN
    replace hp := u _ _ hp
    replace hnm := u _ _ hnm
    replace eA := u _ _ eA
    replace e2 := Same.tup u _ _ _ e2
    replace e3 := Same.tup u _ _ _ e3
    replace gl := gl.mono (Same.tup u)
    replace gn := gn.mono (Same.tup u)
    replace sx := sx.trans (Same.x u)
    clear u ht
    replace e16 := SqT.of (K := K) e16
    replace gn : GN K "way" H16 [(.ref t13), (.ref t14), (.ref t15), (.ref t16)] := GN.add gn (⟨(.node (.op "sofar") [(.node (.sign z) [])]), (at_op1 e16 (by decide +kernel) (at_sign e2 hz)), by simp [post, postL], fun zz => absurd (((bk1 (.op "sofar") ((bk0 (.sign z)).trans (by decide +kernel : bkS (wordL (.sign "")) [] = "room"))).trans (by decide +kernel : bkS (wordL (.op "sofar")) ["room"] = "neither")).symm.trans zz) (by decide +kernel)⟩)
    clear e16
    refine ⟨_, rfl, ?_⟩
    refine ⟨by rw [sizeLine_eq]; exact (by decide : 2 ≤ 16777216), fun t17 ht => ?_⟩
    obtain ⟨H17, qN, u, e17⟩ := newE (o := .tup [(.str "ever"), (.ref t2)]) ht
    rw [qN]; clear qN
    replace hp := u _ _ hp
    replace hnm := u _ _ hnm
    replace eA := u _ _ eA
    replace e2 := Same.tup u _ _ _ e2
    replace e3 := Same.tup u _ _ _ e3
    replace gl := gl.mono (Same.tup u)
    replace gn := gn.mono (Same.tup u)
    replace sx := sx.trans (Same.x u)
    clear u ht
    replace e17 := SqT.of (K := K) e17
    refine ⟨by rw [sizeLine_eq]; exact (by decide : 2 ≤ 16777216), fun t18 ht => ?_⟩
    obtain ⟨H18, qN, u, e18⟩ := newE (o := .tup [(.str "ever"), (.ref t17)]) ht
    rw [qN]; clear qN
    replace hp := u _ _ hp
    replace hnm := u _ _ hnm
    replace eA := u _ _ eA
    replace e2 := Same.tup u _ _ _ e2
    replace e3 := Same.tup u _ _ _ e3
    replace e17 := Same.tup u _ _ _ e17
    replace gl := gl.mono (Same.tup u)
    replace gn := gn.mono (Same.tup u)
    replace sx := sx.trans (Same.x u)
    clear u ht
    replace e18 := SqT.of (K := K) e18
    replace gn : GN K "way" H18 [(.ref t13), (.ref t14), (.ref t15), (.ref t16), (.ref t18)] := GN.add gn (⟨(.node (.op "ever") [(.node (.op "ever") [(.node (.sign z) [])])]), (at_op1 e18 (by decide +kernel) (at_op1 e17 (by decide +kernel) (at_sign e2 hz))), by simp [post, postL], fun zz => absurd (((bk1 (.op "ever") ((bk1 (.op "ever") ((bk0 (.sign z)).trans (by decide +kernel : bkS (wordL (.sign "")) [] = "room"))).trans (by decide +kernel : bkS (wordL (.op "ever")) ["room"] = "way"))).trans (by decide +kernel : bkS (wordL (.op "ever")) ["way"] = "neither")).symm.trans zz) (by decide +kernel)⟩)
    clear e17
    clear e18
    have dl : ([(.ref t13), (.ref t14), (.ref t15), (.ref t16), (.ref t18)] : List V).length = 5 := rfl
    refine ⟨by rw [sizeLine_eq]; exact (by decide : 5 ≤ 16777216), fun lD ht => ?_⟩
    generalize ([(.ref t13), (.ref t14), (.ref t15), (.ref t16), (.ref t18)] : List V) = ds at gn dl ⊢
    obtain ⟨HD2, qN, u, eD⟩ := newE (o := .lst ds) ht
    rw [qN]; clear qN
    replace hp := u _ _ hp
    replace hnm := u _ _ hnm
    replace eA := u _ _ eA
    replace e2 := Same.tup u _ _ _ e2
    replace e3 := Same.tup u _ _ _ e3
    replace gl := gl.mono (Same.tup u)
    replace gn := gn.mono (Same.tup u)
    replace sx := sx.trans (Same.x u)
    clear u ht
    refine ⟨lA, lD, _, _, rfl, rfl, eA, eD, by rw [sizeLine_eq, xl, dl]; decide, fun lB2 ht => ?_⟩
    replace gl := gl.app gn
    have yl : (ys1 ++ ds).length = 12 := by rw [List.length_append, xl, dl]
    clear gn
    generalize ys1 ++ ds = zs2 at gl yl ⊢
    obtain ⟨HB2, qN, u, eB2⟩ := newE (o := .lst zs2) ht
    rw [qN]; clear qN
    have neB2 : lB2 ≠ p := fun z => by rw [z, hp] at ht; cases ht
    have lnmB2 : lB2 ≠ nm := fun z => by rw [z, hnm] at ht; cases ht
    have l0B2 : H lB2 = none := sx.free neB2 ht
    replace hp := u _ _ hp
    replace hnm := u _ _ hnm
    replace eA := u _ _ eA
    replace e2 := Same.tup u _ _ _ e2
    replace e3 := Same.tup u _ _ _ e3
    replace gl := gl.mono (Same.tup u)
    replace sx := sx.trans (Same.x u)
    clear u ht eA eD xl dl
    have xl := yl
    clear yl
    refine ⟨_, rfl, ?_⟩
    have gn : GN K "way" HB2 [] := fun x hx => by cases hx
    refine ⟨_, rfl, ?_⟩
    refine ⟨_, rfl, ?_⟩
    refine ⟨by rw [sizeLine_eq]; exact (by decide : 4 ≤ 16777216), fun t19 ht => ?_⟩
    obtain ⟨H19, qN, u, e19⟩ := newE (o := .tup [(.str "within"), (.int 2), (.ref t3), (.ref t2)]) ht
    rw [qN]; clear qN
    replace hp := u _ _ hp
    replace hnm := u _ _ hnm
    replace eB2 := u _ _ eB2
    replace e2 := Same.tup u _ _ _ e2
    replace e3 := Same.tup u _ _ _ e3
    replace gl := gl.mono (Same.tup u)
    replace gn := gn.mono (Same.tup u)
    replace sx := sx.trans (Same.x u)
    clear u ht
    replace e19 := SqT.of (K := K) e19
    replace gn : GN K "way" H19 [(.ref t19)] := GN.add gn (⟨(.node (.wit 2) [(.node (.op "next") [(.node (.sign z) [])]), (.node (.sign z) [])]), (at_wit e19 (by decide) (at_op1 e3 (by decide +kernel) (at_sign e2 hz)) (at_sign e2 hz)), by simp [post, postL], fun zz => absurd (((bk2 (.wit 2) ((bk1 (.op "next") ((bk0 (.sign z)).trans (by decide +kernel : bkS (wordL (.sign "")) [] = "room"))).trans (by decide +kernel : bkS (wordL (.op "next")) ["room"] = "way")) ((bk0 (.sign z)).trans (by decide +kernel : bkS (wordL (.sign "")) [] = "room"))).trans (by decide +kernel : bkS (wordL (.wit 2)) ["way", "room"] = "neither")).symm.trans zz) (by decide +kernel)⟩)
    clear e19
    refine ⟨_, rfl, ?_⟩
    refine ⟨_, rfl, ?_⟩
    refine ⟨by rw [sizeLine_eq]; exact (by decide : 4 ≤ 16777216), fun t20 ht => ?_⟩
    obtain ⟨H20, qN, u, e20⟩ := newE (o := .tup [(.str "within"), (.int 0), (.ref t2), (.ref t3)]) ht
    rw [qN]; clear qN
    replace hp := u _ _ hp
    replace hnm := u _ _ hnm
    replace eB2 := u _ _ eB2
    replace e2 := Same.tup u _ _ _ e2
    replace e3 := Same.tup u _ _ _ e3
    replace gl := gl.mono (Same.tup u)
    replace gn := gn.mono (Same.tup u)
    replace sx := sx.trans (Same.x u)
    clear u ht
    replace e20 := SqT.of (K := K) e20
    replace gn : GN K "way" H20 [(.ref t19), (.ref t20)] := GN.add gn (⟨(.node (.wit 0) [(.node (.sign z) []), (.node (.op "next") [(.node (.sign z) [])])]), (at_wit e20 (by decide) (at_sign e2 hz) (at_op1 e3 (by decide +kernel) (at_sign e2 hz))), by simp [post, postL], fun zz => absurd (((bk2 (.wit 0) ((bk0 (.sign z)).trans (by decide +kernel : bkS (wordL (.sign "")) [] = "room")) ((bk1 (.op "next") ((bk0 (.sign z)).trans (by decide +kernel : bkS (wordL (.sign "")) [] = "room"))).trans (by decide +kernel : bkS (wordL (.op "next")) ["room"] = "way"))).trans (by decide +kernel : bkS (wordL (.wit 0)) ["room", "way"] = "neither")).symm.trans zz) (by decide +kernel)⟩)
    clear e20
    refine ⟨_, rfl, ?_⟩
    refine ⟨by rw [sizeLine_eq]; exact (by decide : 2 ≤ 16777216), fun t21 ht => ?_⟩
    obtain ⟨H21, qN, u, e21⟩ := newE (o := .tup [(.str "all"), (.ref t3)]) ht
    rw [qN]; clear qN
    replace hp := u _ _ hp
    replace hnm := u _ _ hnm
    replace eB2 := u _ _ eB2
    replace e2 := Same.tup u _ _ _ e2
    replace e3 := Same.tup u _ _ _ e3
    replace gl := gl.mono (Same.tup u)
    replace gn := gn.mono (Same.tup u)
    replace sx := sx.trans (Same.x u)
    clear u ht
    replace e21 := SqT.of (K := K) e21
    replace gn : GN K "way" H21 [(.ref t19), (.ref t20), (.ref t21)] := GN.add gn (⟨(.node (.op "all") [(.node (.op "next") [(.node (.sign z) [])])]), (at_op1 e21 (by decide +kernel) (at_op1 e3 (by decide +kernel) (at_sign e2 hz))), by simp [post, postL], fun zz => absurd (((bk1 (.op "all") ((bk1 (.op "next") ((bk0 (.sign z)).trans (by decide +kernel : bkS (wordL (.sign "")) [] = "room"))).trans (by decide +kernel : bkS (wordL (.op "next")) ["room"] = "way"))).trans (by decide +kernel : bkS (wordL (.op "all")) ["way"] = "room")).symm.trans zz) (by decide +kernel)⟩)
    clear e21
    refine ⟨by rw [sizeLine_eq]; exact (by decide : 0 ≤ 16777216), fun t22 ht => ?_⟩
    obtain ⟨H22, qN, u, e22⟩ := newE (o := .tup []) ht
    rw [qN]; clear qN
    replace hp := u _ _ hp
    replace hnm := u _ _ hnm
    replace eB2 := u _ _ eB2
    replace e2 := Same.tup u _ _ _ e2
    replace e3 := Same.tup u _ _ _ e3
    replace gl := gl.mono (Same.tup u)
    replace gn := gn.mono (Same.tup u)
    replace sx := sx.trans (Same.x u)
    clear u ht
    replace e22 := SqT.of (K := K) e22
    refine ⟨by rw [sizeLine_eq]; exact (by decide : 2 ≤ 16777216), fun t23 ht => ?_⟩
    obtain ⟨H23, qN, u, e23⟩ := newE (o := .tup [(.str "and"), (.ref t22)]) ht
    rw [qN]; clear qN
    replace hp := u _ _ hp
    replace hnm := u _ _ hnm
    replace eB2 := u _ _ eB2
    replace e2 := Same.tup u _ _ _ e2
    replace e3 := Same.tup u _ _ _ e3
    replace e22 := Same.tup u _ _ _ e22
    replace gl := gl.mono (Same.tup u)
    replace gn := gn.mono (Same.tup u)
    replace sx := sx.trans (Same.x u)
    clear u ht
    replace e23 := SqT.of (K := K) e23
    replace gn : GN K "way" H23 [(.ref t19), (.ref t20), (.ref t21), (.ref t23)] := GN.add gn (⟨(.node (.many "and") []), (at_mny e23 e22 AtL.nil (by decide +kernel) (by simp)), by simp [post, postL], fun zz => absurd (((bk0 (.many "and") ).trans (by decide +kernel : bkS (wordL (.many "and")) [] = "room")).symm.trans zz) (by decide +kernel)⟩)
    clear e22
    clear e23
    have dl : ([(.ref t19), (.ref t20), (.ref t21), (.ref t23)] : List V).length = 4 := rfl
    refine ⟨by rw [sizeLine_eq]; exact (by decide : 4 ≤ 16777216), fun lD ht => ?_⟩
    generalize ([(.ref t19), (.ref t20), (.ref t21), (.ref t23)] : List V) = ds at gn dl ⊢
    obtain ⟨HD3, qN, u, eD⟩ := newE (o := .lst ds) ht
    rw [qN]; clear qN
    replace hp := u _ _ hp
    replace hnm := u _ _ hnm
    replace eB2 := u _ _ eB2
    replace e2 := Same.tup u _ _ _ e2
    replace e3 := Same.tup u _ _ _ e3
    replace gl := gl.mono (Same.tup u)
    replace gn := gn.mono (Same.tup u)
    replace sx := sx.trans (Same.x u)
    clear u ht
    refine ⟨lB2, lD, _, _, rfl, rfl, eB2, eD, by rw [sizeLine_eq, xl, dl]; decide, fun lB3 ht => ?_⟩
    replace gl := gl.app gn
    have yl : (zs2 ++ ds).length = 16 := by rw [List.length_append, xl, dl]
    clear gn
    generalize zs2 ++ ds = zs3 at gl yl ⊢
    obtain ⟨HB3, qN, u, eB3⟩ := newE (o := .lst zs3) ht
    rw [qN]; clear qN
    have neB3 : lB3 ≠ p := fun z => by rw [z, hp] at ht; cases ht
    have lnmB3 : lB3 ≠ nm := fun z => by rw [z, hnm] at ht; cases ht
    have l0B3 : H lB3 = none := sx.free neB3 ht
    replace hp := u _ _ hp
    replace hnm := u _ _ hnm
    replace eB2 := u _ _ eB2
    replace e2 := Same.tup u _ _ _ e2
    replace e3 := Same.tup u _ _ _ e3
    replace gl := gl.mono (Same.tup u)
    replace sx := sx.trans (Same.x u)
    clear u ht eB2 eD xl dl
    have xl := yl
    clear yl
    refine ⟨_, rfl, .inl ⟨rfl, _, SqL.of eB3⟩, ?_⟩
    refine ⟨_, rfl, ?_⟩
    refine ⟨by rw [sizeLine_eq]; exact (by decide : 2 ≤ 16777216), fun t24 ht => ?_⟩
    obtain ⟨H24, qN, u, e24⟩ := newE (o := .tup [(.str "once"), (.ref t2)]) ht
    rw [qN]; clear qN
    replace hp := u _ _ hp
    replace hnm := u _ _ hnm
    replace eB3 := u _ _ eB3
    replace e2 := Same.tup u _ _ _ e2
    replace e3 := Same.tup u _ _ _ e3
    replace gl := gl.mono (Same.tup u)
    replace sx := sx.trans (Same.x u)
    clear u ht
    replace e24 := SqT.of (K := K) e24
    refine ⟨by rw [sizeLine_eq]; exact (by decide : 2 ≤ 16777216), fun t25 ht => ?_⟩
    obtain ⟨H25, qN, u, e25⟩ := newE (o := .tup [(.str "next"), (.ref t24)]) ht
    rw [qN]; clear qN
    replace hp := u _ _ hp
    replace hnm := u _ _ hnm
    replace eB3 := u _ _ eB3
    replace e2 := Same.tup u _ _ _ e2
    replace e3 := Same.tup u _ _ _ e3
    replace e24 := Same.tup u _ _ _ e24
    replace gl := gl.mono (Same.tup u)
    replace sx := sx.trans (Same.x u)
    clear u ht
    replace e25 := SqT.of (K := K) e25
    replace gl := GN.add gl (⟨(.node (.op "next") [(.node (.op "once") [(.node (.sign z) [])])]), (at_op1 e25 (by decide +kernel) (at_op1 e24 (by decide +kernel) (at_sign e2 hz))), by simp [post, postL], fun zz => absurd (((bk1 (.op "next") ((bk1 (.op "once") ((bk0 (.sign z)).trans (by decide +kernel : bkS (wordL (.sign "")) [] = "room"))).trans (by decide +kernel : bkS (wordL (.op "once")) ["room"] = "neither"))).trans (by decide +kernel : bkS (wordL (.op "next")) ["neither"] = "neither")).symm.trans zz) (by decide +kernel)⟩)
    clear e24
    clear e25
    have yl : (zs3 ++ [(V.ref t25)]).length = 17 := by rw [List.length_append, xl]; rfl
    refine ⟨lB3, _, _, rfl, rfl, eB3, by rw [sizeLine_eq, xl]; decide, ?_⟩
    generalize zs3 ++ [(V.ref t25)] = ys4 at gl yl ⊢
    obtain ⟨HQ4, hQ⟩ : ∃ G, upd H25 lB3 (.lst ys4) = G := ⟨_, rfl⟩
    have tS : SameT H25 HQ4 := by rw [← hQ]; exact upd_tupL eB3
    replace e2 := tS _ _ _ e2
    replace e3 := tS _ _ _ e3
    replace gl := gl.mono tS
    have xS : SameX lB3 H25 HQ4 := by rw [← hQ]; exact (SameX.refl _).upd
    replace hp := xS _ _ (Ne.symm neB3) hp
    replace hnm := xS _ _ (Ne.symm (lnmB3)) hnm
    replace sx : SameX p H HQ4 := sameX_step sx xS l0B3
    have eQ : HQ4 lB3 = some (.lst ys4) := by rw [← hQ]; exact upd_same
    rw [hQ]
    clear eB3 tS xS hQ xl
    have eB3 := eQ
    have xl := yl
    clear eQ yl
    refine ⟨_, rfl, ?_⟩
    refine ⟨_, rfl, p, _, rfl, hp, fun HP mP nsP y hpN => ?_⟩
    replace e2 := SameX.tup y hp _ _ _ e2
    replace e3 := SameX.tup y hp _ _ _ e3
    replace gl := gl.mono (SameX.tup y hp)
    replace eB3 := y _ _ neB3 eB3
    replace hnm := y _ _ nnp hnm
    replace sx := sx.trans y
    clear hp y
    have hp := hpN
    clear hpN
    refine ⟨_, rfl, .inl ⟨lB3, _, rfl, .inl (SqL.of eB3), ?_⟩⟩
    rw [xl]
    obtain ⟨u1, hu1, hm1⟩ := at_len xl (by decide) mP
    refine ⟨_, _, rfl, rfl, by decide, lB3, _, _, u1, rfl, rfl, SqL.of eB3, hu1, ?_⟩
    obtain ⟨tp, atp, szp, bkp⟩ := gl u1 hm1
    clear gl hm1 hu1 xl eB3
    have bkp : bkT tp ≠ "way" := bkp
    refine ⟨_, rfl, p, _, rfl, hp, fun HR mR nsR y hpN => ⟨_, _, rfl, rfl, by decide, rfl, _, rfl, ite2 (fun _ => ?_) (fun _ => ?_)⟩⟩
    all_goals
      replace e2 := SameX.tup y hp _ _ _ e2
      replace e3 := SameX.tup y hp _ _ _ e3
      replace atp := atp.mono (SameX.tup y hp)
      replace hnm := y _ _ nnp hnm
      replace sx := sx.trans y
      clear hp y
      have hp := hpN
      clear hpN
    · have gn : GN K "room" HR [] := fun x hx => by cases hx
      refine ⟨_, rfl, ?_⟩
      replace gn : GN K "room" HR [(.ref t3)] := GN.add gn (⟨(.node (.op "next") [(.node (.sign z) [])]), (at_op1 e3 (by decide +kernel) (at_sign e2 hz)), by simp [post, postL], fun zz => absurd (((bk1 (.op "next") ((bk0 (.sign z)).trans (by decide +kernel : bkS (wordL (.sign "")) [] = "room"))).trans (by decide +kernel : bkS (wordL (.op "next")) ["room"] = "way")).symm.trans zz) (by decide +kernel)⟩)
      refine ⟨_, rfl, ?_⟩
      refine ⟨_, rfl, ?_⟩
      refine ⟨by rw [sizeLine_eq]; exact (by decide : 3 ≤ 16777216), fun t27 ht => ?_⟩
      obtain ⟨H27, qN, u, e27⟩ := newE (o := .tup [(.str "until"), (.ref t2), (.ref t2)]) ht
      rw [qN]; clear qN
      replace hp := u _ _ hp
      replace hnm := u _ _ hnm
      replace e2 := Same.tup u _ _ _ e2
      replace e3 := Same.tup u _ _ _ e3
      replace gn := gn.mono (Same.tup u)
      replace sx := sx.trans (Same.x u)
      clear u ht
      replace e27 := SqT.of (K := K) e27
      replace gn : GN K "room" H27 [(.ref t3), (.ref t27)] := GN.add gn (⟨(.node (.op "until") [(.node (.sign z) []), (.node (.sign z) [])]), (at_op2 e27 (by decide +kernel) (at_sign e2 hz) (at_sign e2 hz)), by simp [post, postL], fun zz => absurd (((bk2 (.op "until") ((bk0 (.sign z)).trans (by decide +kernel : bkS (wordL (.sign "")) [] = "room")) ((bk0 (.sign z)).trans (by decide +kernel : bkS (wordL (.sign "")) [] = "room"))).trans (by decide +kernel : bkS (wordL (.op "until")) ["room", "room"] = "way")).symm.trans zz) (by decide +kernel)⟩)
      clear e27
      refine ⟨_, rfl, ?_⟩
      refine ⟨by rw [sizeLine_eq]; exact (by decide : 2 ≤ 16777216), fun t28 ht => ?_⟩
      obtain ⟨H28, qN, u, e28⟩ := newE (o := .tup [(.str "ever"), (.ref t2)]) ht
      rw [qN]; clear qN
      replace hp := u _ _ hp
      replace hnm := u _ _ hnm
      replace e2 := Same.tup u _ _ _ e2
      replace e3 := Same.tup u _ _ _ e3
      replace gn := gn.mono (Same.tup u)
      replace sx := sx.trans (Same.x u)
      clear u ht
      replace e28 := SqT.of (K := K) e28
      replace gn : GN K "room" H28 [(.ref t3), (.ref t27), (.ref t28)] := GN.add gn (⟨(.node (.op "ever") [(.node (.sign z) [])]), (at_op1 e28 (by decide +kernel) (at_sign e2 hz)), by simp [post, postL], fun zz => absurd (((bk1 (.op "ever") ((bk0 (.sign z)).trans (by decide +kernel : bkS (wordL (.sign "")) [] = "room"))).trans (by decide +kernel : bkS (wordL (.op "ever")) ["room"] = "way")).symm.trans zz) (by decide +kernel)⟩)
      clear e28
      refine ⟨_, rfl, ?_⟩
      refine ⟨by rw [sizeLine_eq]; exact (by decide : 2 ≤ 16777216), fun t29 ht => ?_⟩
      obtain ⟨H29, qN, u, e29⟩ := newE (o := .tup [(.str "not"), (.ref t3)]) ht
      rw [qN]; clear qN
      replace hp := u _ _ hp
      replace hnm := u _ _ hnm
      replace e2 := Same.tup u _ _ _ e2
      replace e3 := Same.tup u _ _ _ e3
      replace gn := gn.mono (Same.tup u)
      replace sx := sx.trans (Same.x u)
      clear u ht
      replace e29 := SqT.of (K := K) e29
      replace gn : GN K "room" H29 [(.ref t3), (.ref t27), (.ref t28), (.ref t29)] := GN.add gn (⟨(.node (.op "not") [(.node (.op "next") [(.node (.sign z) [])])]), (at_op1 e29 (by decide +kernel) (at_op1 e3 (by decide +kernel) (at_sign e2 hz))), by simp [post, postL], fun zz => absurd (((bk1 (.op "not") ((bk1 (.op "next") ((bk0 (.sign z)).trans (by decide +kernel : bkS (wordL (.sign "")) [] = "room"))).trans (by decide +kernel : bkS (wordL (.op "next")) ["room"] = "way"))).trans (by decide +kernel : bkS (wordL (.op "not")) ["way"] = "neither")).symm.trans zz) (by decide +kernel)⟩)
      clear e29
      refine ⟨_, rfl, ?_⟩
      refine ⟨_, rfl, ?_⟩
      refine ⟨by rw [sizeLine_eq]; exact (by decide : 2 ≤ 16777216), fun t30 ht => ?_⟩
      obtain ⟨H30, qN, u, e30⟩ := newE (o := .tup [(.ref t2), (.ref t3)]) ht
      rw [qN]; clear qN
      replace hp := u _ _ hp
      replace hnm := u _ _ hnm
      replace e2 := Same.tup u _ _ _ e2
      replace e3 := Same.tup u _ _ _ e3
      replace gn := gn.mono (Same.tup u)
      replace sx := sx.trans (Same.x u)
      clear u ht
      replace e30 := SqT.of (K := K) e30
      refine ⟨by rw [sizeLine_eq]; exact (by decide : 2 ≤ 16777216), fun t31 ht => ?_⟩
      obtain ⟨H31, qN, u, e31⟩ := newE (o := .tup [(.str "or"), (.ref t30)]) ht
      rw [qN]; clear qN
      replace hp := u _ _ hp
      replace hnm := u _ _ hnm
      replace e2 := Same.tup u _ _ _ e2
      replace e3 := Same.tup u _ _ _ e3
      replace e30 := Same.tup u _ _ _ e30
      replace gn := gn.mono (Same.tup u)
      replace sx := sx.trans (Same.x u)
      clear u ht
      replace e31 := SqT.of (K := K) e31
      replace gn : GN K "room" H31 [(.ref t3), (.ref t27), (.ref t28), (.ref t29), (.ref t31)] := GN.add gn (⟨(.node (.many "or") [(.node (.sign z) []), (.node (.op "next") [(.node (.sign z) [])])]), (at_mny e31 e30 (AtL.two (at_sign e2 hz) (at_op1 e3 (by decide +kernel) (at_sign e2 hz))) (by decide +kernel) (by simp)), by simp [post, postL], fun zz => absurd (((bk2 (.many "or") ((bk0 (.sign z)).trans (by decide +kernel : bkS (wordL (.sign "")) [] = "room")) ((bk1 (.op "next") ((bk0 (.sign z)).trans (by decide +kernel : bkS (wordL (.sign "")) [] = "room"))).trans (by decide +kernel : bkS (wordL (.op "next")) ["room"] = "way"))).trans (by decide +kernel : bkS (wordL (.many "or")) ["room", "way"] = "neither")).symm.trans zz) (by decide +kernel)⟩)
      clear e30
      clear e31
      have xl : ([(.ref t3), (.ref t27), (.ref t28), (.ref t29), (.ref t31)] : List V).length = 5 := rfl
      refine ⟨by rw [sizeLine_eq]; exact (by decide : 5 ≤ 16777216), fun lZ ht => ?_⟩
      generalize ([(.ref t3), (.ref t27), (.ref t28), (.ref t29), (.ref t31)] : List V) = xz at gn xl ⊢
      obtain ⟨HZ, qN, u, eZ⟩ := newE (o := .lst xz) ht
      rw [qN]; clear qN
      have neZ : lZ ≠ p := fun z => by rw [z, hp] at ht; cases ht
      replace hp := u _ _ hp
      replace hnm := u _ _ hnm
      replace e2 := Same.tup u _ _ _ e2
      replace e3 := Same.tup u _ _ _ e3
      replace gn := gn.mono (Same.tup u)
      replace sx := sx.trans (Same.x u)
      refine ⟨_, rfl, p, _, rfl, hp, fun HY mY nsY y hpN => ?_⟩
      replace gn := gn.mono (SameX.tup y hp)
      obtain ⟨u2, hu2, hm2⟩ := at_len xl (by decide) mY
      obtain ⟨tz, atz, szz, bkz⟩ := gn u2 hm2
      exact ⟨_, _, rfl, rfl, by decide, lZ, _, _, u2, rfl, rfl, SqL.of (y _ _ neZ eZ), hu2, k HY u2 tz nsY (sx.trans y) hpN (atz.le (by decide)) (by omega) bkz⟩
    clear e2
    clear e3
    refine ⟨by rw [sizeLine_eq]; exact (by decide : 2 ≤ 16777216), fun L hL => ?_⟩
    obtain ⟨J1, qN, j1, eL⟩ := newE (o := .lst (sa2.map V.str)) hL
    have qN' : upd HR L (.lst [.str "some", .str "all"]) = J1 := qN
    rw [qN']; clear qN qN'
    have nL : L ≠ p := fun e => by rw [e, hp] at hL; cases hL
    refine ⟨_, rfl, p, _, rfl, j1 _ _ hp, fun J2 m2 ns2 y2 hp2 => ?_⟩
    obtain ⟨r2, er2, hr2⟩ := mod_nat m2 (m := 2) (by decide)
    have hw := sa2W _ (List.getElem_mem (show r2 < sa2.length from hr2))
    refine ⟨_, _, rfl, rfl, by decide, L, _, _, .str (sa2[r2]'hr2), rfl, rfl, SqL.of (y2 _ _ nL eL), by rw [show (2 : Int) = ((2 : Nat) : Int) from rfl, er2]; exact at_str hr2, _, rfl, by rw [sizeLine_eq]; exact (by decide : 2 ≤ 16777216), fun T2 hT2 => ?_⟩
    generalize (sa2[r2]'hr2) = wd at hw
    obtain ⟨J3, qN, j3, e3⟩ := newE (o := .tup [.str wd, u1]) hT2
    rw [qN]; clear qN
    have tj : SameT HR J3 := (Same.tup j1).trans ((SameX.tup y2 (j1 _ _ hp)).trans (Same.tup j3))
    exact k J3 _ (.node (.op wd) [tp]) ns2 (sx.trans ((Same.x j1).trans (y2.trans (Same.x j3)))) (j3 _ _ hp2) (at_op1 (SqT.of e3) hw.1 (atp.mono tj)) (by rw [post_len, postL_one]; omega) (hw.2 tp bkp)
end KK

set_option Elab.async false
set_option linter.all false
set_option maxRecDepth 100000
set_option maxHeartbeats 8000000
namespace KK
open PySem PySem.Spec L2 L3
theorem ty_lst {H : Hp} {a : Addr} {xs : List V} (e : H a = some (.lst xs)) {T : String} (h : (T == "list") = false := by rfl) : isTy H T (.ref a) = false := by
  simp only [isTy, e]; exact h
/-- what is known of the heap H at G: no word of p -/
structure ShG (p : Addr) (H0 G H : Hp) : Prop where
  s0 : Same H0 H
  hp : ∃ o, H p = some o
  sg : Same G H
  gp : G p = none
theorem ShG.hidX {p : Addr} {H0 G H H' : Hp} (h : ShG p H0 G H) (y : SameX p H H') : Same G (hide p H') := fun b o e => hide_mk (ne_of_none e h.gp) (y _ _ (ne_of_none e h.gp) (h.sg _ _ e))
theorem ShG.hp2 {p : Addr} {H0 G H : Hp} {o : HO} (h : ShG p H0 G H) (e : H0 p = some o) : H p = some o := h.s0 _ _ e
theorem ShG.el {p t : Addr} {H0 G H : Hp} {o : HO} (h : ShG p H0 G H) (ht : H t = none) : ShG p H0 (upd G t o) (upd H t o) ∧ Same G (upd G t o) ∧ upd G t o t = some o ∧ ∀ L z, H L = some z → G L = none → upd H t o L = some z ∧ upd G t o L = none := by
  obtain ⟨z, hz⟩ := h.hp
  have np : p ≠ t := ne_of_none hz ht
  have gt : G t = none := h.sg.free ht
  refine ⟨⟨h.s0.trans (same_upd ht), ⟨z, by rw [upd_ne np]; exact hz⟩, fun b u e => ?_, by rw [upd_ne np]; exact h.gp⟩, same_upd gt, upd_same, fun L z hL hg => ?_⟩
  · by_cases hb : b = t
    · subst hb; rw [upd_same] at e ⊢; exact e
    · rw [upd_ne hb] at e ⊢; exact h.sg _ _ e
  · have nl : L ≠ t := ne_of_none hL ht
    exact ⟨by rw [upd_ne nl]; exact hL, by rw [upd_ne nl]; exact hg⟩
theorem ShG.ls {p t : Addr} {H0 G H : Hp} {o : HO} (h : ShG p H0 G H) (ht : H t = none) : ShG p H0 G (upd H t o) ∧ G t = none ∧ upd H t o t = some o ∧ H0 t = none ∧ p ≠ t ∧ Same H (upd H t o) := by
  obtain ⟨z, hz⟩ := h.hp
  have np : p ≠ t := ne_of_none hz ht
  exact ⟨⟨h.s0.trans (same_upd ht), ⟨z, by rw [upd_ne np]; exact hz⟩, h.sg.trans (same_upd ht), h.gp⟩, h.sg.free ht, upd_same, h.s0.free ht, np, same_upd ht⟩
theorem ShG.ap {p t : Addr} {H0 G H : Hp} {o : HO} (h : ShG p H0 G H) (hg : G t = none) (h0 : H0 t = none) (np : p ≠ t) : ShG p H0 G (upd H t o) ∧ upd H t o t = some o := by
  obtain ⟨z, hz⟩ := h.hp
  exact ⟨⟨((Same.x h.s0).upd).same h0, ⟨z, by rw [upd_ne np]; exact hz⟩, ((Same.x h.sg).upd).same hg, h.gp⟩, upd_same⟩
def Gd (K : PySem.W.Frag) (G : Hp) (x : V) : Prop := ∃ b, BAt K 4 G x b ∧ hasBad b = true ∧ bsz b ≤ 10
theorem Gd.mono {K : PySem.W.Frag} {G G' : Hp} {x : V} (s : Same G G') (h : Gd K G x) : Gd K G' x := let ⟨b, h1, h2⟩ := h; ⟨b, h1.mono s, h2⟩
def GL (K : PySem.W.Frag) (G : Hp) (xs : List V) : Prop := ∀ x ∈ xs, Gd K G x
theorem GL.mono {K : PySem.W.Frag} {G G' : Hp} {xs : List V} (h : GL K G xs) (s : Same G G') : GL K G' xs := fun x hx => (h x hx).mono s
theorem GL.nil {K : PySem.W.Frag} {G : Hp} : GL K G [] := fun x hx => by cases hx
theorem GL.add {K : PySem.W.Frag} {G : Hp} {xs : List V} {v : V} (h : GL K G xs) (g : Gd K G v) : GL K G (xs ++ [v]) := fun x hx => by
  rcases List.mem_append.mp hx with hx | hx
  · exact h x hx
  · rw [List.mem_singleton.mp hx]; exact g
theorem gd_lf {K : PySem.W.Frag} {G : Hp} {x : V} (h : Fm K G x) : Gd K G x := ⟨.lf, h, rfl, by decide⟩
theorem b_lf {K : PySem.W.Frag} {G : Hp} {x : V} (n : Nat) (h : Fm K G x) : BAt K (n + 1) G x .lf := h
theorem gd_op1 {K : PySem.W.Frag} {G : Hp} {t : Addr} {w : Str} {u : V} (h : SqT K G t [.str w, u]) (hw : w ∈ W1) (g : Fm K G u) : Gd K G (.ref t) :=
  ⟨.nd (.op w) [.lf], ⟨t, [u], rfl, h, .inl ⟨hw, rfl⟩, rfl, (BAtL.one (b_lf 2 g)).2⟩, rfl, by simp [bsz, bszL]⟩
theorem gd_m1 {K : PySem.W.Frag} {G : Hp} {t a : Addr} {w z : Str} (h : SqT K G t [.str w, .ref a]) (hw : w = "and" ∨ w = "or") (ha : SqT K G a [.str "sign", .str z]) (hz : isNameS z = true) : Gd K G (.ref t) :=
  ⟨.nd (.many w) [.lf, .lf], ⟨t, [.str "sign", .str z], rfl, ⟨a, h, ha⟩, ⟨hw, by decide⟩, rfl, ((BAtL.one (b_lf 2 (.noT (.str _ (by decide +kernel)) rfl))).app (BAtL.one (b_lf 2 (.noT (.str _ (Nat.le_trans (name_short hz) (by decide))) rfl)))).2⟩, rfl, by simp [bsz, bszL]⟩
def sp__law_bad (K : PySem.W.Frag) (a : Adr) : Sp := fun vs H Q _ => ∃ (nm p : Addr) (nn : List Str) (ns : List Int), vs = [.ref nm, .ref p] ∧ H nm = some (.lst (nn.map V.str)) ∧ nn.length = 3 ∧ (∀ x ∈ nn, isNameS x = true) ∧ nm ≠ p ∧ H p = some (.lst (ns.map V.int)) ∧ ∀ H' v b (ns' : List Int), SameX p H H' → H' p = some (.lst (ns'.map V.int)) → BAt K 4 (hide p H') v b → hasBad b = true → bsz b ≤ 10 → Q v H'
theorem ok__law_bad {P : Program} {w : World} {K : PySem.W.Frag} {mg : Str → Option Value} {base : Heap} {a : Adr} (T : Txt K mg a) (hw : w.params = a.Pm) : FnOk P w K mg base CX0 2 a._law_bad a._law_bad_fd ["_law_names_here", "_law_xs"] (sp__law_bad K a) := by
  have G__law_next := ok__law_next (P := P) (w := w) (base := base) T hw
  refine T.f__law_bad.ok sc__law_bad (fun vs H Q E h => ?_) (fun cdv A outer s H vs Q E hr h => ?_)
  · obtain ⟨nm, p, nn, ns, rfl, _⟩ := h
    rfl
  · obtain ⟨nm, p, nn, ns, rfl, hnm, ln, nnm, nnp, hp, k⟩ := h
    refine ⟨_, (@pss_cons _ _ _ _ _ (@ps_set _ _ (2) _ _ _ _ sc__law_bad.nd
      rfl
      (Or.inl rfl)
      (@pe_tup _ _ _ _ _ (@pa_cons _ _ _ _ _ pe_str
      (@pa_cons _ _ _ _ _ (@pe_ix _ _ _ _ _ _ _ (ix_listK (K := K) rfl)
      (pv 0)
      (@pe_op _ _ _ _ _ _ _ _ op_mod
      (pe_call G__law_next (hr.mono (by decide)) rfl T.g__law_next T.f__law_next.kp T.n__law_next .nil pass0 (@pa_cons _ _ _ _ _ (pv 1)
      pa_nil
      (by rfl)))
      pe_int)
      (fun _ _ => rfl))
      pa_nil
      (by rfl))
      (by rfl)))
      (by rfl)
      (by first | exact .inl rfl | exact .inr rfl | assumption))
      (@pss_cons _ _ _ _ _ (@ps_set _ _ (3) _ _ _ _ sc__law_bad.nd
      rfl
      (Or.inl rfl)
      (@pe_lst _ _ _ _ (@pa_c _ _ _ _ _ pe_non
      (@pa_c _ _ _ _ _ (@pe_tup _ _ _ _ _ pa_nil)
      (@pa_c _ _ _ _ _ pe_int
      (@pa_c _ _ _ _ _ pe_str
      (@pa_c _ _ _ _ _ (@pe_lst _ _ _ _ (@pa_cons _ _ _ _ _ pe_str
      pa_nil
      (by rfl)))
      (@pa_c _ _ _ _ _ (@pe_tup _ _ _ _ _ (@pa_cons _ _ _ _ _ pe_str
      (@pa_cons _ _ _ _ _ pe_int
      pa_nil
      (by rfl))
      (by rfl)))
      (@pa_c _ _ _ _ _ (@pe_tup _ _ _ _ _ (@pa_cons _ _ _ _ _ pe_str
      pa_nil
      (by rfl)))
      (@pa_c _ _ _ _ _ (@pe_tup _ _ _ _ _ (@pa_cons _ _ _ _ _ pe_str
      (@pa_cons _ _ _ _ _ pe_str
      pa_nil
      (by rfl))
      (by rfl)))
      (@pa_c _ _ _ _ _ (@pe_tup _ _ _ _ _ (@pa_cons _ _ _ _ _ pe_str
      (@pa_cons _ _ _ _ _ pe_str
      pa_nil
      (by rfl))
      (by rfl)))
      (@pa_c _ _ _ _ _ (@pe_tup _ _ _ _ _ (@pa_cons _ _ _ _ _ pe_str
      (@pa_cons _ _ _ _ _ pe_str
      pa_nil
      (by rfl))
      (by rfl)))
      (@pa_c _ _ _ _ _ (@pe_tup _ _ _ _ _ (@pa_cons _ _ _ _ _ pe_str
      pa_nil
      (by rfl)))
      (@pa_c _ _ _ _ _ (@pe_tup _ _ _ _ _ (@pa_cons _ _ _ _ _ pe_str
      (@pa_cons _ _ _ _ _ (@pe_lst _ _ _ _ (@pa_cons _ _ _ _ _ (pv 2)
      pa_nil
      (by rfl)))
      pa_nil
      (by rfl))
      (by rfl)))
      (@pa_c _ _ _ _ _ (@pe_tup _ _ _ _ _ (@pa_cons _ _ _ _ _ pe_str
      (@pa_cons _ _ _ _ _ (pv 2)
      pa_nil
      (by rfl))
      (by rfl)))
      (@pa_c _ _ _ _ _ (@pe_tup _ _ _ _ _ (@pa_cons _ _ _ _ _ pe_str
      (@pa_cons _ _ _ _ _ pe_int
      pa_nil
      (by rfl))
      (by rfl)))
      (@pa_c _ _ _ _ _ (@pe_tup _ _ _ _ _ (@pa_cons _ _ _ _ _ pe_str
      pa_nil
      (by rfl)))
      (@pa_c _ _ _ _ _ (@pe_tup _ _ _ _ _ (@pa_cons _ _ _ _ _ pe_str
      (@pa_cons _ _ _ _ _ pe_non
      pa_nil
      (by rfl))
      (by rfl)))
      (@pa_c _ _ _ _ _ (@pe_tup _ _ _ _ _ (@pa_c _ _ _ _ _ pe_str
      (@pa_c _ _ _ _ _ (pe_un un_neg pe_int)
      (@pa_c _ _ _ _ _ (pv 2)
      (@pa_c _ _ _ _ _ (pv 2)
      pa_nil
      (by rfl))
      (by rfl))
      (by rfl))
      (by rfl)))
      (@pa_c _ _ _ _ _ (@pe_tup _ _ _ _ _ (@pa_c _ _ _ _ _ pe_str
      (@pa_c _ _ _ _ _ pe_int
      (@pa_c _ _ _ _ _ (pv 2)
      (@pa_c _ _ _ _ _ (pv 2)
      pa_nil
      (by rfl))
      (by rfl))
      (by rfl))
      (by rfl)))
      (@pa_c _ _ _ _ _ (@pe_tup _ _ _ _ _ (@pa_c _ _ _ _ _ pe_str
      (@pa_c _ _ _ _ _ pe_bl
      (@pa_c _ _ _ _ _ (pv 2)
      (@pa_c _ _ _ _ _ (pv 2)
      pa_nil
      (by rfl))
      (by rfl))
      (by rfl))
      (by rfl)))
      (@pa_c _ _ _ _ _ (@pe_tup _ _ _ _ _ (@pa_cons _ _ _ _ _ pe_str
      (@pa_cons _ _ _ _ _ (pv 2)
      pa_nil
      (by rfl))
      (by rfl)))
      (@pa_c _ _ _ _ _ (@pe_tup _ _ _ _ _ (@pa_cons _ _ _ _ _ pe_str
      (@pa_cons _ _ _ _ _ (pv 2)
      pa_nil
      (by rfl))
      (by rfl)))
      pa_nil
      (by rfl))
      (by rfl))
      (by rfl))
      (by rfl))
      (by rfl))
      (by rfl))
      (by rfl))
      (by rfl))
      (by rfl))
      (by rfl))
      (by rfl))
      (by rfl))
      (by rfl))
      (by rfl))
      (by rfl))
      (by rfl))
      (by rfl))
      (by rfl))
      (by rfl))
      (by rfl))
      (by rfl)))
      (by rfl)
      (by first | exact .inl rfl | exact .inr rfl | assumption))
      (@pss_cons _ _ _ _ _ (@ps_expr _ _ _ _ (pe_bm PySem.F.plainAttrs_list PySem.F.slot_list_append PySem.F.type_list_append mt_append (pv 3) (@pa_cons _ _ _ _ _ (@pe_tup _ _ _ _ _ (@pa_c _ _ _ _ _ pe_str
      (@pa_c _ _ _ _ _ (pv 2)
      (@pa_c _ _ _ _ _ (pv 2)
      pa_nil
      (by rfl))
      (by rfl))
      (by rfl)))
      pa_nil
      (by rfl)))
      (by rfl))
      (@pss_one _ _ _ (@ps_ret _ _ _ _ (@pe_ix _ _ _ _ _ _ _ (ix_listK (K := K) rfl)
      (pv 3)
      (@pe_op _ _ _ _ _ _ _ _ op_mod
      (pe_call G__law_next (hr.mono (by decide)) rfl T.g__law_next T.f__law_next.kp T.n__law_next .nil pass0 (@pa_cons _ _ _ _ _ (pv 1)
      pa_nil
      (by rfl)))
      (pe_callB (call_lenK (K := K) rfl) rfl T.b_len PyProof.Rows.Boot.«len» (@pa_cons _ _ _ _ _ (pv 3)
      pa_nil
      (by rfl))))
      (fun _ _ => rfl))))))), ?_⟩
    refine ⟨_, rfl, _, rfl, p, _, rfl, hp, fun H1 m1 ns1 x1 x1p => ?_⟩
    obtain ⟨r1, er1, hr1⟩ := mod_nat m1 (m := 3) (by decide)
    have hz : isNameS (nn[r1]'(by omega)) = true := nnm _ (List.getElem_mem _)
    refine ⟨_, _, rfl, rfl, by decide, nm, _, _, .str (nn[r1]'(by omega)), rfl, rfl, SqL.of (x1 _ _ nnp hnm), by rw [show (3 : Int) = ((3 : Nat) : Int) from rfl, er1]; exact at_str (by omega), ?_⟩
    generalize (nn[r1]'(by omega)) = z at hz
    have st : ShG p H1 (hide p H1) H1 := ⟨fun _ _ e => e, ⟨_, x1p⟩, hide_sub, by unfold hide; rw [if_pos rfl]⟩
    generalize hide p H1 = G at st
    refine ⟨by rw [sizeLine_eq]; simp, fun t2 ht2 => ?_⟩
    obtain ⟨st, s2, e2, kp⟩ := ShG.el (o := (.tup [.str "sign", .str z])) st ht2
    clear kp
    generalize upd H1 t2 (.tup [.str "sign", .str z]) = H2 at st  ⊢
    generalize upd G t2 (.tup [.str "sign", .str z]) = G2 at st s2 e2 
    clear s2 ht2
    have gn : GL K G2 [] := GL.nil
    replace gn : GL K G2 [.non] := GL.add gn (gd_lf (.noT .non rfl))
    refine ⟨by rw [sizeLine_eq]; simp, fun t3 ht3 => ?_⟩
    obtain ⟨st, s3, e3, kp⟩ := ShG.el (o := (.tup [])) st ht3
    clear kp
    generalize upd H2 t3 (.tup []) = H3 at st  ⊢
    generalize upd G2 t3 (.tup []) = G3 at st s3 e3 
    replace gn := gn.mono s3
    replace e2 := s3 _ _ e2
    clear s3 ht3
    replace gn : GL K G3 [.non, (.ref t3)] := GL.add gn (gd_lf (.emp (SqT.of e3)))
    clear e3
    replace gn : GL K G3 [.non, (.ref t3), (.int 7)] := GL.add gn (gd_lf (.noT (.int _) rfl))
    replace gn : GL K G3 [.non, (.ref t3), (.int 7), (.str "yes")] := GL.add gn (gd_lf (.noT (.str _ (by decide +kernel)) rfl))
    refine ⟨by rw [sizeLine_eq]; simp, fun t4 ht4 => ?_⟩
    obtain ⟨st, s4, e4, kp⟩ := ShG.el (o := (.lst [(.str "yes")])) st ht4
    clear kp
    generalize upd H3 t4 (.lst [(.str "yes")]) = H4 at st  ⊢
    generalize upd G3 t4 (.lst [(.str "yes")]) = G4 at st s4 e4 
    replace gn := gn.mono s4
    replace e2 := s4 _ _ e2
    clear s4 ht4
    replace gn : GL K G4 [.non, (.ref t3), (.int 7), (.str "yes"), (.ref t4)] := GL.add gn (gd_lf (.noT (.lst e4) (ty_lst e4)))
    clear e4
    refine ⟨by rw [sizeLine_eq]; simp, fun t5 ht5 => ?_⟩
    obtain ⟨st, s5, e5, kp⟩ := ShG.el (o := (.tup [(.str "yes"), (.int 1)])) st ht5
    clear kp
    generalize upd H4 t5 (.tup [(.str "yes"), (.int 1)]) = H5 at st  ⊢
    generalize upd G4 t5 (.tup [(.str "yes"), (.int 1)]) = G5 at st s5 e5 
    replace gn := gn.mono s5
    replace e2 := s5 _ _ e2
    clear s5 ht5
    replace gn : GL K G5 [.non, (.ref t3), (.int 7), (.str "yes"), (.ref t4), (.ref t5)] := GL.add gn (gd_lf (.yes (SqT.of e5) (by simp)))
    clear e5
    refine ⟨by rw [sizeLine_eq]; simp, fun t6 ht6 => ?_⟩
    obtain ⟨st, s6, e6, kp⟩ := ShG.el (o := (.tup [(.str "sign")])) st ht6
    clear kp
    generalize upd H5 t6 (.tup [(.str "sign")]) = H6 at st  ⊢
    generalize upd G5 t6 (.tup [(.str "sign")]) = G6 at st s6 e6 
    replace gn := gn.mono s6
    replace e2 := s6 _ _ e2
    clear s6 ht6
    replace gn : GL K G6 [.non, (.ref t3), (.int 7), (.str "yes"), (.ref t4), (.ref t5), (.ref t6)] := GL.add gn (gd_lf (.sgnL (SqT.of e6) (by simp)))
    clear e6
    refine ⟨by rw [sizeLine_eq]; simp, fun t7 ht7 => ?_⟩
    obtain ⟨st, s7, e7, kp⟩ := ShG.el (o := (.tup [(.str "sign"), (.str "A")])) st ht7
    clear kp
    generalize upd H6 t7 (.tup [(.str "sign"), (.str "A")]) = H7 at st  ⊢
    generalize upd G6 t7 (.tup [(.str "sign"), (.str "A")]) = G7 at st s7 e7 
    replace gn := gn.mono s7
    replace e2 := s7 _ _ e2
    clear s7 ht7
    replace gn : GL K G7 [.non, (.ref t3), (.int 7), (.str "yes"), (.ref t4), (.ref t5), (.ref t6), (.ref t7)] := GL.add gn (gd_lf (.sgn (SqT.of e7) (.str _ (by decide +kernel)) (by decide +kernel)))
    clear e7
    refine ⟨by rw [sizeLine_eq]; simp, fun t8 ht8 => ?_⟩
    obtain ⟨st, s8, e8, kp⟩ := ShG.el (o := (.tup [(.str "sign"), (.str "")])) st ht8
    clear kp
    generalize upd H7 t8 (.tup [(.str "sign"), (.str "")]) = H8 at st  ⊢
    generalize upd G7 t8 (.tup [(.str "sign"), (.str "")]) = G8 at st s8 e8 
    replace gn := gn.mono s8
    replace e2 := s8 _ _ e2
    clear s8 ht8
    replace gn : GL K G8 [.non, (.ref t3), (.int 7), (.str "yes"), (.ref t4), (.ref t5), (.ref t6), (.ref t7), (.ref t8)] := GL.add gn (gd_lf (.sgn (SqT.of e8) (.str _ (by decide +kernel)) (by decide +kernel)))
    clear e8
    refine ⟨by rw [sizeLine_eq]; simp, fun t9 ht9 => ?_⟩
    obtain ⟨st, s9, e9, kp⟩ := ShG.el (o := (.tup [(.str "sign"), (.str "abcdefghi")])) st ht9
    clear kp
    generalize upd H8 t9 (.tup [(.str "sign"), (.str "abcdefghi")]) = H9 at st  ⊢
    generalize upd G8 t9 (.tup [(.str "sign"), (.str "abcdefghi")]) = G9 at st s9 e9 
    replace gn := gn.mono s9
    replace e2 := s9 _ _ e2
    clear s9 ht9
    replace gn : GL K G9 [.non, (.ref t3), (.int 7), (.str "yes"), (.ref t4), (.ref t5), (.ref t6), (.ref t7), (.ref t8), (.ref t9)] := GL.add gn (gd_lf (.sgn (SqT.of e9) (.str _ (by decide +kernel)) (by decide +kernel)))
    clear e9
    refine ⟨by rw [sizeLine_eq]; simp, fun t10 ht10 => ?_⟩
    obtain ⟨st, s10, e10, kp⟩ := ShG.el (o := (.tup [(.str "not")])) st ht10
    clear kp
    generalize upd H9 t10 (.tup [(.str "not")]) = H10 at st  ⊢
    generalize upd G9 t10 (.tup [(.str "not")]) = G10 at st s10 e10 
    replace gn := gn.mono s10
    replace e2 := s10 _ _ e2
    clear s10 ht10
    replace gn : GL K G10 [.non, (.ref t3), (.int 7), (.str "yes"), (.ref t4), (.ref t5), (.ref t6), (.ref t7), (.ref t8), (.ref t9), (.ref t10)] := GL.add gn (gd_lf (.lens (i := 2) (SqT.of e10) (by decide +kernel) (by decide +kernel) (by simp)))
    clear e10
    refine ⟨_, rfl, ?_⟩
    refine ⟨by rw [sizeLine_eq]; simp, fun t11 ht11 => ?_⟩
    obtain ⟨st, s11, e11, kp⟩ := ShG.el (o := (.lst [(.ref t2)])) st ht11
    clear kp
    generalize upd H10 t11 (.lst [(.ref t2)]) = H11 at st  ⊢
    generalize upd G10 t11 (.lst [(.ref t2)]) = G11 at st s11 e11 
    replace gn := gn.mono s11
    replace e2 := s11 _ _ e2
    clear s11 ht11
    refine ⟨by rw [sizeLine_eq]; simp, fun t12 ht12 => ?_⟩
    obtain ⟨st, s12, e12, kp⟩ := ShG.el (o := (.tup [(.str "and"), (.ref t11)])) st ht12
    clear kp
    generalize upd H11 t12 (.tup [(.str "and"), (.ref t11)]) = H12 at st  ⊢
    generalize upd G11 t12 (.tup [(.str "and"), (.ref t11)]) = G12 at st s12 e12 
    replace gn := gn.mono s12
    replace e2 := s12 _ _ e2
    replace e11 := s12 _ _ e11
    clear s12 ht12
    replace gn : GL K G12 [.non, (.ref t3), (.int 7), (.str "yes"), (.ref t4), (.ref t5), (.ref t6), (.ref t7), (.ref t8), (.ref t9), (.ref t10), (.ref t12)] := GL.add gn (gd_lf (.manyN (by decide +kernel) (SqT.of e12) (.lst e11) (ty_lst e11)))
    clear e11
    clear e12
    refine ⟨_, rfl, ?_⟩
    refine ⟨by rw [sizeLine_eq]; simp, fun t13 ht13 => ?_⟩
    obtain ⟨st, s13, e13, kp⟩ := ShG.el (o := (.tup [(.str "or"), (.ref t2)])) st ht13
    clear kp
    generalize upd H12 t13 (.tup [(.str "or"), (.ref t2)]) = H13 at st  ⊢
    generalize upd G12 t13 (.tup [(.str "or"), (.ref t2)]) = G13 at st s13 e13 
    replace gn := gn.mono s13
    replace e2 := s13 _ _ e2
    clear s13 ht13
    replace gn : GL K G13 [.non, (.ref t3), (.int 7), (.str "yes"), (.ref t4), (.ref t5), (.ref t6), (.ref t7), (.ref t8), (.ref t9), (.ref t10), (.ref t12), (.ref t13)] := GL.add gn (gd_m1 (SqT.of e13) (by decide +kernel) (SqT.of e2) hz)
    clear e13
    refine ⟨by rw [sizeLine_eq]; simp, fun t14 ht14 => ?_⟩
    obtain ⟨st, s14, e14, kp⟩ := ShG.el (o := (.tup [(.str "some"), (.int 3)])) st ht14
    clear kp
    generalize upd H13 t14 (.tup [(.str "some"), (.int 3)]) = H14 at st  ⊢
    generalize upd G13 t14 (.tup [(.str "some"), (.int 3)]) = G14 at st s14 e14 
    replace gn := gn.mono s14
    replace e2 := s14 _ _ e2
    clear s14 ht14
    replace gn : GL K G14 [.non, (.ref t3), (.int 7), (.str "yes"), (.ref t4), (.ref t5), (.ref t6), (.ref t7), (.ref t8), (.ref t9), (.ref t10), (.ref t12), (.ref t13), (.ref t14)] := GL.add gn (gd_op1 (SqT.of e14) (by decide +kernel) (.noT (.int _) rfl))
    clear e14
    refine ⟨by rw [sizeLine_eq]; simp, fun t15 ht15 => ?_⟩
    obtain ⟨st, s15, e15, kp⟩ := ShG.el (o := (.tup [(.str "all")])) st ht15
    clear kp
    generalize upd H14 t15 (.tup [(.str "all")]) = H15 at st  ⊢
    generalize upd G14 t15 (.tup [(.str "all")]) = G15 at st s15 e15 
    replace gn := gn.mono s15
    replace e2 := s15 _ _ e2
    clear s15 ht15
    replace gn : GL K G15 [.non, (.ref t3), (.int 7), (.str "yes"), (.ref t4), (.ref t5), (.ref t6), (.ref t7), (.ref t8), (.ref t9), (.ref t10), (.ref t12), (.ref t13), (.ref t14), (.ref t15)] := GL.add gn (gd_lf (.lens (i := 2) (SqT.of e15) (by decide +kernel) (by decide +kernel) (by simp)))
    clear e15
    refine ⟨by rw [sizeLine_eq]; simp, fun t16 ht16 => ?_⟩
    obtain ⟨st, s16, e16, kp⟩ := ShG.el (o := (.tup [(.str "next"), .non])) st ht16
    clear kp
    generalize upd H15 t16 (.tup [(.str "next"), .non]) = H16 at st  ⊢
    generalize upd G15 t16 (.tup [(.str "next"), .non]) = G16 at st s16 e16 
    replace gn := gn.mono s16
    replace e2 := s16 _ _ e2
    clear s16 ht16
    replace gn : GL K G16 [.non, (.ref t3), (.int 7), (.str "yes"), (.ref t4), (.ref t5), (.ref t6), (.ref t7), (.ref t8), (.ref t9), (.ref t10), (.ref t12), (.ref t13), (.ref t14), (.ref t15), (.ref t16)] := GL.add gn (gd_op1 (SqT.of e16) (by decide +kernel) (.noT .non rfl))
    clear e16
    refine ⟨_, rfl, ?_⟩
    refine ⟨_, rfl, ?_⟩
    refine ⟨_, rfl, ?_⟩
    refine ⟨by rw [sizeLine_eq]; simp, fun t17 ht17 => ?_⟩
    obtain ⟨st, s17, e17, kp⟩ := ShG.el (o := (.tup [(.str "within"), (.int (-1)), (.ref t2), (.ref t2)])) st ht17
    clear kp
    generalize upd H16 t17 (.tup [(.str "within"), (.int (-1)), (.ref t2), (.ref t2)]) = H17 at st  ⊢
    generalize upd G16 t17 (.tup [(.str "within"), (.int (-1)), (.ref t2), (.ref t2)]) = G17 at st s17 e17 
    replace gn := gn.mono s17
    replace e2 := s17 _ _ e2
    clear s17 ht17
    replace gn : GL K G17 [.non, (.ref t3), (.int 7), (.str "yes"), (.ref t4), (.ref t5), (.ref t6), (.ref t7), (.ref t8), (.ref t9), (.ref t10), (.ref t12), (.ref t13), (.ref t14), (.ref t15), (.ref t16), (.ref t17)] := GL.add gn (gd_lf (.witM (SqT.of e17) (by decide)))
    clear e17
    refine ⟨_, rfl, ?_⟩
    refine ⟨_, rfl, ?_⟩
    refine ⟨by rw [sizeLine_eq]; simp, fun t18 ht18 => ?_⟩
    obtain ⟨st, s18, e18, kp⟩ := ShG.el (o := (.tup [(.str "within"), (.int 6), (.ref t2), (.ref t2)])) st ht18
    clear kp
    generalize upd H17 t18 (.tup [(.str "within"), (.int 6), (.ref t2), (.ref t2)]) = H18 at st  ⊢
    generalize upd G17 t18 (.tup [(.str "within"), (.int 6), (.ref t2), (.ref t2)]) = G18 at st s18 e18 
    replace gn := gn.mono s18
    replace e2 := s18 _ _ e2
    clear s18 ht18
    replace gn : GL K G18 [.non, (.ref t3), (.int 7), (.str "yes"), (.ref t4), (.ref t5), (.ref t6), (.ref t7), (.ref t8), (.ref t9), (.ref t10), (.ref t12), (.ref t13), (.ref t14), (.ref t15), (.ref t16), (.ref t17), (.ref t18)] := GL.add gn (gd_lf (.witM (SqT.of e18) (by decide)))
    clear e18
    refine ⟨_, rfl, ?_⟩
    refine ⟨_, rfl, ?_⟩
    refine ⟨by rw [sizeLine_eq]; simp, fun t19 ht19 => ?_⟩
    obtain ⟨st, s19, e19, kp⟩ := ShG.el (o := (.tup [(.str "within"), (.bl true), (.ref t2), (.ref t2)])) st ht19
    clear kp
    generalize upd H18 t19 (.tup [(.str "within"), (.bl true), (.ref t2), (.ref t2)]) = H19 at st  ⊢
    generalize upd G18 t19 (.tup [(.str "within"), (.bl true), (.ref t2), (.ref t2)]) = G19 at st s19 e19 
    replace gn := gn.mono s19
    replace e2 := s19 _ _ e2
    clear s19 ht19
    replace gn : GL K G19 [.non, (.ref t3), (.int 7), (.str "yes"), (.ref t4), (.ref t5), (.ref t6), (.ref t7), (.ref t8), (.ref t9), (.ref t10), (.ref t12), (.ref t13), (.ref t14), (.ref t15), (.ref t16), (.ref t17), (.ref t18), (.ref t19)] := GL.add gn (gd_lf (.witN (SqT.of e19) (.bl _) rfl))
    clear e19
    refine ⟨_, rfl, ?_⟩
    refine ⟨by rw [sizeLine_eq]; simp, fun t20 ht20 => ?_⟩
    obtain ⟨st, s20, e20, kp⟩ := ShG.el (o := (.tup [(.str "maybe"), (.ref t2)])) st ht20
    clear kp
    generalize upd H19 t20 (.tup [(.str "maybe"), (.ref t2)]) = H20 at st  ⊢
    generalize upd G19 t20 (.tup [(.str "maybe"), (.ref t2)]) = G20 at st s20 e20 
    replace gn := gn.mono s20
    replace e2 := s20 _ _ e2
    clear s20 ht20
    replace gn : GL K G20 [.non, (.ref t3), (.int 7), (.str "yes"), (.ref t4), (.ref t5), (.ref t6), (.ref t7), (.ref t8), (.ref t9), (.ref t10), (.ref t12), (.ref t13), (.ref t14), (.ref t15), (.ref t16), (.ref t17), (.ref t18), (.ref t19), (.ref t20)] := GL.add gn (gd_lf (.word (SqT.of e20) (by decide +kernel)))
    clear e20
    refine ⟨_, rfl, ?_⟩
    refine ⟨by rw [sizeLine_eq]; simp, fun t21 ht21 => ?_⟩
    obtain ⟨st, s21, e21, kp⟩ := ShG.el (o := (.tup [(.str "until"), (.ref t2)])) st ht21
    clear kp
    generalize upd H20 t21 (.tup [(.str "until"), (.ref t2)]) = H21 at st  ⊢
    generalize upd G20 t21 (.tup [(.str "until"), (.ref t2)]) = G21 at st s21 e21 
    replace gn := gn.mono s21
    replace e2 := s21 _ _ e2
    clear s21 ht21
    replace gn : GL K G21 [.non, (.ref t3), (.int 7), (.str "yes"), (.ref t4), (.ref t5), (.ref t6), (.ref t7), (.ref t8), (.ref t9), (.ref t10), (.ref t12), (.ref t13), (.ref t14), (.ref t15), (.ref t16), (.ref t17), (.ref t18), (.ref t19), (.ref t20), (.ref t21)] := GL.add gn (gd_lf (.lens (i := 3) (SqT.of e21) (by decide +kernel) (by decide +kernel) (by simp)))
    clear e21
    have gl : GL K G21 [.non, (.ref t3), (.int 7), (.str "yes"), (.ref t4), (.ref t5), (.ref t6), (.ref t7), (.ref t8), (.ref t9), (.ref t10), (.ref t12), (.ref t13), (.ref t14), (.ref t15), (.ref t16), (.ref t17), (.ref t18), (.ref t19), (.ref t20), (.ref t21)] := gn
    have xl : ([.non, (.ref t3), (.int 7), (.str "yes"), (.ref t4), (.ref t5), (.ref t6), (.ref t7), (.ref t8), (.ref t9), (.ref t10), (.ref t12), (.ref t13), (.ref t14), (.ref t15), (.ref t16), (.ref t17), (.ref t18), (.ref t19), (.ref t20), (.ref t21)] : List V).length = 21 := rfl
    clear gn
    refine ⟨by rw [sizeLine_eq]; simp, fun lA ht => ?_⟩
    generalize ([.non, (.ref t3), (.int 7), (.str "yes"), (.ref t4), (.ref t5), (.ref t6), (.ref t7), (.ref t8), (.ref t9), (.ref t10), (.ref t12), (.ref t13), (.ref t14), (.ref t15), (.ref t16), (.ref t17), (.ref t18), (.ref t19), (.ref t20), (.ref t21)] : List V) = xs0 at gl xl ⊢
    obtain ⟨st, gA, eA, zA, nA, s22⟩ := ShG.ls (o := (.lst xs0)) st ht
    generalize upd H21 lA (.lst xs0) = H22 at st eA s22 ⊢
    clear s22 ht
    refine ⟨_, rfl, .inl ⟨rfl, _, SqL.of eA⟩, ?_⟩
    refine ⟨_, rfl, ?_⟩
    refine ⟨_, rfl, ?_⟩
    refine ⟨by rw [sizeLine_eq]; simp, fun t23 ht23 => ?_⟩
    obtain ⟨st, s23, e23, kp⟩ := ShG.el (o := (.tup [(.str "some"), (.ref t2), (.ref t2)])) st ht23
    obtain ⟨eA, gA⟩ := kp _ _ eA gA
    clear kp
    generalize upd H22 t23 (.tup [(.str "some"), (.ref t2), (.ref t2)]) = H23 at st eA ⊢
    generalize upd G21 t23 (.tup [(.str "some"), (.ref t2), (.ref t2)]) = G23 at st s23 e23 gA
    replace gl := gl.mono s23
    replace e2 := s23 _ _ e2
    clear s23 ht23
    replace gl := GL.add gl (gd_lf (.lens (i := 2) (SqT.of e23) (by decide +kernel) (by decide +kernel) (by simp)))
    clear e23
    have yl : (xs0 ++ [(V.ref t23)]).length = 22 := by rw [List.length_append, xl]; rfl
    refine ⟨lA, _, _, rfl, rfl, eA, by rw [sizeLine_eq, xl]; simp, ?_⟩
    generalize xs0 ++ [(V.ref t23)] = xs0q at gl yl ⊢
    obtain ⟨st, eA⟩ := ShG.ap (o := .lst xs0q) st gA zA nA
    generalize upd H23 lA (.lst xs0q) = H24 at st eA ⊢
    clear xl
    have xl := yl
    clear yl
    have hpL := st.hp2 x1p
    refine ⟨_, rfl, _, rfl, p, _, rfl, hpL, fun HY mY nsY y hpN => ?_⟩
    refine ⟨_, rfl, .inl ⟨lA, _, rfl, .inl (SqL.of (y _ _ (Ne.symm nA) eA)), ?_⟩⟩
    rw [xl]
    obtain ⟨u, hu, hm⟩ := at_len xl (by decide) mY
    obtain ⟨b, h1, h2, h3⟩ := gl u hm
    exact ⟨_, _, rfl, rfl, by decide, lA, _, _, u, rfl, rfl, SqL.of (y _ _ (Ne.symm nA) eA), hu, k HY u b nsY (x1.trans ((Same.x st.s0).trans y)) hpN (h1.mono (st.hidX y)) h2 h3⟩
end KK

set_option Elab.async false
set_option linter.all false
set_option maxRecDepth 100000
set_option maxHeartbeats 8000000
namespace KK
open PySem PySem.Spec L2 L3
mutual
theorem bsz_bOf : ∀ t : Tr, bsz (bOf t) = (post t).length
  | .node c ks => by rw [bOf, bsz, post_len, bszL_bOfL ks]
theorem bszL_bOfL : ∀ ks : List Tr, bszL (bOfL ks) = (postL ks).length
  | [] => by rw [bOfL, bszL, postL]; rfl
  | t :: r => by rw [bOfL, bszL, postL, List.length_append, bsz_bOf t, bszL_bOfL r]
end
theorem b_op1 {K : PySem.W.Frag} {n : Nat} {H : Hp} {t : Addr} {w : Str} {u : V} {k : Bt} (e : SqT K H t [.str w, u]) (hw : w ∈ W1) (h : BAt K n H u k) : BAt K (n + 1) H (.ref t) (.nd (.op w) [k]) := ⟨t, [u], rfl, e, .inl ⟨hw, rfl⟩, rfl, (BAtL.one h).2⟩
theorem b_op2 {K : PySem.W.Frag} {n : Nat} {H : Hp} {t : Addr} {w : Str} {u v : V} {k r : Bt} (e : SqT K H t [.str w, u, v]) (hw : w ∈ W2) (h : BAt K n H u k) (g : BAt K n H v r) : BAt K (n + 1) H (.ref t) (.nd (.op w) [k, r]) := ⟨t, [u, v], rfl, e, .inr ⟨hw, rfl⟩, rfl, ((BAtL.one h).app (BAtL.one g)).2⟩
theorem b_wit {K : PySem.W.Frag} {n : Nat} {H : Hp} {t : Addr} {m : Int} {u v : V} {k r : Bt} (e : SqT K H t [.str "within", .int m, u, v]) (hm : 0 ≤ m ∧ m ≤ 5) (h : BAt K n H u k) (g : BAt K n H v r) : BAt K (n + 1) H (.ref t) (.nd (.wit m) [k, r]) := ⟨t, [u, v], rfl, e, ⟨hm, rfl⟩, rfl, ((BAtL.one h).app (BAtL.one g)).2⟩
theorem b_mny2 {K : PySem.W.Frag} {n : Nat} {H : Hp} {t b : Addr} {w : Str} {u v : V} {k r : Bt} (e : SqT K H t [.str w, .ref b]) (eb : SqT K H b [u, v]) (h : BAt K n H u k) (g : BAt K n H v r) (hw : w = "and" ∨ w = "or") : BAt K (n + 1) H (.ref t) (.nd (.many w) [k, r]) := ⟨t, [u, v], rfl, ⟨b, e, eb⟩, ⟨hw, by show 2 ≤ 1000; decide⟩, rfl, ((BAtL.one h).app (BAtL.one g)).2⟩
theorem bkS_no {w : Str} {ks : List Str} {k : Str} (hk : k ∈ ks) (h : k ≠ wantS w) : bkS w ks = "neither" := by
  unfold bkS
  rw [if_neg]
  intro e
  rw [List.all_eq_true] at e
  have := e _ (List.mem_map.mpr ⟨k, hk, rfl⟩)
  exact h (V.str.inj (of_decide_eq_true this))
theorem wantR {w : Str} (h : w ∉ (["all", "some"] : List Str)) : wantS w = "room" := if_neg h
theorem wantW {w : Str} (h : w ∈ (["all", "some"] : List Str)) : wantS w = "way" := if_pos h
/-- one in it is not of the kind that is wanted -/
theorem bk_no {c : Lb} {ks : List Tr} {t : Tr} (ht : t ∈ ks) (h : bkT t ≠ wantS (wordL c)) : bkT (.node c ks) = "neither" := by
  rw [bk_eq]; exact bkS_no (List.mem_map.mpr ⟨t, ht, rfl⟩) h
def BdS (K : PySem.W.Frag) (H : Hp) (v : V) (S : Nat) : Prop := ∃ b n, BAt K n H v b ∧ hasBad b = true ∧ bsz b ≤ S
def NnS (K : PySem.W.Frag) (H : Hp) (v : V) (S : Nat) : Prop := ∃ t n, At K n H v t ∧ (post t).length ≤ S ∧ bkT t ≠ "room"
theorem BdS.monoL {K : PySem.W.Frag} {H H' : Hp} {v : V} {S : Nat} (s : SameL H H') (h : BdS K H v S) : BdS K H' v S := by
  obtain ⟨b, n, h1, h2⟩ := h; exact ⟨b, n, h1.monoL s, h2⟩
theorem NnS.monoT {K : PySem.W.Frag} {H H' : Hp} {v : V} {S : Nat} (s : SameT H H') (h : NnS K H v S) : NnS K H' v S := by
  obtain ⟨b, n, h1, h2⟩ := h; exact ⟨b, n, h1.mono s, h2⟩
theorem Same.l {H H' : Hp} (s : Same H H') : SameL H H' := fun b o e => .inl (s _ _ e)
def sp__law_put_in (K : PySem.W.Frag) (a : Adr) : Sp := fun vs H Q _ => ∃ (nm p : Addr) (nn : List Str) (ns : List Int) (v0 : V), vs = [.ref nm, .ref p, v0] ∧ H nm = some (.lst (nn.map V.str)) ∧ nn.length = 3 ∧ (∀ x ∈ nn, isNameS x = true) ∧ nm ≠ p ∧ H p = some (.lst (ns.map V.int)) ∧ ∀ H' v (ns' : List Int), SameX p H H' → H' p = some (.lst (ns'.map V.int)) → (BdS K H v0 20 → BdS K H' v 200) → (NnS K H v0 20 → NnS K H' v 200) → Q v H'
theorem ok__law_put_in {P : Program} {w : World} {K : PySem.W.Frag} {mg : Str → Option Value} {base : Heap} {a : Adr} (T : Txt K mg a) (hw : w.params = a.Pm) : FnOk P w K mg base CX0 7 a._law_put_in a._law_put_in_fd ["_law_names_here", "_law_xs", "_law_thing"] (sp__law_put_in K a) := by
  have G__law_next := ok__law_next (P := P) (w := w) (base := base) T hw
  have G__law_branch := ok__law_branch (P := P) (w := w) (base := base) T hw 4
  refine T.f__law_put_in.ok sc__law_put_in (fun vs H Q E h => ?_) (fun cdv A outer s H vs Q E hr h => ?_)
  · obtain ⟨nm, p, nn, ns, v0, rfl, _⟩ := h
    rfl
  · obtain ⟨nm, p, nn, ns, v0, rfl, hnm, ln, nnm, nnp, hp, k⟩ := h
    refine ⟨_, (@pss_cons _ _ _ _ _ (ps_for PassesOwn.never rfl (pi_range1 rfl T.b_range (@pa_cons _ _ _ _ _ (@pe_op _ _ _ _ _ _ _ _ op_mod
      (pe_call G__law_next (hr.mono (by decide)) rfl T.g__law_next T.f__law_next.kp T.n__law_next .nil pass0 (@pa_cons _ _ _ _ _ (pv 1)
      pa_nil
      (by rfl)))
      pe_int)
      pa_nil
      (by rfl))) (pg_name (i := 3) sc__law_put_in.nd rfl (Or.inl rfl)) (@pss_cons _ _ _ _ _ (@ps_set _ _ (4) _ _ _ _ sc__law_put_in.nd
      rfl
      (Or.inl rfl)
      (@pe_op _ _ _ _ _ _ _ _ op_mod
      (pe_call G__law_next (hr.mono (by decide)) rfl T.g__law_next T.f__law_next.kp T.n__law_next .nil pass0 (@pa_cons _ _ _ _ _ (pv 1)
      pa_nil
      (by rfl)))
      pe_int)
      (by rfl)
      (by first | exact .inl rfl | exact .inr rfl | assumption))
      (@pss_cons _ _ _ _ _ (@ps_set _ _ (5) _ _ _ _ sc__law_put_in.nd
      rfl
      (Or.inl rfl)
      (pe_call G__law_branch (hr.mono (by decide)) rfl T.g__law_branch T.f__law_branch.kp T.n__law_branch .nil pass0 (@pa_c _ _ _ _ _ (pv 0)
      (@pa_c _ _ _ _ _ (pv 1)
      (@pa_c _ _ _ _ _ pe_int
      pa_nil
      (by rfl))
      (by rfl))
      (by rfl)))
      (by rfl)
      (by first | exact .inl rfl | exact .inr rfl | assumption))
      (@pss_one _ _ _ (@ps_if _ _ _ _ _ _ _ _ (@pt_cmpR _ _ _ _ _ _ _ _ op_eq
      (pv 4)
      pe_int
      (nomark _))
      (@pss_one _ _ _ (@ps_set _ _ (2) _ _ _ _ sc__law_put_in.nd
      rfl
      (Or.inl rfl)
      (@pe_tup _ _ _ _ _ (@pa_cons _ _ _ _ _ pe_str
      (@pa_cons _ _ _ _ _ (pv 2)
      pa_nil
      (by rfl))
      (by rfl)))
      (by rfl)
      (by first | exact .inl rfl | exact .inr rfl | assumption)))
      (@pss_one _ _ _ (@ps_if _ _ _ _ _ _ _ _ (@pt_cmpR _ _ _ _ _ _ _ _ op_eq
      (pv 4)
      pe_int
      (nomark _))
      (@pss_one _ _ _ (@ps_set _ _ (2) _ _ _ _ sc__law_put_in.nd
      rfl
      (Or.inl rfl)
      (@pe_tup _ _ _ _ _ (@pa_cons _ _ _ _ _ (@pe_ix _ _ _ _ _ _ _ (ix_listK (K := K) rfl)
      (@pe_lst _ _ _ _ (@pa_cons _ _ _ _ _ pe_str
      (@pa_cons _ _ _ _ _ pe_str
      pa_nil
      (by rfl))
      (by rfl)))
      (@pe_op _ _ _ _ _ _ _ _ op_mod
      (pe_call G__law_next (hr.mono (by decide)) rfl T.g__law_next T.f__law_next.kp T.n__law_next .nil pass0 (@pa_cons _ _ _ _ _ (pv 1)
      pa_nil
      (by rfl)))
      pe_int)
      (fun _ _ => rfl))
      (@pa_cons _ _ _ _ _ (@pe_tup _ _ _ _ _ (@pa_cons _ _ _ _ _ (pv 5)
      (@pa_cons _ _ _ _ _ (pv 2)
      pa_nil
      (by rfl))
      (by rfl)))
      pa_nil
      (by rfl))
      (by rfl)))
      (by rfl)
      (by first | exact .inl rfl | exact .inr rfl | assumption)))
      (@pss_one _ _ _ (@ps_if _ _ _ _ _ _ _ _ (@pt_cmpR _ _ _ _ _ _ _ _ op_eq
      (pv 4)
      pe_int
      (nomark _))
      (@pss_one _ _ _ (@ps_set _ _ (2) _ _ _ _ sc__law_put_in.nd
      rfl
      (Or.inl rfl)
      (@pe_tup _ _ _ _ _ (@pa_cons _ _ _ _ _ pe_str
      (@pa_cons _ _ _ _ _ (@pe_tup _ _ _ _ _ (@pa_c _ _ _ _ _ pe_str
      (@pa_c _ _ _ _ _ (pv 5)
      (@pa_c _ _ _ _ _ (pv 2)
      pa_nil
      (by rfl))
      (by rfl))
      (by rfl)))
      pa_nil
      (by rfl))
      (by rfl)))
      (by rfl)
      (by first | exact .inl rfl | exact .inr rfl | assumption)))
      (@pss_one _ _ _ (@ps_set _ _ (2) _ _ _ _ sc__law_put_in.nd
      rfl
      (Or.inl rfl)
      (@pe_tup _ _ _ _ _ (@pa_cons _ _ _ _ _ pe_str
      (@pa_cons _ _ _ _ _ (@pe_tup _ _ _ _ _ (@pa_c _ _ _ _ _ pe_str
      (@pa_c _ _ _ _ _ pe_int
      (@pa_c _ _ _ _ _ (pv 2)
      (@pa_c _ _ _ _ _ (pv 5)
      pa_nil
      (by rfl))
      (by rfl))
      (by rfl))
      (by rfl)))
      pa_nil
      (by rfl))
      (by rfl)))
      (by rfl)
      (by first | exact .inl rfl | exact .inr rfl | assumption))))))))))))
      (@pss_one _ _ _ (@ps_ret _ _ _ _ (pv 2)))), ?_⟩
    refine ⟨_, rfl, p, _, rfl, hp, fun H1 m1 ns1 x1 hp1 => ⟨_, _, rfl, rfl, by decide, ?_⟩⟩
    obtain ⟨q, eq, hq3⟩ := mod_nat m1 (m := 3) (by decide)
    have eq' : m1 % 3 = (q : Int) := eq
    rw [eq']
    refine ⟨_, rfl, by omega, by omega, ?_⟩
    rw [Int.toNat_natCast]
    refine for_gen (J := Itr 0 q) (n := q) (fun i σ G => ∃ (z3 z4 z5 : Option V) (v : V) (ns' : List Int), σ = [some (.ref nm), some (.ref p), some v, z3, z4, z5] ∧ SameX p H G ∧ G p = some (.lst (ns'.map V.int)) ∧ (BdS K H v0 20 → BdS K G v (20 + 60 * i)) ∧ (NnS K H v0 20 → NnS K G v (20 + 60 * i))) ?_ (fun _ _ _ h _ => h) (fun _ _ _ => Nat.le_refl _) ?_ ?_
    · exact ⟨_, _, _, v0, ns1, rfl, x1, hp1, fun h => h.monoL (SameX.l x1 hp hp1), fun h => h.monoT (SameX.tup x1 hp)⟩
    · rintro i x σ G0 G hi ⟨z3, z4, z5, v, ns', rfl, xG, hpG, hB, hN⟩ ⟨rfl, rfl⟩
      refine ⟨_, rfl, p, _, rfl, hpG, fun G1 m2 ns2 y1 hp1 => ⟨_, _, rfl, rfl, by decide, ?_⟩⟩
      obtain ⟨wy, ew, hw4⟩ := mod_nat m2 (m := 4) (by decide)
      have ew' : m2 % 4 = (wy : Int) := ew
      rw [ew']
      have xG1 := xG.trans y1
      refine ⟨_, rfl, _, rfl, nm, p, nn, ns2, 1, rfl, by decide, by decide, xG1 _ _ nnp hnm, ln, nnm, nnp, hp1, fun G2 g tg ns3 y2 hp2 atg szg => ?_⟩
      have szg : (post tg).length ≤ 25 := szg
      have sL : SameL G G2 := (SameX.l y1 hpG hp1).trans (SameX.l y2 hp1 hp2)
      have xG2 := xG1.trans y2
      have hB2 : BdS K H v0 20 → BdS K G2 v (20 + 60 * i) := fun h => (hB h).monoL sL
      have hN2 : NnS K H v0 20 → NnS K G2 v (20 + 60 * i) := fun h => (hN h).monoT sL.tup
      clear hB hN sL y1 y2 xG1
      have bg : bsz (bOf tg) ≤ 25 := by rw [bsz_bOf]; exact szg
      refine ⟨_, rfl, rfl, _, rfl, ite2 (fun _ => ?_) (fun _ => ⟨_, rfl, rfl, _, rfl, ite2 (fun _ => ?_) (fun _ => ⟨_, rfl, rfl, _, rfl, ite2 (fun _ => ?_) (fun _ => ?_)⟩)⟩)⟩
      · have hB3 := hB2
        have hN3 := hN2
        have atg' := atg
        refine ⟨_, rfl, by rw [sizeLine_eq]; exact (by decide : 2 ≤ 16777216), fun t ht => ?_⟩
        obtain ⟨J, qN, u1, e1⟩ := newE (o := .tup [.str "not", v]) ht
        rw [qN]; clear qN
        have sA : Same G2 J := u1
        refine ⟨_, _, _, .ref t, ns3, rfl, xG2.trans (Same.x sA), sA _ _ hp2, fun h => ?_, fun h => ?_⟩
        · obtain ⟨b, n, h1, h2, h3⟩ := hB3 h
          have h1 := (h1.monoL (Same.l sA)).le (Nat.le_add_right n 3)
          have g1 := ((atg'.mono (Same.tup sA)).bat).le (Nat.le_add_left 3 n)
          exact ⟨_, _, b_op1 (SqT.of e1) (by decide +kernel) h1, by simp [hasBad, hasBadL, h2], by simp [bsz, bszL]; omega⟩
        · obtain ⟨t, n, h1, h2, h3⟩ := hN3 h
          have h1 := (h1.mono (Same.tup sA)).le (Nat.le_add_right n 3)
          have g1 := (atg'.mono (Same.tup sA)).le (Nat.le_add_left 3 n)
          refine ⟨(.node (.op "not") [t]), _, at_op1 (SqT.of e1) (by decide +kernel) h1, ?_, ?_⟩
          · simp only [post_len, postL, List.length_append, List.length_nil]; omega
          · exact fun z => absurd ((bk_no (c := .op "not") (List.mem_singleton.mpr rfl) (by rw [wantR (by decide +kernel)]; exact h3)).symm.trans z) (by decide +kernel)
      · refine ⟨by rw [sizeLine_eq]; exact (by decide : 2 ≤ 16777216), fun L hL => ?_⟩
        obtain ⟨J1, qN, j1, eL⟩ := newE (o := .lst (ao2.map V.str)) hL
        have qN' : upd G2 L (.lst [.str "and", .str "or"]) = J1 := qN
        rw [qN']; clear qN qN'
        have nL : L ≠ p := fun e => by rw [e, hp2] at hL; cases hL
        refine ⟨_, rfl, p, _, rfl, j1 _ _ hp2, fun J2 m5 ns5 y5 hp5 => ?_⟩
        obtain ⟨r, er, hr2⟩ := mod_nat m5 (m := 2) (by decide)
        have ha2 := ao2W _ (List.getElem_mem (show r < ao2.length from hr2))
        refine ⟨_, _, rfl, rfl, by decide, L, _, _, .str (ao2[r]'hr2), rfl, rfl, SqL.of (y5 _ _ nL eL), by rw [show (2 : Int) = ((2 : Nat) : Int) from rfl, er]; exact at_str hr2, _, rfl, _, rfl, by rw [sizeLine_eq]; exact (by decide : 2 ≤ 16777216), fun t1 ht1 => ?_⟩
        generalize (ao2[r]'hr2) = wd at ha2
        obtain ⟨J3, qN, u3, e3⟩ := newE (o := .tup [g, v]) ht1
        rw [qN]; clear qN
        refine ⟨by rw [sizeLine_eq]; exact (by decide : 2 ≤ 16777216), fun t ht => ?_⟩
        obtain ⟨J, qN, u4, e4⟩ := newE (o := .tup [.str wd, .ref t1]) ht
        rw [qN]; clear qN
        have sL5 : SameL G2 J2 := (Same.l j1).trans (SameX.l y5 (j1 _ _ hp2) hp5)
        have hB3 : BdS K H v0 20 → BdS K J2 v (20 + 60 * i) := fun h => (hB2 h).monoL sL5
        have hN3 : NnS K H v0 20 → NnS K J2 v (20 + 60 * i) := fun h => (hN2 h).monoT sL5.tup
        have atg' := atg.mono sL5.tup
        have xG5 := xG2.trans ((Same.x j1).trans y5)
        have sA : Same J2 J := (u3.trans (u4))
        refine ⟨_, _, _, .ref t, ns5, rfl, xG5.trans (Same.x sA), sA _ _ hp5, fun h => ?_, fun h => ?_⟩
        · obtain ⟨b, n, h1, h2, h3⟩ := hB3 h
          have h1 := (h1.monoL (Same.l sA)).le (Nat.le_add_right n 3)
          have g1 := ((atg'.mono (Same.tup sA)).bat).le (Nat.le_add_left 3 n)
          exact ⟨_, _, b_mny2 (SqT.of e4) (SqT.of (u4 _ _ e3)) g1 h1 ha2, by simp [hasBad, hasBadL, h2], by simp [bsz, bszL]; omega⟩
        · obtain ⟨t, n, h1, h2, h3⟩ := hN3 h
          have h1 := (h1.mono (Same.tup sA)).le (Nat.le_add_right n 3)
          have g1 := (atg'.mono (Same.tup sA)).le (Nat.le_add_left 3 n)
          refine ⟨(.node (.many wd) [tg, t]), _, at_mny (SqT.of e4) (SqT.of (u4 _ _ e3)) (AtL.two g1 h1) ha2 (by simp), ?_, ?_⟩
          · simp only [post_len, postL, List.length_append, List.length_nil]; omega
          · exact fun z => absurd ((bk_no (c := .many wd) (List.mem_cons_of_mem _ (List.mem_singleton.mpr rfl)) (by rw [wantR (by rcases ha2 with z | z <;> (show wd ∉ _; rw [z]; decide +kernel))]; exact h3)).symm.trans z) (by decide +kernel)
      · have hB3 := hB2
        have hN3 := hN2
        have atg' := atg
        refine ⟨_, rfl, _, rfl, by rw [sizeLine_eq]; exact (by decide : 3 ≤ 16777216), fun t1 ht1 => ?_⟩
        obtain ⟨J1, qN, u1, e1⟩ := newE (o := .tup [.str "until", g, v]) ht1
        rw [qN]; clear qN
        refine ⟨by rw [sizeLine_eq]; exact (by decide : 2 ≤ 16777216), fun t ht => ?_⟩
        obtain ⟨J, qN, u2, e2⟩ := newE (o := .tup [.str "some", .ref t1]) ht
        rw [qN]; clear qN
        have sA : Same G2 J := (u1.trans (u2))
        refine ⟨_, _, _, .ref t, ns3, rfl, xG2.trans (Same.x sA), sA _ _ hp2, fun h => ?_, fun h => ?_⟩
        · obtain ⟨b, n, h1, h2, h3⟩ := hB3 h
          have h1 := (h1.monoL (Same.l sA)).le (Nat.le_add_right n 3)
          have g1 := ((atg'.mono (Same.tup sA)).bat).le (Nat.le_add_left 3 n)
          exact ⟨_, _, b_op1 (SqT.of e2) (by decide +kernel) (b_op2 (SqT.of (u2 _ _ e1)) (by decide +kernel) g1 h1), by simp [hasBad, hasBadL, h2], by simp [bsz, bszL]; omega⟩
        · obtain ⟨t, n, h1, h2, h3⟩ := hN3 h
          have h1 := (h1.mono (Same.tup sA)).le (Nat.le_add_right n 3)
          have g1 := (atg'.mono (Same.tup sA)).le (Nat.le_add_left 3 n)
          refine ⟨(.node (.op "some") [.node (.op "until") [tg, t]]), _, at_op1 (SqT.of e2) (by decide +kernel) (at_op2 (SqT.of (u2 _ _ e1)) (by decide +kernel) g1 h1), ?_, ?_⟩
          · simp only [post_len, postL, List.length_append, List.length_nil]; omega
          · exact fun z => absurd ((bk_no (c := .op "some") (List.mem_singleton.mpr rfl) (by rw [bk_no (c := .op "until") (t := t) (by simp) (by rw [wantR (by decide +kernel)]; exact h3), wantW (by decide +kernel)]; decide +kernel)).symm.trans z) (by decide +kernel)
      · have hB3 := hB2
        have hN3 := hN2
        have atg' := atg
        refine ⟨_, rfl, _, rfl, by rw [sizeLine_eq]; exact (by decide : 4 ≤ 16777216), fun t1 ht1 => ?_⟩
        obtain ⟨J1, qN, u1, e1⟩ := newE (o := .tup [.str "within", .int 1, v, g]) ht1
        rw [qN]; clear qN
        refine ⟨by rw [sizeLine_eq]; exact (by decide : 2 ≤ 16777216), fun t ht => ?_⟩
        obtain ⟨J, qN, u2, e2⟩ := newE (o := .tup [.str "all", .ref t1]) ht
        rw [qN]; clear qN
        have sA : Same G2 J := (u1.trans (u2))
        refine ⟨_, _, _, .ref t, ns3, rfl, xG2.trans (Same.x sA), sA _ _ hp2, fun h => ?_, fun h => ?_⟩
        · obtain ⟨b, n, h1, h2, h3⟩ := hB3 h
          have h1 := (h1.monoL (Same.l sA)).le (Nat.le_add_right n 3)
          have g1 := ((atg'.mono (Same.tup sA)).bat).le (Nat.le_add_left 3 n)
          exact ⟨_, _, b_op1 (SqT.of e2) (by decide +kernel) (b_wit (SqT.of (u2 _ _ e1)) (by decide) h1 g1), by simp [hasBad, hasBadL, h2], by simp [bsz, bszL]; omega⟩
        · obtain ⟨t, n, h1, h2, h3⟩ := hN3 h
          have h1 := (h1.mono (Same.tup sA)).le (Nat.le_add_right n 3)
          have g1 := (atg'.mono (Same.tup sA)).le (Nat.le_add_left 3 n)
          refine ⟨(.node (.op "all") [.node (.wit 1) [t, tg]]), _, at_op1 (SqT.of e2) (by decide +kernel) (at_wit (SqT.of (u2 _ _ e1)) (by decide) h1 g1), ?_, ?_⟩
          · simp only [post_len, postL, List.length_append, List.length_nil]; omega
          · exact fun z => absurd ((bk_no (c := .op "all") (List.mem_singleton.mpr rfl) (by rw [bk_no (c := .wit 1) (t := t) (by simp) (by rw [wantR (by decide +kernel)]; exact h3), wantW (by decide +kernel)]; decide +kernel)).symm.trans z) (by decide +kernel)
    rintro σ G ⟨z3, z4, z5, v, ns', rfl, xG, hpG, hB, hN⟩
    exact ⟨_, rfl, k G v ns' xG hpG (fun h => let ⟨b, n, h1, h2, h3⟩ := hB h; ⟨b, n, h1, h2, by omega⟩) (fun h => let ⟨t, n, h1, h2, h3⟩ := hN h; ⟨t, n, h1, by omega, h3⟩)⟩
end KK

set_option Elab.async false
set_option linter.all false
set_option maxRecDepth 100000
set_option maxHeartbeats 8000000
namespace KK
open PySem PySem.Spec L2 L3
theorem exm_no {K : PySem.W.Frag} {t c : Value} (h1 : PySem.W.subIn K c (.type "BaseException") = some true) (h2 : (t == c) = false) (h3 : PySem.W.kitOne K t c = some false) : PySem.W.exmOne K t c = some false := by
  unfold PySem.W.exmOne
  rw [h1, if_pos (by rfl)]
  unfold PySem.W.kitOne at h3
  rw [h2, if_neg Bool.false_ne_true] at h3
  exact h3
theorem refs5 {a b c d e : Addr} : ∀ v ∈ [V.ref a, V.ref b, V.ref c, V.ref d, V.ref e], ∃ C, v = V.ref C := by
  intro v hv
  simp only [List.mem_cons, List.not_mem_nil, or_false] at hv
  rcases hv with h | h | h | h | h <;> exact ⟨_, h⟩
theorem vals5 {a b c d e : Addr} : Vals [V.ref a, V.ref b, V.ref c, V.ref d, V.ref e] [.ref a, .ref b, .ref c, .ref d, .ref e] := .cons rfl (.cons rfl (.cons rfl (.cons rfl (.cons rfl .nil))))
def sp__law_refused (K : PySem.W.Frag) (a : Adr) : Sp := fun vs H Q _ => ∃ (i : Nat) (x v g : V), vs = [.int (i : Nat), x, v, g] ∧ i < 3 ∧ ((((BadV K H v ∧ (BadV K H g ∨ ∃ u, GoodV K H g u)) ∨ (i ≠ 0 ∧ (∃ t, GoodV K H v t) ∧ BadV K H g)) ∧ ∀ H', Same H H' → Q (.int 2) H') ∨ ((∃ t u, GoodV K H v t ∧ GoodV K H g u ∧ bkT t ≠ "room") ∧ ∀ H', Same H H' → Q (.int 1) H'))
theorem ok__law_refused {P : Program} {w : World} {K : PySem.W.Frag} {mg : Str → Option Value} {base : Heap} {a : Adr} (T : Txt K mg a) (hw : w.params = a.Pm) : FnOk P w K mg base CX0 5 a._law_refused a._law_refused_fd ["_law_way", "_law_world_here", "_law_thing", "_law_good"] (sp__law_refused K a) := by
  have Z_rooms_by_sets := no_rooms_by_sets (P := P) (w := w) (base := base) T hw
  have Z_turns := no_turns (P := P) (w := w) (base := base) T hw
  refine T.f__law_refused.ok sc__law_refused (fun vs H Q E h => ?_) (fun cdv A outer s H vs Q E hr h => ?_)
  · obtain ⟨i, x, v, g, rfl, _⟩ := h
    rfl
  · obtain ⟨i, x, v, g, rfl, i3, h⟩ := h
    refine ⟨_, (@pss_cons _ _ _ _ _ (@ps_set _ _ (4) _ _ _ _ sc__law_refused.nd
      rfl
      (Or.inl rfl)
      pe_int
      (by rfl)
      (by first | exact .inl rfl | exact .inr rfl | assumption))
      (@pss_cons _ _ _ _ _ (ps_try2 (i := 5) rfl rfl sc__law_refused.nd rfl rfl rfl T.g_NoBranch rfl T.g_BadSentence (psx_if (@pt_cmpR _ _ _ _ _ _ _ _ op_eq
      (pv 0)
      pe_int
      (nomark _)) (psx_expr (pex_call Z_rooms_by_sets (hr.mono (by decide)) rfl T.g_rooms_by_sets T.f_rooms_by_sets.kp T.n_rooms_by_sets (@pa_cons _ _ _ _ _ (pv 1)
      (@pa_cons _ _ _ _ _ (pv 2)
      pa_nil
      (by rfl))
      (by rfl)))) (psx_if (@pt_cmpR _ _ _ _ _ _ _ _ op_eq
      (pv 0)
      pe_int
      (nomark _)) (psx_expr (pex_call Z_turns (hr.mono (by decide)) rfl T.g_turns T.f_turns.kp T.n_turns (@pa_c _ _ _ _ _ (pv 1)
      (@pa_c _ _ _ _ _ (pv 2)
      (@pa_c _ _ _ _ _ (pv 3)
      pa_nil
      (by rfl))
      (by rfl))
      (by rfl)))) (psx_expr (pex_call Z_turns (hr.mono (by decide)) rfl T.g_turns T.f_turns.kp T.n_turns (@pa_c _ _ _ _ _ (pv 1)
      (@pa_c _ _ _ _ _ (pv 3)
      (@pa_c _ _ _ _ _ (pv 2)
      pa_nil
      (by rfl))
      (by rfl))
      (by rfl)))))) (fun _ => (@pss_cons _ _ _ _ _ (@ps_set _ _ (6) _ _ _ _ sc__law_refused.nd
      rfl
      (Or.inl rfl)
      (@pe_lst _ _ _ _ (@pa_c _ _ _ _ _ (pe_callB (call_isX (K := K) rfl (c := .ref a.C_BadSentence) (.inl ⟨_, rfl⟩)) rfl T.b_isinstance PyProof.Rows.Boot.«isinstance» (@pa_cons _ _ _ _ _ (pv 5)
      (@pa_cons _ _ _ _ _ (pe_gc (v := .ref a.C_BadSentence) rfl ⟨_, T.g_BadSentence, rfl⟩)
      pa_nil
      (by rfl))
      (by rfl)))
      (@pa_c _ _ _ _ _ (pe_callB (call_isX (K := K) rfl (c := .ref a.C_BadWorld) (.inl ⟨_, rfl⟩)) rfl T.b_isinstance PyProof.Rows.Boot.«isinstance» (@pa_cons _ _ _ _ _ (pv 5)
      (@pa_cons _ _ _ _ _ (pe_gc (v := .ref a.C_BadWorld) rfl ⟨_, T.g_BadWorld, rfl⟩)
      pa_nil
      (by rfl))
      (by rfl)))
      (@pa_c _ _ _ _ _ (pe_callB (call_isX (K := K) rfl (c := .ref a.C_NoAhead) (.inl ⟨_, rfl⟩)) rfl T.b_isinstance PyProof.Rows.Boot.«isinstance» (@pa_cons _ _ _ _ _ (pv 5)
      (@pa_cons _ _ _ _ _ (pe_gc (v := .ref a.C_NoAhead) rfl ⟨_, T.g_NoAhead, rfl⟩)
      pa_nil
      (by rfl))
      (by rfl)))
      (@pa_c _ _ _ _ _ (pe_callB (call_isX (K := K) rfl (c := .ref a.C_TooMany) (.inl ⟨_, rfl⟩)) rfl T.b_isinstance PyProof.Rows.Boot.«isinstance» (@pa_cons _ _ _ _ _ (pv 5)
      (@pa_cons _ _ _ _ _ (pe_gc (v := .ref a.C_TooMany) rfl ⟨_, T.g_TooMany, rfl⟩)
      pa_nil
      (by rfl))
      (by rfl)))
      pa_nil
      (by rfl))
      (by rfl))
      (by rfl))
      (by rfl)))
      (by rfl)
      (by first | exact .inl rfl | exact .inr rfl | assumption))
      (@pss_cons _ _ _ _ _ (@ps_expr _ _ _ _ (pe_bm PySem.F.plainAttrs_list PySem.F.slot_list_append PySem.F.type_list_append mt_append (pv 6) (@pa_cons _ _ _ _ _ (pe_callB (call_isXT (K := K) rfl (cs := [.ref a.C_BadMachine, .ref a.C_NoLine, .ref a.C_NoText, .ref a.C_NoWorld, .ref a.C_OtherFair]) (ws := [.ref a.C_BadMachine, .ref a.C_NoLine, .ref a.C_NoText, .ref a.C_NoWorld, .ref a.C_OtherFair]) refs5 vals5) rfl T.b_isinstance PyProof.Rows.Boot.«isinstance» (@pa_cons _ _ _ _ _ (pv 5)
      (@pa_cons _ _ _ _ _ (@pe_tup _ _ _ _ _ (@pa_cons _ _ _ _ _ (pe_gc (v := .ref a.C_BadMachine) rfl ⟨_, T.g_BadMachine, rfl⟩)
      (@pa_cons _ _ _ _ _ (pe_gc (v := .ref a.C_NoLine) rfl ⟨_, T.g_NoLine, rfl⟩)
      (@pa_cons _ _ _ _ _ (pe_gc (v := .ref a.C_NoText) rfl ⟨_, T.g_NoText, rfl⟩)
      (@pa_cons _ _ _ _ _ (pe_gc (v := .ref a.C_NoWorld) rfl ⟨_, T.g_NoWorld, rfl⟩)
      (@pa_cons _ _ _ _ _ (pe_gc (v := .ref a.C_OtherFair) rfl ⟨_, T.g_OtherFair, rfl⟩)
      pa_nil
      (by rfl))
      (by rfl))
      (by rfl))
      (by rfl))
      (by rfl)))
      pa_nil
      (by rfl))
      (by rfl)))
      pa_nil
      (by rfl)))
      (by rfl))
      (@pss_one _ _ _ (@ps_set _ _ (4) _ _ _ _ sc__law_refused.nd
      rfl
      (Or.inl rfl)
      (pe_callTy (call_int1) rfl T.b_int PyProof.Rows.Boot.«int» (@pa_cons _ _ _ _ _ (pe_and (pe_callB (call_isX (K := K) rfl (c := .ref a.C_TimeError) (.inl ⟨_, rfl⟩)) rfl T.b_isinstance PyProof.Rows.Boot.«isinstance» (@pa_cons _ _ _ _ _ (pv 5)
      (@pa_cons _ _ _ _ _ (pe_gc (v := .ref a.C_TimeError) rfl ⟨_, T.g_TimeError, rfl⟩)
      pa_nil
      (by rfl))
      (by rfl))) (pe_and (pe_callB (call_isX (K := K) rfl (c := .ty "ValueError") (.inr ⟨_, rfl⟩)) rfl T.b_isinstance PyProof.Rows.Boot.«isinstance» (@pa_cons _ _ _ _ _ (pv 5)
      (@pa_cons _ _ _ _ _ (pe_bltn (v := .ty "ValueError") rfl T.b_ValueError PyProof.Rows.Boot.«ValueError» rfl)
      pa_nil
      (by rfl))
      (by rfl))) (pe_one (@pe_cmpR _ _ _ _ _ _ _ _ (op_notInK (K := K) rfl)
      pe_bl
      (pv 6)
      (by with_unfolding_all rfl)))))
      pa_nil
      (by rfl)))
      (by rfl)
      (by first | exact .inl rfl | exact .inr rfl | assumption)))))) (fun _ => (@pss_cons _ _ _ _ _ (@ps_set _ _ (6) _ _ _ _ sc__law_refused.nd
      rfl
      (Or.inl rfl)
      (@pe_lst _ _ _ _ (@pa_c _ _ _ _ _ (pe_callB (call_isX (K := K) rfl (c := .ref a.C_BadWorld) (.inl ⟨_, rfl⟩)) rfl T.b_isinstance PyProof.Rows.Boot.«isinstance» (@pa_cons _ _ _ _ _ (pv 5)
      (@pa_cons _ _ _ _ _ (pe_gc (v := .ref a.C_BadWorld) rfl ⟨_, T.g_BadWorld, rfl⟩)
      pa_nil
      (by rfl))
      (by rfl)))
      (@pa_c _ _ _ _ _ (pe_callB (call_isX (K := K) rfl (c := .ref a.C_NoAhead) (.inl ⟨_, rfl⟩)) rfl T.b_isinstance PyProof.Rows.Boot.«isinstance» (@pa_cons _ _ _ _ _ (pv 5)
      (@pa_cons _ _ _ _ _ (pe_gc (v := .ref a.C_NoAhead) rfl ⟨_, T.g_NoAhead, rfl⟩)
      pa_nil
      (by rfl))
      (by rfl)))
      (@pa_c _ _ _ _ _ (pe_callB (call_isX (K := K) rfl (c := .ref a.C_TooMany) (.inl ⟨_, rfl⟩)) rfl T.b_isinstance PyProof.Rows.Boot.«isinstance» (@pa_cons _ _ _ _ _ (pv 5)
      (@pa_cons _ _ _ _ _ (pe_gc (v := .ref a.C_TooMany) rfl ⟨_, T.g_TooMany, rfl⟩)
      pa_nil
      (by rfl))
      (by rfl)))
      pa_nil
      (by rfl))
      (by rfl))
      (by rfl)))
      (by rfl)
      (by first | exact .inl rfl | exact .inr rfl | assumption))
      (@pss_one _ _ _ (@ps_set _ _ (4) _ _ _ _ sc__law_refused.nd
      rfl
      (Or.inl rfl)
      (@pe_op _ _ _ _ _ _ _ _ op_mul
      pe_int
      (pe_callTy (call_int1) rfl T.b_int PyProof.Rows.Boot.«int» (@pa_cons _ _ _ _ _ (pe_and (pe_callB (call_isX (K := K) rfl (c := .ref a.C_TimeError) (.inl ⟨_, rfl⟩)) rfl T.b_isinstance PyProof.Rows.Boot.«isinstance» (@pa_cons _ _ _ _ _ (pv 5)
      (@pa_cons _ _ _ _ _ (pe_gc (v := .ref a.C_TimeError) rfl ⟨_, T.g_TimeError, rfl⟩)
      pa_nil
      (by rfl))
      (by rfl))) (pe_and (pe_callB (call_isX (K := K) rfl (c := .ty "ValueError") (.inr ⟨_, rfl⟩)) rfl T.b_isinstance PyProof.Rows.Boot.«isinstance» (@pa_cons _ _ _ _ _ (pv 5)
      (@pa_cons _ _ _ _ _ (pe_bltn (v := .ty "ValueError") rfl T.b_ValueError PyProof.Rows.Boot.«ValueError» rfl)
      pa_nil
      (by rfl))
      (by rfl))) (pe_one (@pe_cmpR _ _ _ _ _ _ _ _ (op_notInK (K := K) rfl)
      pe_bl
      (pv 6)
      (by with_unfolding_all rfl)))))
      pa_nil
      (by rfl))))
      (by rfl)
      (by first | exact .inl rfl | exact .inr rfl | assumption))))))
      (@pss_one _ _ _ (@ps_ret _ _ _ _ (pv 4))))), ?_⟩
    rcases h with ⟨h, k⟩ | ⟨⟨t, u, hv, hg, hb⟩, k⟩
    · have go : (i = 0 ∧ BadV K H v) ∨ (i = 1 ∧ (BadV K H v ∨ ∃ t, GoodV K H v t ∧ BadV K H g)) ∨ (i = 2 ∧ (BadV K H g ∨ ∃ t, GoodV K H g t ∧ BadV K H v)) := by
        rcases (show i = 0 ∨ i = 1 ∨ i = 2 by omega) with z | z | z
        · rcases h with ⟨h, _⟩ | ⟨h, _⟩
          · exact .inl ⟨z, h⟩
          · exact absurd z h
        · rcases h with ⟨h, _⟩ | ⟨_, ⟨t, h⟩, h2⟩
          · exact .inr (.inl ⟨z, .inl h⟩)
          · exact .inr (.inl ⟨z, .inr ⟨t, h, h2⟩⟩)
        · rcases h with ⟨h, h2 | ⟨u, h2⟩⟩ | ⟨_, ⟨t, h⟩, h2⟩
          · exact .inr (.inr ⟨z, .inl h2⟩)
          · exact .inr (.inr ⟨z, .inr ⟨u, h2, h⟩⟩)
          · exact .inr (.inr ⟨z, .inl h2⟩)
      clear h
      rcases go with ⟨rfl, h⟩ | ⟨rfl, h | ⟨t, h, h2⟩⟩ | ⟨rfl, h | ⟨t, h, h2⟩⟩
      · refine ⟨_, rfl, rfl, _, rfl, ite2 (fun _ => ⟨_, rfl, _, rfl, x, v, rfl, .inl ⟨h, fun H2 e s2 => ?_⟩⟩) (fun c => absurd (by decide) c)⟩
        refine ⟨e, a.C_BadSentence, rfl, rfl, .inr ⟨exm_no T.sb_NoBranch T.ne_BS_NB T.nk_BadSentence_NoBranch, T.ex_BadSentence, fun he => ?_⟩⟩
        have s3 : Same H (upd H2 e (XcO e a.C_BadSentence)) := s2.trans (same_upd he)
        generalize hH3 : upd H2 e (XcO e a.C_BadSentence) = H3 at s3 ⊢
        have h3 : H3 e = some (XcO e a.C_BadSentence) := by rw [← hH3, upd_same]
        refine ⟨.ref e, rfl, e, a.C_BadSentence, _, false, rfl, h3, T.k_BadSentence, rfl, T.nk_BadSentence_BadWorld, .ref e, rfl, e, a.C_BadSentence, _, false, rfl, h3, T.k_BadSentence, rfl, T.nk_BadSentence_NoAhead, .ref e, rfl, e, a.C_BadSentence, _, false, rfl, h3, T.k_BadSentence, rfl, T.nk_BadSentence_TooMany, by rw [sizeLine_eq]; exact (by decide : 3 ≤ 16777216), fun l hl => ?_⟩
        obtain ⟨H4, qN, s4, e4⟩ := newE (o := .lst [.bl false, .bl false, .bl false]) hl
        rw [qN]; clear qN
        have h4 := s4 _ _ h3
        refine ⟨.ref e, rfl, e, a.C_BadSentence, _, true, rfl, h4, T.k_BadSentence, rfl, T.i1_BadSentence, true, rfl, iteT ⟨.ref e, rfl, e, a.C_BadSentence, _, true, rfl, h4, T.k_BadSentence, rfl, T.i3_BadSentence, true, rfl, iteT ?_⟩⟩
        refine ⟨_, rfl, l, _, rfl, .inl (SqL.of e4), rfl, rfl, .inr ⟨_, rfl, _, _, rfl, rfl, .inl ⟨by decide, by decide⟩, ?_⟩⟩
        exact ⟨_, rfl, k _ (s3.trans s4)⟩
      · refine ⟨_, rfl, rfl, _, rfl, ite2 (fun c => absurd c (by decide)) (fun _ => ⟨_, rfl, rfl, _, rfl, ite2 (fun _ => ⟨_, rfl, _, rfl, _, rfl, x, v, g, rfl, .inl ⟨h, fun H2 e s2 => ?_⟩⟩) (fun c => absurd (by decide) c)⟩)⟩
        refine ⟨e, a.C_BadSentence, rfl, rfl, .inr ⟨exm_no T.sb_NoBranch T.ne_BS_NB T.nk_BadSentence_NoBranch, T.ex_BadSentence, fun he => ?_⟩⟩
        have s3 : Same H (upd H2 e (XcO e a.C_BadSentence)) := s2.trans (same_upd he)
        generalize hH3 : upd H2 e (XcO e a.C_BadSentence) = H3 at s3 ⊢
        have h3 : H3 e = some (XcO e a.C_BadSentence) := by rw [← hH3, upd_same]
        refine ⟨.ref e, rfl, e, a.C_BadSentence, _, false, rfl, h3, T.k_BadSentence, rfl, T.nk_BadSentence_BadWorld, .ref e, rfl, e, a.C_BadSentence, _, false, rfl, h3, T.k_BadSentence, rfl, T.nk_BadSentence_NoAhead, .ref e, rfl, e, a.C_BadSentence, _, false, rfl, h3, T.k_BadSentence, rfl, T.nk_BadSentence_TooMany, by rw [sizeLine_eq]; exact (by decide : 3 ≤ 16777216), fun l hl => ?_⟩
        obtain ⟨H4, qN, s4, e4⟩ := newE (o := .lst [.bl false, .bl false, .bl false]) hl
        rw [qN]; clear qN
        have h4 := s4 _ _ h3
        refine ⟨.ref e, rfl, e, a.C_BadSentence, _, true, rfl, h4, T.k_BadSentence, rfl, T.i1_BadSentence, true, rfl, iteT ⟨.ref e, rfl, e, a.C_BadSentence, _, true, rfl, h4, T.k_BadSentence, rfl, T.i3_BadSentence, true, rfl, iteT ?_⟩⟩
        refine ⟨_, rfl, l, _, rfl, .inl (SqL.of e4), rfl, rfl, .inr ⟨_, rfl, _, _, rfl, rfl, .inl ⟨by decide, by decide⟩, ?_⟩⟩
        exact ⟨_, rfl, k _ (s3.trans s4)⟩
      · refine ⟨_, rfl, rfl, _, rfl, ite2 (fun c => absurd c (by decide)) (fun _ => ⟨_, rfl, rfl, _, rfl, ite2 (fun _ => ⟨_, rfl, _, rfl, _, rfl, x, v, g, rfl, .inr (.inl ⟨t, h, h2, fun H2 e s2 => ?_⟩)⟩) (fun c => absurd (by decide) c)⟩)⟩
        refine ⟨e, a.C_BadSentence, rfl, rfl, .inr ⟨exm_no T.sb_NoBranch T.ne_BS_NB T.nk_BadSentence_NoBranch, T.ex_BadSentence, fun he => ?_⟩⟩
        have s3 : Same H (upd H2 e (XcO e a.C_BadSentence)) := s2.trans (same_upd he)
        generalize hH3 : upd H2 e (XcO e a.C_BadSentence) = H3 at s3 ⊢
        have h3 : H3 e = some (XcO e a.C_BadSentence) := by rw [← hH3, upd_same]
        refine ⟨.ref e, rfl, e, a.C_BadSentence, _, false, rfl, h3, T.k_BadSentence, rfl, T.nk_BadSentence_BadWorld, .ref e, rfl, e, a.C_BadSentence, _, false, rfl, h3, T.k_BadSentence, rfl, T.nk_BadSentence_NoAhead, .ref e, rfl, e, a.C_BadSentence, _, false, rfl, h3, T.k_BadSentence, rfl, T.nk_BadSentence_TooMany, by rw [sizeLine_eq]; exact (by decide : 3 ≤ 16777216), fun l hl => ?_⟩
        obtain ⟨H4, qN, s4, e4⟩ := newE (o := .lst [.bl false, .bl false, .bl false]) hl
        rw [qN]; clear qN
        have h4 := s4 _ _ h3
        refine ⟨.ref e, rfl, e, a.C_BadSentence, _, true, rfl, h4, T.k_BadSentence, rfl, T.i1_BadSentence, true, rfl, iteT ⟨.ref e, rfl, e, a.C_BadSentence, _, true, rfl, h4, T.k_BadSentence, rfl, T.i3_BadSentence, true, rfl, iteT ?_⟩⟩
        refine ⟨_, rfl, l, _, rfl, .inl (SqL.of e4), rfl, rfl, .inr ⟨_, rfl, _, _, rfl, rfl, .inl ⟨by decide, by decide⟩, ?_⟩⟩
        exact ⟨_, rfl, k _ (s3.trans s4)⟩
      · refine ⟨_, rfl, rfl, _, rfl, ite2 (fun c => absurd c (by decide)) (fun _ => ⟨_, rfl, rfl, _, rfl, ite2 (fun c => absurd c (by decide)) (fun _ => ⟨_, rfl, _, rfl, _, rfl, x, g, v, rfl, .inl ⟨h, fun H2 e s2 => ?_⟩⟩)⟩)⟩
        refine ⟨e, a.C_BadSentence, rfl, rfl, .inr ⟨exm_no T.sb_NoBranch T.ne_BS_NB T.nk_BadSentence_NoBranch, T.ex_BadSentence, fun he => ?_⟩⟩
        have s3 : Same H (upd H2 e (XcO e a.C_BadSentence)) := s2.trans (same_upd he)
        generalize hH3 : upd H2 e (XcO e a.C_BadSentence) = H3 at s3 ⊢
        have h3 : H3 e = some (XcO e a.C_BadSentence) := by rw [← hH3, upd_same]
        refine ⟨.ref e, rfl, e, a.C_BadSentence, _, false, rfl, h3, T.k_BadSentence, rfl, T.nk_BadSentence_BadWorld, .ref e, rfl, e, a.C_BadSentence, _, false, rfl, h3, T.k_BadSentence, rfl, T.nk_BadSentence_NoAhead, .ref e, rfl, e, a.C_BadSentence, _, false, rfl, h3, T.k_BadSentence, rfl, T.nk_BadSentence_TooMany, by rw [sizeLine_eq]; exact (by decide : 3 ≤ 16777216), fun l hl => ?_⟩
        obtain ⟨H4, qN, s4, e4⟩ := newE (o := .lst [.bl false, .bl false, .bl false]) hl
        rw [qN]; clear qN
        have h4 := s4 _ _ h3
        refine ⟨.ref e, rfl, e, a.C_BadSentence, _, true, rfl, h4, T.k_BadSentence, rfl, T.i1_BadSentence, true, rfl, iteT ⟨.ref e, rfl, e, a.C_BadSentence, _, true, rfl, h4, T.k_BadSentence, rfl, T.i3_BadSentence, true, rfl, iteT ?_⟩⟩
        refine ⟨_, rfl, l, _, rfl, .inl (SqL.of e4), rfl, rfl, .inr ⟨_, rfl, _, _, rfl, rfl, .inl ⟨by decide, by decide⟩, ?_⟩⟩
        exact ⟨_, rfl, k _ (s3.trans s4)⟩
      · refine ⟨_, rfl, rfl, _, rfl, ite2 (fun c => absurd c (by decide)) (fun _ => ⟨_, rfl, rfl, _, rfl, ite2 (fun c => absurd c (by decide)) (fun _ => ⟨_, rfl, _, rfl, _, rfl, x, g, v, rfl, .inr (.inl ⟨t, h, h2, fun H2 e s2 => ?_⟩)⟩)⟩)⟩
        refine ⟨e, a.C_BadSentence, rfl, rfl, .inr ⟨exm_no T.sb_NoBranch T.ne_BS_NB T.nk_BadSentence_NoBranch, T.ex_BadSentence, fun he => ?_⟩⟩
        have s3 : Same H (upd H2 e (XcO e a.C_BadSentence)) := s2.trans (same_upd he)
        generalize hH3 : upd H2 e (XcO e a.C_BadSentence) = H3 at s3 ⊢
        have h3 : H3 e = some (XcO e a.C_BadSentence) := by rw [← hH3, upd_same]
        refine ⟨.ref e, rfl, e, a.C_BadSentence, _, false, rfl, h3, T.k_BadSentence, rfl, T.nk_BadSentence_BadWorld, .ref e, rfl, e, a.C_BadSentence, _, false, rfl, h3, T.k_BadSentence, rfl, T.nk_BadSentence_NoAhead, .ref e, rfl, e, a.C_BadSentence, _, false, rfl, h3, T.k_BadSentence, rfl, T.nk_BadSentence_TooMany, by rw [sizeLine_eq]; exact (by decide : 3 ≤ 16777216), fun l hl => ?_⟩
        obtain ⟨H4, qN, s4, e4⟩ := newE (o := .lst [.bl false, .bl false, .bl false]) hl
        rw [qN]; clear qN
        have h4 := s4 _ _ h3
        refine ⟨.ref e, rfl, e, a.C_BadSentence, _, true, rfl, h4, T.k_BadSentence, rfl, T.i1_BadSentence, true, rfl, iteT ⟨.ref e, rfl, e, a.C_BadSentence, _, true, rfl, h4, T.k_BadSentence, rfl, T.i3_BadSentence, true, rfl, iteT ?_⟩⟩
        refine ⟨_, rfl, l, _, rfl, .inl (SqL.of e4), rfl, rfl, .inr ⟨_, rfl, _, _, rfl, rfl, .inl ⟨by decide, by decide⟩, ?_⟩⟩
        exact ⟨_, rfl, k _ (s3.trans s4)⟩
    · rcases (show i = 0 ∨ i = 1 ∨ i = 2 by omega) with rfl | rfl | rfl
      · refine ⟨_, rfl, rfl, _, rfl, ite2 (fun _ => ⟨_, rfl, _, rfl, x, v, rfl, .inr ⟨t, hv, hb, fun H2 e s2 => ?_⟩⟩) (fun c => absurd (by decide) c)⟩
        refine ⟨e, a.C_NoBranch, rfl, rfl, .inl ⟨T.ex_NoBranch, fun he => ?_⟩⟩
        have s3 : Same H (upd H2 e (XcO e a.C_NoBranch)) := s2.trans (same_upd he)
        generalize hH3 : upd H2 e (XcO e a.C_NoBranch) = H3 at s3 ⊢
        have h3 : H3 e = some (XcO e a.C_NoBranch) := by rw [← hH3, upd_same]
        refine ⟨.ref e, rfl, e, a.C_NoBranch, _, false, rfl, h3, T.k_NoBranch, rfl, T.nk_NoBranch_BadSentence, .ref e, rfl, e, a.C_NoBranch, _, false, rfl, h3, T.k_NoBranch, rfl, T.nk_NoBranch_BadWorld, .ref e, rfl, e, a.C_NoBranch, _, false, rfl, h3, T.k_NoBranch, rfl, T.nk_NoBranch_NoAhead, .ref e, rfl, e, a.C_NoBranch, _, false, rfl, h3, T.k_NoBranch, rfl, T.nk_NoBranch_TooMany, by rw [sizeLine_eq]; exact (by decide : 4 ≤ 16777216), fun l hl => ?_⟩
        have l0 : H l = none := s3.free hl
        obtain ⟨H4, qN, s4, e4⟩ := newE (o := .lst [.bl false, .bl false, .bl false, .bl false]) hl
        rw [qN]; clear qN
        have h4 := s4 _ _ h3
        have nel : e ≠ l := fun q => by rw [← q, h3] at hl; cases hl
        refine ⟨_, rfl, .inl ⟨rfl, _, SqL.of e4⟩, .ref e, rfl, by rw [sizeLine_eq]; exact (by decide : 5 ≤ 16777216), fun tp htp => ?_⟩
        obtain ⟨H5, qN, s5, e5⟩ := newE (o := .tup [.ref a.C_BadMachine, .ref a.C_NoLine, .ref a.C_NoText, .ref a.C_NoWorld, .ref a.C_OtherFair]) htp
        rw [qN]; clear qN
        refine ⟨e, a.C_NoBranch, tp, false, rfl, s5 _ _ h4, T.k_NoBranch, e5, T.n5_NoBranch, l, _, _, rfl, rfl, s5 _ _ e4, by rw [sizeLine_eq]; exact (by decide : 4 < 16777216), ?_⟩
        have s6 : Same H (upd H5 l (.lst ([.bl false, .bl false, .bl false, .bl false] ++ [.bl false]))) := (SameX.upd (Same.x (s3.trans (s4.trans s5)))).same l0
        have h6 : (upd H5 l (.lst ([.bl false, .bl false, .bl false, .bl false] ++ [.bl false]))) e = some (XcO e a.C_NoBranch) := by rw [upd_ne nel]; exact s5 _ _ h4
        have e6 : (upd H5 l (.lst ([.bl false, .bl false, .bl false, .bl false] ++ [.bl false]))) l = some (.lst [.bl false, .bl false, .bl false, .bl false, .bl false]) := upd_same
        generalize upd H5 l (.lst ([.bl false, .bl false, .bl false, .bl false] ++ [.bl false])) = H6 at s6 h6 e6 ⊢
        refine ⟨.ref e, rfl, e, a.C_NoBranch, _, true, rfl, h6, T.k_NoBranch, rfl, T.i1_NoBranch, true, rfl, iteT ⟨.ref e, rfl, e, a.C_NoBranch, _, true, rfl, h6, T.k_NoBranch, rfl, T.i3_NoBranch, true, rfl, iteT ?_⟩⟩
        refine ⟨_, rfl, l, _, rfl, .inl (SqL.of e6), rfl, rfl, .inr ⟨_, rfl, ?_⟩⟩
        exact ⟨_, rfl, k _ s6⟩
      · refine ⟨_, rfl, rfl, _, rfl, ite2 (fun c => absurd c (by decide)) (fun _ => ⟨_, rfl, rfl, _, rfl, ite2 (fun _ => ⟨_, rfl, _, rfl, _, rfl, x, v, g, rfl, .inr (.inr ⟨t, u, hv, hg, .inl hb, fun H2 e s2 => ?_⟩)⟩) (fun c => absurd (by decide) c)⟩)⟩
        refine ⟨e, a.C_NoBranch, rfl, rfl, .inl ⟨T.ex_NoBranch, fun he => ?_⟩⟩
        have s3 : Same H (upd H2 e (XcO e a.C_NoBranch)) := s2.trans (same_upd he)
        generalize hH3 : upd H2 e (XcO e a.C_NoBranch) = H3 at s3 ⊢
        have h3 : H3 e = some (XcO e a.C_NoBranch) := by rw [← hH3, upd_same]
        refine ⟨.ref e, rfl, e, a.C_NoBranch, _, false, rfl, h3, T.k_NoBranch, rfl, T.nk_NoBranch_BadSentence, .ref e, rfl, e, a.C_NoBranch, _, false, rfl, h3, T.k_NoBranch, rfl, T.nk_NoBranch_BadWorld, .ref e, rfl, e, a.C_NoBranch, _, false, rfl, h3, T.k_NoBranch, rfl, T.nk_NoBranch_NoAhead, .ref e, rfl, e, a.C_NoBranch, _, false, rfl, h3, T.k_NoBranch, rfl, T.nk_NoBranch_TooMany, by rw [sizeLine_eq]; exact (by decide : 4 ≤ 16777216), fun l hl => ?_⟩
        have l0 : H l = none := s3.free hl
        obtain ⟨H4, qN, s4, e4⟩ := newE (o := .lst [.bl false, .bl false, .bl false, .bl false]) hl
        rw [qN]; clear qN
        have h4 := s4 _ _ h3
        have nel : e ≠ l := fun q => by rw [← q, h3] at hl; cases hl
        refine ⟨_, rfl, .inl ⟨rfl, _, SqL.of e4⟩, .ref e, rfl, by rw [sizeLine_eq]; exact (by decide : 5 ≤ 16777216), fun tp htp => ?_⟩
        obtain ⟨H5, qN, s5, e5⟩ := newE (o := .tup [.ref a.C_BadMachine, .ref a.C_NoLine, .ref a.C_NoText, .ref a.C_NoWorld, .ref a.C_OtherFair]) htp
        rw [qN]; clear qN
        refine ⟨e, a.C_NoBranch, tp, false, rfl, s5 _ _ h4, T.k_NoBranch, e5, T.n5_NoBranch, l, _, _, rfl, rfl, s5 _ _ e4, by rw [sizeLine_eq]; exact (by decide : 4 < 16777216), ?_⟩
        have s6 : Same H (upd H5 l (.lst ([.bl false, .bl false, .bl false, .bl false] ++ [.bl false]))) := (SameX.upd (Same.x (s3.trans (s4.trans s5)))).same l0
        have h6 : (upd H5 l (.lst ([.bl false, .bl false, .bl false, .bl false] ++ [.bl false]))) e = some (XcO e a.C_NoBranch) := by rw [upd_ne nel]; exact s5 _ _ h4
        have e6 : (upd H5 l (.lst ([.bl false, .bl false, .bl false, .bl false] ++ [.bl false]))) l = some (.lst [.bl false, .bl false, .bl false, .bl false, .bl false]) := upd_same
        generalize upd H5 l (.lst ([.bl false, .bl false, .bl false, .bl false] ++ [.bl false])) = H6 at s6 h6 e6 ⊢
        refine ⟨.ref e, rfl, e, a.C_NoBranch, _, true, rfl, h6, T.k_NoBranch, rfl, T.i1_NoBranch, true, rfl, iteT ⟨.ref e, rfl, e, a.C_NoBranch, _, true, rfl, h6, T.k_NoBranch, rfl, T.i3_NoBranch, true, rfl, iteT ?_⟩⟩
        refine ⟨_, rfl, l, _, rfl, .inl (SqL.of e6), rfl, rfl, .inr ⟨_, rfl, ?_⟩⟩
        exact ⟨_, rfl, k _ s6⟩
      · refine ⟨_, rfl, rfl, _, rfl, ite2 (fun c => absurd c (by decide)) (fun _ => ⟨_, rfl, rfl, _, rfl, ite2 (fun c => absurd c (by decide)) (fun _ => ⟨_, rfl, _, rfl, _, rfl, x, g, v, rfl, .inr (.inr ⟨u, t, hg, hv, .inr hb, fun H2 e s2 => ?_⟩)⟩)⟩)⟩
        refine ⟨e, a.C_NoBranch, rfl, rfl, .inl ⟨T.ex_NoBranch, fun he => ?_⟩⟩
        have s3 : Same H (upd H2 e (XcO e a.C_NoBranch)) := s2.trans (same_upd he)
        generalize hH3 : upd H2 e (XcO e a.C_NoBranch) = H3 at s3 ⊢
        have h3 : H3 e = some (XcO e a.C_NoBranch) := by rw [← hH3, upd_same]
        refine ⟨.ref e, rfl, e, a.C_NoBranch, _, false, rfl, h3, T.k_NoBranch, rfl, T.nk_NoBranch_BadSentence, .ref e, rfl, e, a.C_NoBranch, _, false, rfl, h3, T.k_NoBranch, rfl, T.nk_NoBranch_BadWorld, .ref e, rfl, e, a.C_NoBranch, _, false, rfl, h3, T.k_NoBranch, rfl, T.nk_NoBranch_NoAhead, .ref e, rfl, e, a.C_NoBranch, _, false, rfl, h3, T.k_NoBranch, rfl, T.nk_NoBranch_TooMany, by rw [sizeLine_eq]; exact (by decide : 4 ≤ 16777216), fun l hl => ?_⟩
        have l0 : H l = none := s3.free hl
        obtain ⟨H4, qN, s4, e4⟩ := newE (o := .lst [.bl false, .bl false, .bl false, .bl false]) hl
        rw [qN]; clear qN
        have h4 := s4 _ _ h3
        have nel : e ≠ l := fun q => by rw [← q, h3] at hl; cases hl
        refine ⟨_, rfl, .inl ⟨rfl, _, SqL.of e4⟩, .ref e, rfl, by rw [sizeLine_eq]; exact (by decide : 5 ≤ 16777216), fun tp htp => ?_⟩
        obtain ⟨H5, qN, s5, e5⟩ := newE (o := .tup [.ref a.C_BadMachine, .ref a.C_NoLine, .ref a.C_NoText, .ref a.C_NoWorld, .ref a.C_OtherFair]) htp
        rw [qN]; clear qN
        refine ⟨e, a.C_NoBranch, tp, false, rfl, s5 _ _ h4, T.k_NoBranch, e5, T.n5_NoBranch, l, _, _, rfl, rfl, s5 _ _ e4, by rw [sizeLine_eq]; exact (by decide : 4 < 16777216), ?_⟩
        have s6 : Same H (upd H5 l (.lst ([.bl false, .bl false, .bl false, .bl false] ++ [.bl false]))) := (SameX.upd (Same.x (s3.trans (s4.trans s5)))).same l0
        have h6 : (upd H5 l (.lst ([.bl false, .bl false, .bl false, .bl false] ++ [.bl false]))) e = some (XcO e a.C_NoBranch) := by rw [upd_ne nel]; exact s5 _ _ h4
        have e6 : (upd H5 l (.lst ([.bl false, .bl false, .bl false, .bl false] ++ [.bl false]))) l = some (.lst [.bl false, .bl false, .bl false, .bl false, .bl false]) := upd_same
        generalize upd H5 l (.lst ([.bl false, .bl false, .bl false, .bl false] ++ [.bl false])) = H6 at s6 h6 e6 ⊢
        refine ⟨.ref e, rfl, e, a.C_NoBranch, _, true, rfl, h6, T.k_NoBranch, rfl, T.i1_NoBranch, true, rfl, iteT ⟨.ref e, rfl, e, a.C_NoBranch, _, true, rfl, h6, T.k_NoBranch, rfl, T.i3_NoBranch, true, rfl, iteT ?_⟩⟩
        refine ⟨_, rfl, l, _, rfl, .inl (SqL.of e6), rfl, rfl, .inr ⟨_, rfl, ?_⟩⟩
        exact ⟨_, rfl, k _ s6⟩
end KK

set_option Elab.async false
set_option linter.all false
set_option maxRecDepth 100000
set_option maxHeartbeats 8000000
namespace KK
open PySem PySem.Spec L2 L3
theorem iteNe {x : V} [Decidable (x = x)] {A B : Prop} (h : B) : if (!decide (x = x)) = true then A else B := by rw [decide_eq_true rfl]; exact iteF h
theorem BdS.bad {K : PySem.W.Frag} {H : Hp} {v : V} {S : Nat} (h : BdS K H v S) (hS : S ≤ 1000000) : BadV K H v := by
  obtain ⟨b, n, h1, h2, h3⟩ := h; exact ⟨b, n, h1, h2, by omega⟩
def sp_law (K : PySem.W.Frag) (a : Adr) : Sp := fun vs H Q _ => ∃ (p : Addr) (ns : List Int), vs = [.ref p] ∧ SqL K H p (ns.map V.int) ∧ ns.length ≤ 63 ∧ ∀ H', Q (.bl true) H'
theorem ok_law {P : Program} {w : World} {K : PySem.W.Frag} {mg : Str → Option Value} {base : Heap} {a : Adr} (T : Txt K mg a) (hw : w.params = a.Pm) : FnOk P w K mg base CX0 9 a.law a.law_fd ["_law_script"] (sp_law K a) := by
  have G__law_cell_at := ok__law_cell_at (P := P) (w := w) (base := base) T hw
  have G__law_stream := ok__law_stream (P := P) (w := w) (base := base) T hw
  have G__law_world := ok__law_world (P := P) (w := w) (base := base) T hw
  have G__law_made := ok__law_made (P := P) (w := w) (base := base) T hw
  have G__law_branch := ok__law_branch (P := P) (w := w) (base := base) T hw 4
  have G__law_none := ok__law_none (P := P) (w := w) (base := base) T hw
  have G__law_bad := ok__law_bad (P := P) (w := w) (base := base) T hw
  have G__law_put_in := ok__law_put_in (P := P) (w := w) (base := base) T hw
  have G__law_refused := ok__law_refused (P := P) (w := w) (base := base) T hw
  refine T.f_law.ok sc_law (fun vs H Q E h => ?_) (fun cdv A outer s H vs Q E hr h => ?_)
  · obtain ⟨p, ns, rfl, _⟩ := h
    rfl
  · obtain ⟨p, cs, rfl, hq, hz, k⟩ := h
    refine ⟨_, (@pss_cons _ _ _ _ _ (@ps_set _ _ (1) _ _ _ _ sc_law.nd
      rfl
      (Or.inl rfl)
      (pe_call G__law_world (hr.mono (by decide)) rfl T.g__law_world T.f__law_world.kp T.n__law_world .nil pass0 (@pa_cons _ _ _ _ _ (pv 0)
      pa_nil
      (by rfl)))
      (by rfl)
      (by first | exact .inl rfl | exact .inr rfl | assumption))
      (@pss_cons _ _ _ _ _ (@ps_set _ _ (2) _ _ _ _ sc_law.nd
      rfl
      (Or.inl rfl)
      (pe_call G__law_made (hr.mono (by decide)) rfl T.g__law_made T.f__law_made.kp T.n__law_made .nil pass0 (@pa_cons _ _ _ _ _ (pv 1)
      pa_nil
      (by rfl)))
      (by rfl)
      (by first | exact .inl rfl | exact .inr rfl | assumption))
      (@pss_cons _ _ _ _ _ (@ps_set _ _ (3) _ _ _ _ sc_law.nd
      rfl
      (Or.inl rfl)
      (pe_call G__law_stream (hr.mono (by decide)) rfl T.g__law_stream T.f__law_stream.kp T.n__law_stream .nil pass0 (@pa_cons _ _ _ _ _ (pe_call G__law_cell_at (hr.mono (by decide)) rfl T.g__law_cell_at T.f__law_cell_at.kp T.n__law_cell_at .nil pass0 (@pa_cons _ _ _ _ _ (pv 0)
      (@pa_cons _ _ _ _ _ pe_int
      pa_nil
      (by rfl))
      (by rfl)))
      (@pa_cons _ _ _ _ _ pe_int
      pa_nil
      (by rfl))
      (by rfl)))
      (by rfl)
      (by first | exact .inl rfl | exact .inr rfl | assumption))
      (@pss_cons _ _ _ _ _ (@ps_set _ _ (4) _ _ _ _ sc_law.nd
      rfl
      (Or.inl rfl)
      (pe_call G__law_branch (hr.mono (by decide)) rfl T.g__law_branch T.f__law_branch.kp T.n__law_branch .nil pass0 (@pa_c _ _ _ _ _ (@pe_ix _ _ _ _ _ _ _ (ix_tupK (K := K) rfl)
      (pv 1)
      pe_int
      (fun _ _ => rfl))
      (@pa_c _ _ _ _ _ (pv 3)
      (@pa_c _ _ _ _ _ pe_int
      pa_nil
      (by rfl))
      (by rfl))
      (by rfl)))
      (by rfl)
      (by first | exact .inl rfl | exact .inr rfl | assumption))
      (@pss_cons _ _ _ _ _ (@ps_set _ _ (5) _ _ _ _ sc_law.nd
      rfl
      (Or.inl rfl)
      (pe_call G__law_put_in (hr.mono (by decide)) rfl T.g__law_put_in T.f__law_put_in.kp T.n__law_put_in .nil pass0 (@pa_c _ _ _ _ _ (@pe_ix _ _ _ _ _ _ _ (ix_tupK (K := K) rfl)
      (pv 1)
      pe_int
      (fun _ _ => rfl))
      (@pa_c _ _ _ _ _ (pv 3)
      (@pa_c _ _ _ _ _ (pe_call G__law_none (hr.mono (by decide)) rfl T.g__law_none T.f__law_none.kp T.n__law_none .nil pass0 (@pa_cons _ _ _ _ _ (@pe_ix _ _ _ _ _ _ _ (ix_tupK (K := K) rfl)
      (pv 1)
      pe_int
      (fun _ _ => rfl))
      (@pa_cons _ _ _ _ _ (pv 3)
      pa_nil
      (by rfl))
      (by rfl)))
      pa_nil
      (by rfl))
      (by rfl))
      (by rfl)))
      (by rfl)
      (by first | exact .inl rfl | exact .inr rfl | assumption))
      (@pss_cons _ _ _ _ _ (@ps_set _ _ (6) _ _ _ _ sc_law.nd
      rfl
      (Or.inl rfl)
      (pe_call G__law_put_in (hr.mono (by decide)) rfl T.g__law_put_in T.f__law_put_in.kp T.n__law_put_in .nil pass0 (@pa_c _ _ _ _ _ (@pe_ix _ _ _ _ _ _ _ (ix_tupK (K := K) rfl)
      (pv 1)
      pe_int
      (fun _ _ => rfl))
      (@pa_c _ _ _ _ _ (pv 3)
      (@pa_c _ _ _ _ _ (pe_call G__law_bad (hr.mono (by decide)) rfl T.g__law_bad T.f__law_bad.kp T.n__law_bad .nil pass0 (@pa_cons _ _ _ _ _ (@pe_ix _ _ _ _ _ _ _ (ix_tupK (K := K) rfl)
      (pv 1)
      pe_int
      (fun _ _ => rfl))
      (@pa_cons _ _ _ _ _ (pv 3)
      pa_nil
      (by rfl))
      (by rfl)))
      pa_nil
      (by rfl))
      (by rfl))
      (by rfl)))
      (by rfl)
      (by first | exact .inl rfl | exact .inr rfl | assumption))
      (@pss_cons _ _ _ _ _ (ps_for PassesOwn.never rfl (pi_range1 rfl T.b_range (@pa_cons _ _ _ _ _ pe_int
      pa_nil
      (by rfl))) (pg_name (i := 7) sc_law.nd rfl (Or.inl rfl)) (@pss_cons _ _ _ _ _ (@ps_if _ _ _ _ _ _ _ _ (PW.pt (pw_or (@pt_cmpR _ _ _ _ _ _ _ _ op_ne
      (pe_call G__law_refused (hr.mono (by decide)) rfl T.g__law_refused T.f__law_refused.kp T.n__law_refused .nil pass0 (@pa_c _ _ _ _ _ (pv 7)
      (@pa_c _ _ _ _ _ (pv 2)
      (@pa_c _ _ _ _ _ (pv 5)
      (@pa_c _ _ _ _ _ (pv 4)
      pa_nil
      (by rfl))
      (by rfl))
      (by rfl))
      (by rfl)))
      pe_int
      (nomark _)) (pw_or1 (@pt_cmpR _ _ _ _ _ _ _ _ op_ne
      (pe_call G__law_refused (hr.mono (by decide)) rfl T.g__law_refused T.f__law_refused.kp T.n__law_refused .nil pass0 (@pa_c _ _ _ _ _ (pv 7)
      (@pa_c _ _ _ _ _ (pv 2)
      (@pa_c _ _ _ _ _ (pv 6)
      (@pa_c _ _ _ _ _ (pv 4)
      pa_nil
      (by rfl))
      (by rfl))
      (by rfl))
      (by rfl)))
      pe_int
      (nomark _)))))
      (@pss_one _ _ _ (@ps_ret _ _ _ _ pe_bl))
      pss_nil)
      (@pss_cons _ _ _ _ _ (@ps_set _ _ (8) _ _ _ _ sc_law.nd
      rfl
      (Or.inl rfl)
      (@pe_tup _ _ _ _ _ (@pa_cons _ _ _ _ _ pe_str
      (@pa_cons _ _ _ _ _ (@pe_tup _ _ _ _ _ (@pa_cons _ _ _ _ _ (pv 5)
      (@pa_cons _ _ _ _ _ (pv 6)
      pa_nil
      (by rfl))
      (by rfl)))
      pa_nil
      (by rfl))
      (by rfl)))
      (by rfl)
      (by first | exact .inl rfl | exact .inr rfl | assumption))
      (@pss_cons _ _ _ _ _ (@ps_set _ _ (9) _ _ _ _ sc_law.nd
      rfl
      (Or.inl rfl)
      (@pe_tup _ _ _ _ _ (@pa_cons _ _ _ _ _ pe_str
      (@pa_cons _ _ _ _ _ (@pe_tup _ _ _ _ _ (@pa_cons _ _ _ _ _ (pv 6)
      (@pa_cons _ _ _ _ _ (pv 5)
      pa_nil
      (by rfl))
      (by rfl)))
      pa_nil
      (by rfl))
      (by rfl)))
      (by rfl)
      (by first | exact .inl rfl | exact .inr rfl | assumption))
      (@pss_one _ _ _ (@ps_if _ _ _ _ _ _ _ _ (PW.pt (pw_or (@pt_cmpR _ _ _ _ _ _ _ _ op_ne
      (pe_call G__law_refused (hr.mono (by decide)) rfl T.g__law_refused T.f__law_refused.kp T.n__law_refused .nil pass0 (@pa_c _ _ _ _ _ (pv 7)
      (@pa_c _ _ _ _ _ (pv 2)
      (@pa_c _ _ _ _ _ (pv 8)
      (@pa_c _ _ _ _ _ (pv 5)
      pa_nil
      (by rfl))
      (by rfl))
      (by rfl))
      (by rfl)))
      pe_int
      (nomark _)) (pw_or1 (@pt_cmpR _ _ _ _ _ _ _ _ op_ne
      (pe_call G__law_refused (hr.mono (by decide)) rfl T.g__law_refused T.f__law_refused.kp T.n__law_refused .nil pass0 (@pa_c _ _ _ _ _ (pv 7)
      (@pa_c _ _ _ _ _ (pv 2)
      (@pa_c _ _ _ _ _ (pv 9)
      (@pa_c _ _ _ _ _ (pv 5)
      pa_nil
      (by rfl))
      (by rfl))
      (by rfl))
      (by rfl)))
      pe_int
      (nomark _)))))
      (@pss_one _ _ _ (@ps_ret _ _ _ _ pe_bl))
      pss_nil))))))
      (@pss_one _ _ _ (@ps_ret _ _ _ _ (pe_and (@pe_cmpR _ _ _ _ _ _ _ _ op_eq
      (pe_call G__law_refused (hr.mono (by decide)) rfl T.g__law_refused T.f__law_refused.kp T.n__law_refused .nil pass0 (@pa_c _ _ _ _ _ pe_int
      (@pa_c _ _ _ _ _ (pv 2)
      (@pa_c _ _ _ _ _ (pv 5)
      (@pa_c _ _ _ _ _ (pv 6)
      pa_nil
      (by rfl))
      (by rfl))
      (by rfl))
      (by rfl)))
      pe_int
      (nomark _)) (pe_one (@pe_cmpR _ _ _ _ _ _ _ _ op_eq
      (pe_call G__law_refused (hr.mono (by decide)) rfl T.g__law_refused T.f__law_refused.kp T.n__law_refused .nil pass0 (@pa_c _ _ _ _ _ pe_int
      (@pa_c _ _ _ _ _ (pv 2)
      (@pa_c _ _ _ _ _ (pv 5)
      (@pa_c _ _ _ _ _ (pv 6)
      pa_nil
      (by rfl))
      (by rfl))
      (by rfl))
      (by rfl)))
      pe_int
      (nomark _))))))))))))), ?_⟩
    refine ⟨_, rfl, p, cs, rfl, hq, fun H1 t s w st f nm d nn s1 ht pv gd hnm ln nnm => ?_⟩
    refine ⟨_, rfl, t, s, w, st, f, .ref nm, d, rfl, ht, pv, gd, fun H2 o s2 o0 wa => ?_⟩
    have ht2 := s2 _ _ ht
    have hnm2 := s2 _ _ hnm
    refine ⟨_, rfl, p, cs, 2, rfl, (s1.trans s2).seq hq, fun n2 => ⟨n2, 40, rfl, by decide, fun H3 X xs s3 X0 hX lx => ?_⟩⟩
    have ht3 := s3 _ _ ht2
    have hnm3 := s3 _ _ hnm2
    have nX : nm ≠ X := fun z => by rw [← z, hnm2] at X0; cases X0
    have ntX : t ≠ X := fun z => by rw [← z, ht2] at X0; cases X0
    clear ht ht2 hnm hnm2 wa pv gd hq s1 s2 s3
    refine ⟨_, rfl, t, _, _, _, rfl, rfl, SqT.of ht3, atI_nat (j := 4) rfl, _, rfl, nm, X, nn, xs, 2, rfl, by decide, by decide, hnm3, ln, nnm, nX, hX, fun H4 gv tg xs4 y4 hX4 atg szg => ?_⟩
    have szg : (post tg).length ≤ 125 := szg
    have ht4 := y4 _ _ ntX ht3
    have hnm4 := y4 _ _ nX hnm3
    refine ⟨_, rfl, t, _, _, _, rfl, rfl, SqT.of ht4, atI_nat (j := 4) rfl, _, rfl, _, rfl, t, _, _, _, rfl, rfl, SqT.of ht4, atI_nat (j := 4) rfl, _, rfl, nm, X, nn, xs4, rfl, hnm4, ln, nnm, nX, hX4, fun H5 v5 t5 xs5 y5 hX5 at5 sz5 bk5 => ?_⟩
    have hnm5 := y5 _ _ nX hnm4
    refine ⟨nm, X, nn, xs5, v5, rfl, hnm5, ln, nnm, nX, hX5, fun H6 nv xs6 y6 hX6 _ toN => ?_⟩
    obtain ⟨tn, kn, atn, szn, bkn⟩ := toN ⟨t5, _, at5, sz5, bk5⟩
    clear toN at5 sz5 bk5
    have y46 := y5.trans y6
    have ht6 := y46 _ _ ntX ht4
    have hnm6 := y46 _ _ nX hnm4
    have atg6 := atg.mono (SameX.tup y46 hX4)
    refine ⟨_, rfl, t, _, _, _, rfl, rfl, SqT.of ht6, atI_nat (j := 4) rfl, _, rfl, _, rfl, t, _, _, _, rfl, rfl, SqT.of ht6, atI_nat (j := 4) rfl, _, rfl, nm, X, nn, xs6, rfl, hnm6, ln, nnm, nX, hX6, fun H7 v7 b7 xs7 y7 hX7 at7 hb7 sz7 => ?_⟩
    have hnm7 := y7 _ _ nX hnm6
    refine ⟨nm, X, nn, xs7, v7, rfl, hnm7, ln, nnm, nX, hX7, fun H8 bv xs8 y8 hX8 toB _ => ?_⟩
    have hbd := toB ⟨b7, 4, at7.mono hide_sub, hb7, by omega⟩
    clear toB at7 hb7 sz7
    have y68 := y7.trans y8
    have t68 := SameX.tup y68 hX6
    have gG : GoodV K H8 gv tg := ⟨⟨_, atg6.mono t68⟩, by omega⟩
    have gN : GoodV K H8 nv tn := ⟨⟨_, atn.mono t68⟩, by omega⟩
    have bB : BadV K H8 bv := hbd.bad (by decide)
    obtain ⟨bb, nb, hb1, hb2, hb3⟩ := hbd
    have atn8 := atn.mono t68
    clear atg atg6 atn t68 y68 y7 y8 y46 y5 y6 y4 hX4 hX5 hX6 hX7 hX ht3 hnm3 ht4 hnm4 hnm5 ht6 hnm6 hnm7
    refine ⟨_, rfl, by decide, by decide, ?_⟩
    refine for_gen (J := Itr 0 3) (n := 3) (fun i σ G => ∃ z7 z8 z9 : Option V, σ = [some (.ref p), some (.ref t), some (.ref o), some (.ref X), some gv, some nv, some bv, z7, z8, z9] ∧ Same H8 G) ?_ (fun _ _ _ h _ => h) (fun _ _ _ => Nat.le_refl _) ?_ ?_
    · exact ⟨_, _, _, rfl, .refl _⟩
    · rintro i x σ G0 G hi ⟨z7, z8, z9, rfl, sG⟩ ⟨rfl, rfl⟩
      have ei : (0 : Int) + (i : Int) = ((i : Nat) : Int) := Int.zero_add _
      rw [ei]
      refine ⟨_, rfl, _, rfl, _, rfl, _, rfl, i, _, nv, gv, rfl, hi, .inr ⟨⟨tn, tg, gN.mono sG, gG.mono sG, bkn⟩, fun G1 u1 => ⟨rfl, _, rfl, iteNe ?_⟩⟩⟩
      have v1 := sG.trans u1
      refine ⟨_, rfl, _, rfl, _, rfl, _, rfl, i, _, bv, gv, rfl, hi, .inl ⟨.inl ⟨bB.mono v1, .inr ⟨tg, gG.mono v1⟩⟩, fun G2 u2 => ⟨rfl, _, rfl, iteNe ?_⟩⟩⟩
      have v2 := v1.trans u2
      refine ⟨_, rfl, _, rfl, by rw [sizeLine_eq]; exact (by decide : 2 ≤ 16777216), fun q1 h1 => ?_⟩
      obtain ⟨G3, qN, u3, e3⟩ := newE (o := .tup [nv, bv]) h1
      rw [qN]; clear qN
      refine ⟨by rw [sizeLine_eq]; exact (by decide : 2 ≤ 16777216), fun q2 h2 => ?_⟩
      obtain ⟨G4, qN, u4, e4⟩ := newE (o := .tup [.str "and", .ref q1]) h2
      rw [qN]; clear qN
      refine ⟨_, rfl, _, rfl, by rw [sizeLine_eq]; exact (by decide : 2 ≤ 16777216), fun q3 h3 => ?_⟩
      obtain ⟨G5, qN, u5, e5⟩ := newE (o := .tup [bv, nv]) h3
      rw [qN]; clear qN
      refine ⟨by rw [sizeLine_eq]; exact (by decide : 2 ≤ 16777216), fun q4 h4 => ?_⟩
      obtain ⟨G6, qN, u6, e6⟩ := newE (o := .tup [.str "or", .ref q3]) h4
      rw [qN]; clear qN
      have v6 := v2.trans (u3.trans (u4.trans (u5.trans u6)))
      have n6 := (atn8.mono (Same.tup v6)).bat.le (Nat.le_add_right kn nb)
      have b6 := (hb1.mono v6).le (Nat.le_add_left nb kn)
      have nz : bsz (bOf tn) ≤ 200 := by rw [bsz_bOf]; exact szn
      have f1 : BadV K G6 (.ref q2) := ⟨_, _, b_mny2 (SqT.of ((u5.trans u6) _ _ e4)) (SqT.of ((u4.trans (u5.trans u6)) _ _ e3)) n6 b6 (.inl rfl), by simp [hasBad, hasBadL, hb2], by simp [bsz, bszL]; omega⟩
      have f2 : BadV K G6 (.ref q4) := ⟨_, _, b_mny2 (SqT.of e6) (SqT.of (u6 _ _ e5)) b6 n6 (.inr rfl), by simp [hasBad, hasBadL, hb2], by simp [bsz, bszL]; omega⟩
      refine ⟨_, rfl, _, rfl, _, rfl, _, rfl, i, _, .ref q2, nv, rfl, hi, .inl ⟨.inl ⟨f1, .inr ⟨tn, gN.mono v6⟩⟩, fun G7 u7 => ⟨rfl, _, rfl, iteNe ?_⟩⟩⟩
      refine ⟨_, rfl, _, rfl, _, rfl, _, rfl, i, _, .ref q4, nv, rfl, hi, .inl ⟨.inl ⟨f2.mono u7, .inr ⟨tn, gN.mono (v6.trans u7)⟩⟩, fun G8 u8 => ⟨rfl, _, rfl, iteNe ?_⟩⟩⟩
      exact ⟨_, _, _, rfl, v6.trans (u7.trans u8)⟩
    rintro σ G ⟨z7, z8, z9, rfl, sG⟩
    refine ⟨_, rfl, _, rfl, _, rfl, 1, _, nv, bv, rfl, by decide, .inl ⟨.inr ⟨by decide, ⟨tn, gN.mono sG⟩, bB.mono sG⟩, fun G1 u1 => ⟨rfl, _, rfl, ite2 (fun _ => ?_) (fun c => absurd (by decide) c)⟩⟩⟩
    have v1 := sG.trans u1
    refine ⟨_, rfl, _, rfl, _, rfl, 2, _, nv, bv, rfl, by decide, .inl ⟨.inr ⟨by decide, ⟨tn, gN.mono v1⟩, bB.mono v1⟩, fun G2 u2 => ⟨rfl, qD rfl (k _)⟩⟩⟩
end KK

set_option Elab.async false
set_option linter.all false
set_option maxRecDepth 100000
set_option maxHeartbeats 4000000
namespace KK
open PySem PySem.Spec L2 L3
theorem ar1 {α : Type} {P : List α → Prop} (h : ∀ a, P [a]) : ∀ us : List α, us.length = 1 → P us
  | [a], _ => h a
theorem ar2 {α : Type} {P : List α → Prop} (h : ∀ a b, P [a, b]) : ∀ us : List α, us.length = 2 → P us
  | [a, b], _ => h a b
theorem ar3 {α : Type} {P : List α → Prop} (h : ∀ a b c, P [a, b, c]) : ∀ us : List α, us.length = 3 → P us
  | [a, b, c], _ => h a b c
theorem ar4 {α : Type} {P : List α → Prop} (h : ∀ a b c d, P [a, b, c, d]) : ∀ us : List α, us.length = 4 → P us
  | [a, b, c, d], _ => h a b c d
theorem ar5 {α : Type} {P : List α → Prop} (h : ∀ a b c d e, P [a, b, c, d, e]) : ∀ us : List α, us.length = 5 → P us
  | [a, b, c, d, e], _ => h a b c d e
def spL (K : PySem.W.Frag) : Sp := fun vs H Q _ => ∃ (p : Addr) (ns : List Int), vs = [.ref p] ∧ SqL K H p (ns.map V.int) ∧ ns.length ≤ 63 ∧ ∀ H', Q (.bl true) H'
theorem all_mk {l : PySem.W.OpenLaw} {w : World} {K : PySem.W.Frag} {h : Heap} {mg : Str → Option Value} {fa : Addr} (X : K.In h) (G : h.Ns mainGlobals mg) (hfa : mg "law" = some (.ref fa))
    {f0 f1 f2 f3 f4 f5 f6 f7 f8 f9 f10 f11 f12 f13 f14 f15 f16 f17 f18 f19 f20 f21 f22 f23 f24 f25 f26 f27 f28 f29 f30 f31 f32 : Addr}
    {C_World C_TimeError C_BadWorld C_BadSentence C_BadMachine C_TooMany C_NoBranch C_OtherFair C_NoAhead C_NoText C_NoLine C_NoWorld : Addr}
    {od0 an0 od1 an1 od2 an2 od3 an3 od4 an4 od5 an5 od6 an6 od7 an7 od8 an8 od9 an9 od10 an10 od11 an11 od12 an12 od13 an13 od14 an14 od15 an15 od16 an16 od17 an17 od18 an18 od19 an19 od20 an20 od21 an21 od22 an22 od23 an23 od24 an24 od25 an25 od26 an26 od27 an27 od28 an28 od29 an29 od30 an30 od31 an31 od32 an32 : Option Addr}
    {sl0 sl1 sl2 sl3 sl4 sl5 sl6 sl7 sl8 sl9 sl10 sl11 sl12 sl13 sl14 sl15 sl16 sl17 sl18 sl19 sl20 sl21 sl22 sl23 sl24 sl25 sl26 sl27 sl28 sl29 sl30 sl31 sl32 : Array (Option Value)}
    {oc0 kV0 dc0 pm0 cd0 ct0 oc1 kV1 dc1 pm1 cd1 ct1 oc2 kV2 dc2 pm2 cd2 ct2 oc3 kV3 dc3 pm3 cd3 ct3 oc4 kV4 dc4 pm4 cd4 ct4 oc5 kV5 dc5 pm5 cd5 ct5 oc6 kV6 dc6 pm6 cd6 ct6 oc7 kV7 dc7 pm7 cd7 ct7 oc8 kV8 dc8 pm8 cd8 ct8 oc9 kV9 dc9 pm9 cd9 ct9 oc10 kV10 dc10 pm10 cd10 ct10 oc11 kV11 dc11 pm11 cd11 ct11 oc12 kV12 dc12 pm12 cd12 ct12 oc13 kV13 dc13 pm13 cd13 ct13 oc14 kV14 dc14 pm14 cd14 ct14 oc15 kV15 dc15 pm15 cd15 ct15 oc16 kV16 dc16 pm16 cd16 ct16 oc17 kV17 dc17 pm17 cd17 ct17 oc18 kV18 dc18 pm18 cd18 ct18 oc19 kV19 dc19 pm19 cd19 ct19 oc20 kV20 dc20 pm20 cd20 ct20 oc21 kV21 dc21 pm21 cd21 ct21 oc22 kV22 dc22 pm22 cd22 ct22 oc23 kV23 dc23 pm23 cd23 ct23 oc24 kV24 dc24 pm24 cd24 ct24 oc25 kV25 dc25 pm25 cd25 ct25 oc26 kV26 dc26 pm26 cd26 ct26 oc27 kV27 dc27 pm27 cd27 ct27 oc28 kV28 dc28 pm28 cd28 ct28 oc29 kV29 dc29 pm29 cd29 ct29 oc30 kV30 dc30 pm30 cd30 ct30 oc31 kV31 dc31 pm31 cd31 ct31 oc32 kV32 dc32 pm32 cd32 ct32 : Value}
    {D_LENGTHS : Addr} {es_LENGTHS : Array DictEntry} {nn_LENGTHS : Nat} {dt_LENGTHS_0 dt_LENGTHS_1 dt_LENGTHS_2 dt_LENGTHS_3 dt_LENGTHS_4 dt_LENGTHS_5 dt_LENGTHS_6 dt_LENGTHS_7 dt_LENGTHS_8 dt_LENGTHS_9 dt_LENGTHS_10 : Tok}
    {tk_LETTERS tk_MOST_LETTERS tk_MOST_WITHIN tk_MOST_ROOMS tk_MOST_FAIR : Tok}
    {Y_WAY_WORDS : Addr} {yd_WAY_WORDS : Option Addr} {yl_WAY_WORDS : Array (Option Value)} {yn_WAY_WORDS : Nat} {yt_WAY_WORDS_0 yt_WAY_WORDS_1 yt_WAY_WORDS_2 yt_WAY_WORDS_3 yt_WAY_WORDS_4 : Tok}
    (v85 : PySem.W.nsIn K mainGlobals "World" = some (some (.ref C_World)))
    (v27 : PySem.W.nsIn K mainGlobals "TimeError" = some (some (.ref C_TimeError)))
    (v49 : PySem.W.nsIn K mainGlobals "BadWorld" = some (some (.ref C_BadWorld)))
    (v18 : PySem.W.nsIn K mainGlobals "BadSentence" = some (some (.ref C_BadSentence)))
    (v24 : PySem.W.nsIn K mainGlobals "BadMachine" = some (some (.ref C_BadMachine)))
    (v70 : PySem.W.nsIn K mainGlobals "TooMany" = some (some (.ref C_TooMany)))
    (v50 : PySem.W.nsIn K mainGlobals "NoBranch" = some (some (.ref C_NoBranch)))
    (v28 : PySem.W.nsIn K mainGlobals "OtherFair" = some (some (.ref C_OtherFair)))
    (v71 : PySem.W.nsIn K mainGlobals "NoAhead" = some (some (.ref C_NoAhead)))
    (v80 : PySem.W.nsIn K mainGlobals "NoText" = some (some (.ref C_NoText)))
    (v81 : PySem.W.nsIn K mainGlobals "NoLine" = some (some (.ref C_NoLine)))
    (v72 : PySem.W.nsIn K mainGlobals "NoWorld" = some (some (.ref C_NoWorld)))
    (a0 : PySem.W.nsIn K mainGlobals "is_whole" = some (some (.ref f0)))
    (l0 : K.lookup f0 = some ⟨oc0, od0, .func (PySem.W.fnOf "is_whole" "is_whole" (defArgs s_is_whole) (defBody s_is_whole) (defScope s_is_whole) .none kV0 dc0 pm0 an0 cd0 ct0), sl0⟩)
    (c0 : PySem.W.codeIn K cd0 "is_whole" = true)
    (k0 : PySem.W.keepIn K (.ref f0) = true)
    (a1 : PySem.W.nsIn K mainGlobals "is_name" = some (some (.ref f1)))
    (l1 : K.lookup f1 = some ⟨oc1, od1, .func (PySem.W.fnOf "is_name" "is_name" (defArgs s_is_name) (defBody s_is_name) (defScope s_is_name) .none kV1 dc1 pm1 an1 cd1 ct1), sl1⟩)
    (c1 : PySem.W.codeIn K cd1 "is_name" = true)
    (k1 : PySem.W.keepIn K (.ref f1) = true)
    (a2 : PySem.W.nsIn K mainGlobals "is_room" = some (some (.ref f2)))
    (l2 : K.lookup f2 = some ⟨oc2, od2, .func (PySem.W.fnOf "is_room" "is_room" (defArgs s_is_room) (defBody s_is_room) (defScope s_is_room) .none kV2 dc2 pm2 an2 cd2 ct2), sl2⟩)
    (c2 : PySem.W.codeIn K cd2 "is_room" = true)
    (k2 : PySem.W.keepIn K (.ref f2) = true)
    (a3 : PySem.W.nsIn K mainGlobals "are_names" = some (some (.ref f3)))
    (l3 : K.lookup f3 = some ⟨oc3, od3, .func (PySem.W.fnOf "are_names" "are_names" (defArgs s_are_names) (defBody s_are_names) (defScope s_are_names) .none kV3 dc3 pm3 an3 cd3 ct3), sl3⟩)
    (c3 : PySem.W.codeIn K cd3 "are_names" = true)
    (k3 : PySem.W.keepIn K (.ref f3) = true)
    (a4 : PySem.W.nsIn K mainGlobals "are_rooms" = some (some (.ref f4)))
    (l4 : K.lookup f4 = some ⟨oc4, od4, .func (PySem.W.fnOf "are_rooms" "are_rooms" (defArgs s_are_rooms) (defBody s_are_rooms) (defScope s_are_rooms) .none kV4 dc4 pm4 an4 cd4 ct4), sl4⟩)
    (c4 : PySem.W.codeIn K cd4 "are_rooms" = true)
    (k4 : PySem.W.keepIn K (.ref f4) = true)
    (a5 : PySem.W.nsIn K mainGlobals "last_ones" = some (some (.ref f5)))
    (l5 : K.lookup f5 = some ⟨oc5, od5, .func (PySem.W.fnOf "last_ones" "last_ones" (defArgs s_last_ones) (defBody s_last_ones) (defScope s_last_ones) .none kV5 dc5 pm5 an5 cd5 ct5), sl5⟩)
    (c5 : PySem.W.codeIn K cd5 "last_ones" = true)
    (k5 : PySem.W.keepIn K (.ref f5) = true)
    (a6 : PySem.W.nsIn K mainGlobals "is_formed" = some (some (.ref f6)))
    (l6 : K.lookup f6 = some ⟨oc6, od6, .func (PySem.W.fnOf "is_formed" "is_formed" (defArgs s_is_formed) (defBody s_is_formed) (defScope s_is_formed) .none kV6 dc6 pm6 an6 cd6 ct6), sl6⟩)
    (c6 : PySem.W.codeIn K cd6 "is_formed" = true)
    (k6 : PySem.W.keepIn K (.ref f6) = true)
    (a7 : PySem.W.nsIn K mainGlobals "inner_of" = some (some (.ref f7)))
    (l7 : K.lookup f7 = some ⟨oc7, od7, .func (PySem.W.fnOf "inner_of" "inner_of" (defArgs s_inner_of) (defBody s_inner_of) (defScope s_inner_of) .none kV7 dc7 pm7 an7 cd7 ct7), sl7⟩)
    (c7 : PySem.W.codeIn K cd7 "inner_of" = true)
    (k7 : PySem.W.keepIn K (.ref f7) = true)
    (a8 : PySem.W.nsIn K mainGlobals "inner_ahead" = some (some (.ref f8)))
    (l8 : K.lookup f8 = some ⟨oc8, od8, .func (PySem.W.fnOf "inner_ahead" "inner_ahead" (defArgs s_inner_ahead) (defBody s_inner_ahead) (defScope s_inner_ahead) .none kV8 dc8 pm8 an8 cd8 ct8), sl8⟩)
    (c8 : PySem.W.codeIn K cd8 "inner_ahead" = true)
    (k8 : PySem.W.keepIn K (.ref f8) = true)
    (a9 : PySem.W.nsIn K mainGlobals "rooms_by_sets" = some (some (.ref f9)))
    (l9 : K.lookup f9 = some ⟨oc9, od9, .func (PySem.W.fnOf "rooms_by_sets" "rooms_by_sets" (defArgs s_rooms_by_sets) (defBody s_rooms_by_sets) (defScope s_rooms_by_sets) .none kV9 dc9 pm9 an9 cd9 ct9), sl9⟩)
    (c9 : PySem.W.codeIn K cd9 "rooms_by_sets" = true)
    (k9 : PySem.W.keepIn K (.ref f9) = true)
    (a10 : PySem.W.nsIn K mainGlobals "turns" = some (some (.ref f10)))
    (l10 : K.lookup f10 = some ⟨oc10, od10, .func (PySem.W.fnOf "turns" "turns" (defArgs s_turns) (defBody s_turns) (defScope s_turns) .none kV10 dc10 pm10 an10 cd10 ct10), sl10⟩)
    (c10 : PySem.W.codeIn K cd10 "turns" = true)
    (k10 : PySem.W.keepIn K (.ref f10) = true)
    (a11 : PySem.W.nsIn K mainGlobals "refuse_others" = some (some (.ref f11)))
    (l11 : K.lookup f11 = some ⟨oc11, od11, .func (PySem.W.fnOf "refuse_others" "refuse_others" (defArgs s_refuse_others) (defBody s_refuse_others) (defScope s_refuse_others) .none kV11 dc11 pm11 an11 cd11 ct11), sl11⟩)
    (c11 : PySem.W.codeIn K cd11 "refuse_others" = true)
    (k11 : PySem.W.keepIn K (.ref f11) = true)
    (a12 : PySem.W.nsIn K mainGlobals "branch_kind" = some (some (.ref f12)))
    (l12 : K.lookup f12 = some ⟨oc12, od12, .func (PySem.W.fnOf "branch_kind" "branch_kind" (defArgs s_branch_kind) (defBody s_branch_kind) (defScope s_branch_kind) .none kV12 dc12 pm12 an12 cd12 ct12), sl12⟩)
    (c12 : PySem.W.codeIn K cd12 "branch_kind" = true)
    (k12 : PySem.W.keepIn K (.ref f12) = true)
    (a13 : PySem.W.findIn K (.ref C_World) "__init__" = some (some (.ref f13)))
    (i13 : PySem.W.isFn K (.ref f13) = true)
    (l13 : K.lookup f13 = some ⟨oc13, od13, .func (PySem.W.fnOf "__init__" "World.__init__" (defArgs s_World_init) (defBody s_World_init) (defScope s_World_init) .none kV13 dc13 pm13 an13 cd13 ct13), sl13⟩)
    (c13 : PySem.W.codeIn K cd13 "World.__init__" = true)
    (k13 : PySem.W.keepIn K (.ref f13) = true)
    (a14 : PySem.W.findIn K (.ref C_World) "many" = some (some (.ref f14)))
    (i14 : PySem.W.isFn K (.ref f14) = true)
    (l14 : K.lookup f14 = some ⟨oc14, od14, .func (PySem.W.fnOf "many" "World.many" (defArgs s_World_many) (defBody s_World_many) (defScope s_World_many) .none kV14 dc14 pm14 an14 cd14 ct14), sl14⟩)
    (c14 : PySem.W.codeIn K cd14 "World.many" = true)
    (k14 : PySem.W.keepIn K (.ref f14) = true)
    (a15 : PySem.W.findIn K (.ref C_World) "signs_of" = some (some (.ref f15)))
    (i15 : PySem.W.isFn K (.ref f15) = true)
    (l15 : K.lookup f15 = some ⟨oc15, od15, .func (PySem.W.fnOf "signs_of" "World.signs_of" (defArgs s_World_signs_of) (defBody s_World_signs_of) (defScope s_World_signs_of) .none kV15 dc15 pm15 an15 cd15 ct15), sl15⟩)
    (c15 : PySem.W.codeIn K cd15 "World.signs_of" = true)
    (k15 : PySem.W.keepIn K (.ref f15) = true)
    (a16 : PySem.W.findIn K (.ref C_World) "ways_on" = some (some (.ref f16)))
    (i16 : PySem.W.isFn K (.ref f16) = true)
    (l16 : K.lookup f16 = some ⟨oc16, od16, .func (PySem.W.fnOf "ways_on" "World.ways_on" (defArgs s_World_ways_on) (defBody s_World_ways_on) (defScope s_World_ways_on) .none kV16 dc16 pm16 an16 cd16 ct16), sl16⟩)
    (c16 : PySem.W.codeIn K cd16 "World.ways_on" = true)
    (k16 : PySem.W.keepIn K (.ref f16) = true)
    (a17 : PySem.W.findIn K (.ref C_World) "begins" = some (some (.ref f17)))
    (i17 : PySem.W.isFn K (.ref f17) = true)
    (l17 : K.lookup f17 = some ⟨oc17, od17, .func (PySem.W.fnOf "begins" "World.begins" (defArgs s_World_begins) (defBody s_World_begins) (defScope s_World_begins) .none kV17 dc17 pm17 an17 cd17 ct17), sl17⟩)
    (c17 : PySem.W.codeIn K cd17 "World.begins" = true)
    (k17 : PySem.W.keepIn K (.ref f17) = true)
    (a18 : PySem.W.findIn K (.ref C_World) "fair_signs" = some (some (.ref f18)))
    (i18 : PySem.W.isFn K (.ref f18) = true)
    (l18 : K.lookup f18 = some ⟨oc18, od18, .func (PySem.W.fnOf "fair_signs" "World.fair_signs" (defArgs s_World_fair_signs) (defBody s_World_fair_signs) (defScope s_World_fair_signs) .none kV18 dc18 pm18 an18 cd18 ct18), sl18⟩)
    (c18 : PySem.W.codeIn K cd18 "World.fair_signs" = true)
    (k18 : PySem.W.keepIn K (.ref f18) = true)
    (a19 : PySem.W.nsIn K mainGlobals "makes_world" = some (some (.ref f19)))
    (l19 : K.lookup f19 = some ⟨oc19, od19, .func (PySem.W.fnOf "makes_world" "makes_world" (defArgs s_makes_world) (defBody s_makes_world) (defScope s_makes_world) .none kV19 dc19 pm19 an19 cd19 ct19), sl19⟩)
    (c19 : PySem.W.codeIn K cd19 "makes_world" = true)
    (k19 : PySem.W.keepIn K (.ref f19) = true)
    (a20 : PySem.W.nsIn K mainGlobals "are_some_rooms" = some (some (.ref f20)))
    (l20 : K.lookup f20 = some ⟨oc20, od20, .func (PySem.W.fnOf "are_some_rooms" "are_some_rooms" (defArgs s_are_some_rooms) (defBody s_are_some_rooms) (defScope s_are_some_rooms) .none kV20 dc20 pm20 an20 cd20 ct20), sl20⟩)
    (c20 : PySem.W.codeIn K cd20 "are_some_rooms" = true)
    (k20 : PySem.W.keepIn K (.ref f20) = true)
    (a21 : PySem.W.nsIn K mainGlobals "_law_cell_at" = some (some (.ref f21)))
    (l21 : K.lookup f21 = some ⟨oc21, od21, .func (PySem.W.fnOf "_law_cell_at" "_law_cell_at" (defArgs s__law_cell_at) (defBody s__law_cell_at) (defScope s__law_cell_at) .none kV21 dc21 pm21 an21 cd21 ct21), sl21⟩)
    (c21 : PySem.W.codeIn K cd21 "_law_cell_at" = true)
    (k21 : PySem.W.keepIn K (.ref f21) = true)
    (a22 : PySem.W.nsIn K mainGlobals "_law_stream" = some (some (.ref f22)))
    (l22 : K.lookup f22 = some ⟨oc22, od22, .func (PySem.W.fnOf "_law_stream" "_law_stream" (defArgs s__law_stream) (defBody s__law_stream) (defScope s__law_stream) .none kV22 dc22 pm22 an22 cd22 ct22), sl22⟩)
    (c22 : PySem.W.codeIn K cd22 "_law_stream" = true)
    (k22 : PySem.W.keepIn K (.ref f22) = true)
    (a23 : PySem.W.nsIn K mainGlobals "_law_names" = some (some (.ref f23)))
    (l23 : K.lookup f23 = some ⟨oc23, od23, .func (PySem.W.fnOf "_law_names" "_law_names" (defArgs s__law_names) (defBody s__law_names) (defScope s__law_names) .none kV23 dc23 pm23 an23 cd23 ct23), sl23⟩)
    (c23 : PySem.W.codeIn K cd23 "_law_names" = true)
    (k23 : PySem.W.keepIn K (.ref f23) = true)
    (a24 : PySem.W.nsIn K mainGlobals "_law_world" = some (some (.ref f24)))
    (l24 : K.lookup f24 = some ⟨oc24, od24, .func (PySem.W.fnOf "_law_world" "_law_world" (defArgs s__law_world) (defBody s__law_world) (defScope s__law_world) .none kV24 dc24 pm24 an24 cd24 ct24), sl24⟩)
    (c24 : PySem.W.codeIn K cd24 "_law_world" = true)
    (k24 : PySem.W.keepIn K (.ref f24) = true)
    (a25 : PySem.W.nsIn K mainGlobals "_law_made" = some (some (.ref f25)))
    (l25 : K.lookup f25 = some ⟨oc25, od25, .func (PySem.W.fnOf "_law_made" "_law_made" (defArgs s__law_made) (defBody s__law_made) (defScope s__law_made) .none kV25 dc25 pm25 an25 cd25 ct25), sl25⟩)
    (c25 : PySem.W.codeIn K cd25 "_law_made" = true)
    (k25 : PySem.W.keepIn K (.ref f25) = true)
    (a26 : PySem.W.nsIn K mainGlobals "_law_next" = some (some (.ref f26)))
    (l26 : K.lookup f26 = some ⟨oc26, od26, .func (PySem.W.fnOf "_law_next" "_law_next" (defArgs s__law_next) (defBody s__law_next) (defScope s__law_next) .none kV26 dc26 pm26 an26 cd26 ct26), sl26⟩)
    (c26 : PySem.W.codeIn K cd26 "_law_next" = true)
    (k26 : PySem.W.keepIn K (.ref f26) = true)
    (a27 : PySem.W.nsIn K mainGlobals "_law_branch" = some (some (.ref f27)))
    (l27 : K.lookup f27 = some ⟨oc27, od27, .func (PySem.W.fnOf "_law_branch" "_law_branch" (defArgs s__law_branch) (defBody s__law_branch) (defScope s__law_branch) .none kV27 dc27 pm27 an27 cd27 ct27), sl27⟩)
    (c27 : PySem.W.codeIn K cd27 "_law_branch" = true)
    (k27 : PySem.W.keepIn K (.ref f27) = true)
    (a28 : PySem.W.nsIn K mainGlobals "_law_none" = some (some (.ref f28)))
    (l28 : K.lookup f28 = some ⟨oc28, od28, .func (PySem.W.fnOf "_law_none" "_law_none" (defArgs s__law_none) (defBody s__law_none) (defScope s__law_none) .none kV28 dc28 pm28 an28 cd28 ct28), sl28⟩)
    (c28 : PySem.W.codeIn K cd28 "_law_none" = true)
    (k28 : PySem.W.keepIn K (.ref f28) = true)
    (a29 : PySem.W.nsIn K mainGlobals "_law_bad" = some (some (.ref f29)))
    (l29 : K.lookup f29 = some ⟨oc29, od29, .func (PySem.W.fnOf "_law_bad" "_law_bad" (defArgs s__law_bad) (defBody s__law_bad) (defScope s__law_bad) .none kV29 dc29 pm29 an29 cd29 ct29), sl29⟩)
    (c29 : PySem.W.codeIn K cd29 "_law_bad" = true)
    (k29 : PySem.W.keepIn K (.ref f29) = true)
    (a30 : PySem.W.nsIn K mainGlobals "_law_put_in" = some (some (.ref f30)))
    (l30 : K.lookup f30 = some ⟨oc30, od30, .func (PySem.W.fnOf "_law_put_in" "_law_put_in" (defArgs s__law_put_in) (defBody s__law_put_in) (defScope s__law_put_in) .none kV30 dc30 pm30 an30 cd30 ct30), sl30⟩)
    (c30 : PySem.W.codeIn K cd30 "_law_put_in" = true)
    (k30 : PySem.W.keepIn K (.ref f30) = true)
    (a31 : PySem.W.nsIn K mainGlobals "_law_refused" = some (some (.ref f31)))
    (l31 : K.lookup f31 = some ⟨oc31, od31, .func (PySem.W.fnOf "_law_refused" "_law_refused" (defArgs s__law_refused) (defBody s__law_refused) (defScope s__law_refused) .none kV31 dc31 pm31 an31 cd31 ct31), sl31⟩)
    (c31 : PySem.W.codeIn K cd31 "_law_refused" = true)
    (k31 : PySem.W.keepIn K (.ref f31) = true)
    (a32 : PySem.W.nsIn K mainGlobals "law" = some (some (.ref f32)))
    (l32 : K.lookup f32 = some ⟨oc32, od32, .func (PySem.W.fnOf "law" "law" (defArgs s_law) (defBody s_law) (defScope s_law) .none kV32 dc32 pm32 an32 cd32 ct32), sl32⟩)
    (c32 : PySem.W.codeIn K cd32 "law" = true)
    (k32 : PySem.W.keepIn K (.ref f32) = true)
    (v86 : PySem.W.plainGet K C_World Str.empty = true)
    (v87 : PySem.W.hasDictIn K C_World = true)
    (v88 : PySem.W.plainOver K C_World = true)
    (v89 : PySem.W.findIn K (.ref C_World) "__setattr__" = some (some (.builtin "object.__setattr__")))
    (v90 : PySem.W.makesIn K C_World = true)
    (v91 : PySem.W.keepIn K (.ref C_World) = true)
    (v92 : PySem.W.findIn K (.ref C_World) "__class__" = some (some (.builtin "object.__class__")))
    (v93 : PySem.W.specialIn K (.builtin "object.__class__") "__get__" = some (some (.builtin "getset_descriptor.__get__")))
    (v94 : PySem.W.takesIn K (.builtin "object.__class__") = some true)
    (v95 : PySem.W.mroIn K C_World (.type "object") = some true)
    (v9 : PySem.W.findIn K (.ref C_World) "room_signs" = some none)
    (v11 : PySem.W.findIn K (.ref C_World) "room_ways" = some none)
    (v6 : PySem.W.findIn K (.ref C_World) "start_rooms" = some none)
    (v10 : PySem.W.findIn K (.ref C_World) "fair_names" = some none)
    (v29 : PySem.W.nsIn K mainGlobals "ValueError" = some none)
    (v105 : PySem.W.nsIn K mainGlobals "all" = some none)
    (v106 : PySem.W.nsIn K mainGlobals "sum" = some none)
    (v107 : PySem.W.nsIn K mainGlobals "len" = some none)
    (v100 : PySem.W.nsIn K mainGlobals "range" = some none)
    (v30 : PySem.W.nsIn K mainGlobals "isinstance" = some none)
    (v108 : PySem.W.nsIn K mainGlobals "int" = some none)
    (v103 : PySem.W.nsIn K mainGlobals "list" = some none)
    (v101 : PySem.W.nsIn K mainGlobals "tuple" = some none)
    (v104 : PySem.W.nsIn K mainGlobals "bool" = some none)
    (v109 : PySem.W.nsIn K mainGlobals "str" = some none)
    (v110 : PySem.W.nsIn K mainGlobals "set" = some none)
    (v96 : PySem.W.nsIn K mainGlobals "sorted" = some none)
    (v51 : PySem.W.nsIn K mainGlobals "enumerate" = some none)
    (v82 : PySem.W.nsIn K mainGlobals "LETTERS" = some (some (.str "abcdefghijklmnopqrstuvwxyz" tk_LETTERS)))
    (v19 : PySem.W.nsIn K mainGlobals "MOST_LETTERS" = some (some (.int 8 tk_MOST_LETTERS)))
    (v25 : PySem.W.nsIn K mainGlobals "MOST_WITHIN" = some (some (.int 5 tk_MOST_WITHIN)))
    (v31 : PySem.W.nsIn K mainGlobals "MOST_ROOMS" = some (some (.int 20 tk_MOST_ROOMS)))
    (v52 : PySem.W.nsIn K mainGlobals "MOST_FAIR" = some (some (.int 3 tk_MOST_FAIR)))
    (v73 : PySem.W.nsIn K mainGlobals "LENGTHS" = some (some (.ref D_LENGTHS)))
    (v74 : K.lookup D_LENGTHS = some ⟨.type "dict", none, .dict es_LENGTHS nn_LENGTHS, #[]⟩)
    (v75 : PySem.W.KeysLit w.params es_LENGTHS.toList)
    (v53 : PySem.W.nsIn K D_LENGTHS "all" = some (some (.int 2 dt_LENGTHS_0)))
    (v54 : PySem.W.nsIn K D_LENGTHS "some" = some (some (.int 2 dt_LENGTHS_1)))
    (v55 : PySem.W.nsIn K D_LENGTHS "not" = some (some (.int 2 dt_LENGTHS_2)))
    (v56 : PySem.W.nsIn K D_LENGTHS "next" = some (some (.int 2 dt_LENGTHS_3)))
    (v57 : PySem.W.nsIn K D_LENGTHS "always" = some (some (.int 2 dt_LENGTHS_4)))
    (v58 : PySem.W.nsIn K D_LENGTHS "ever" = some (some (.int 2 dt_LENGTHS_5)))
    (v59 : PySem.W.nsIn K D_LENGTHS "before" = some (some (.int 2 dt_LENGTHS_6)))
    (v60 : PySem.W.nsIn K D_LENGTHS "once" = some (some (.int 2 dt_LENGTHS_7)))
    (v61 : PySem.W.nsIn K D_LENGTHS "sofar" = some (some (.int 2 dt_LENGTHS_8)))
    (v62 : PySem.W.nsIn K D_LENGTHS "until" = some (some (.int 3 dt_LENGTHS_9)))
    (v32 : PySem.W.nsIn K D_LENGTHS "since" = some (some (.int 3 dt_LENGTHS_10)))
    (v76 : (D_LENGTHS == sysModules) = false)
    (v33 : PySem.W.nsIn K mainGlobals "WAY_WORDS" = some (some (.ref Y_WAY_WORDS)))
    (v34 : K.lookup Y_WAY_WORDS = some ⟨.type "tuple", yd_WAY_WORDS, .seq #[.str "next" yt_WAY_WORDS_0, .str "until" yt_WAY_WORDS_1, .str "always" yt_WAY_WORDS_2, .str "ever" yt_WAY_WORDS_3, .str "within" yt_WAY_WORDS_4] yn_WAY_WORDS, yl_WAY_WORDS⟩)
    (v35 : PySem.W.excIn K C_TimeError [.type "ValueError", .type "Exception", .type "BaseException", .type "object"] "ValueError.__new__" = true)
    (v63 : PySem.W.excIn K C_BadWorld [.type "ValueError", .type "Exception", .type "BaseException", .type "object"] "ValueError.__new__" = true)
    (v20 : PySem.W.excIn K C_BadSentence [.type "ValueError", .type "Exception", .type "BaseException", .type "object"] "ValueError.__new__" = true)
    (v26 : PySem.W.excIn K C_BadMachine [.type "ValueError", .type "Exception", .type "BaseException", .type "object"] "ValueError.__new__" = true)
    (v77 : PySem.W.excIn K C_TooMany [.type "ValueError", .type "Exception", .type "BaseException", .type "object"] "ValueError.__new__" = true)
    (v64 : PySem.W.excIn K C_NoBranch [.type "ValueError", .type "Exception", .type "BaseException", .type "object"] "ValueError.__new__" = true)
    (v36 : PySem.W.excIn K C_OtherFair [.type "ValueError", .type "Exception", .type "BaseException", .type "object"] "ValueError.__new__" = true)
    (v78 : PySem.W.excIn K C_NoAhead [.type "ValueError", .type "Exception", .type "BaseException", .type "object"] "ValueError.__new__" = true)
    (v83 : PySem.W.excIn K C_NoText [.type "ValueError", .type "Exception", .type "BaseException", .type "object"] "ValueError.__new__" = true)
    (v84 : PySem.W.excIn K C_NoLine [.type "ValueError", .type "Exception", .type "BaseException", .type "object"] "ValueError.__new__" = true)
    (v79 : PySem.W.excIn K C_NoWorld [.type "ValueError", .type "Exception", .type "BaseException", .type "object"] "ValueError.__new__" = true)
    (xgt : PySem.W.specialIn K (.builtin "object.__class__") "__get__" = some (some (.builtin "getset_descriptor.__get__")))
    (xtk : PySem.W.takesIn K (.builtin "object.__class__") = some true)
    (v37 : PySem.W.findIn K (.ref C_BadWorld) "__getattribute__" = some (some (.builtin "BaseException.__getattribute__")))
    (v38 : PySem.W.findIn K (.ref C_BadWorld) "__getattr__" = some none)
    (v39 : PySem.W.mroIn K C_BadWorld (.type "object") = some true)
    (v40 : PySem.W.mroIn K C_BadWorld (.type "BaseException") = some true)
    (v41 : PySem.W.findIn K (.ref C_BadWorld) "__class__" = some (some (.builtin "object.__class__")))
    (v42 : PySem.W.hasDictIn K C_BadWorld = true)
    (v12 : PySem.W.findIn K (.ref C_BadSentence) "__getattribute__" = some (some (.builtin "BaseException.__getattribute__")))
    (v13 : PySem.W.findIn K (.ref C_BadSentence) "__getattr__" = some none)
    (v14 : PySem.W.mroIn K C_BadSentence (.type "object") = some true)
    (v15 : PySem.W.mroIn K C_BadSentence (.type "BaseException") = some true)
    (v16 : PySem.W.findIn K (.ref C_BadSentence) "__class__" = some (some (.builtin "object.__class__")))
    (v17 : PySem.W.hasDictIn K C_BadSentence = true)
    (v43 : PySem.W.findIn K (.ref C_NoBranch) "__getattribute__" = some (some (.builtin "BaseException.__getattribute__")))
    (v44 : PySem.W.findIn K (.ref C_NoBranch) "__getattr__" = some none)
    (v45 : PySem.W.mroIn K C_NoBranch (.type "object") = some true)
    (v46 : PySem.W.mroIn K C_NoBranch (.type "BaseException") = some true)
    (v47 : PySem.W.findIn K (.ref C_NoBranch) "__class__" = some (some (.builtin "object.__class__")))
    (v48 : PySem.W.hasDictIn K C_NoBranch = true)
    (v97 : PySem.W.nsIn K D_LENGTHS "signs" = some none)
    (v102 : PySem.W.nsIn K D_LENGTHS "Next" = some none)
    (v98 : PySem.W.nsIn K D_LENGTHS "maybe" = some none)
    (v65 : PySem.W.exmOne K (.ref C_NoBranch) (.ref C_NoBranch) = some true)
    (v21 : PySem.W.exmOne K (.ref C_BadSentence) (.ref C_BadSentence) = some true)
    (v66 : PySem.W.subIn K (.ref C_NoBranch) (.type "BaseException") = some true)
    (v99 : (Value.ref C_BadSentence == Value.ref C_NoBranch) = false)
    (v0 : PySem.W.kitOne K (.ref C_BadSentence) (.ref C_NoBranch) = some false)
    (v1 : PySem.W.kitOne K (.ref C_NoBranch) (.ref C_BadSentence) = some false)
    (v5 : PySem.W.kitOne K (.ref C_NoBranch) (.ref C_BadWorld) = some false)
    (v7 : PySem.W.kitOne K (.ref C_NoBranch) (.ref C_NoAhead) = some false)
    (v8 : PySem.W.kitOne K (.ref C_NoBranch) (.ref C_TooMany) = some false)
    (v2 : PySem.W.kitOne K (.ref C_BadSentence) (.ref C_BadWorld) = some false)
    (v3 : PySem.W.kitOne K (.ref C_BadSentence) (.ref C_NoAhead) = some false)
    (v4 : PySem.W.kitOne K (.ref C_BadSentence) (.ref C_TooMany) = some false)
    (v67 : PySem.W.kitAny K (.ref C_NoBranch) [.ref C_BadMachine, .ref C_NoLine, .ref C_NoText, .ref C_NoWorld, .ref C_OtherFair] = some false)
    (v68 : PySem.W.kitOne K (.ref C_NoBranch) (.ref C_TimeError) = some true)
    (v69 : PySem.W.kitOne K (.ref C_NoBranch) (.type "ValueError") = some true)
    (v22 : PySem.W.kitOne K (.ref C_BadSentence) (.ref C_TimeError) = some true)
    (v23 : PySem.W.kitOne K (.ref C_BadSentence) (.type "ValueError") = some true) :
    ∃ fd : FuncData, (∀ (s : Shared) (v : Value), BindsTo s fd ⟨[v], []⟩ [("_law_script", v)]) ∧ ∀ base : Heap, K.In base → base.Ns mainGlobals mg → FnOk l.prog w K mg base CX0 9 fa fd ["_law_script"] (spL K) := by
  have e := hfa.symm.trans (PySem.W.mg_of X G a32)
  cases e
  have T : Txt K mg { is_whole := f0, is_whole_fd := _, is_name := f1, is_name_fd := _, is_room := f2, is_room_fd := _, are_names := f3, are_names_fd := _, are_rooms := f4, are_rooms_fd := _, last_ones := f5, last_ones_fd := _, is_formed := f6, is_formed_fd := _, inner_of := f7, inner_of_fd := _, inner_ahead := f8, inner_ahead_fd := _, rooms_by_sets := f9, rooms_by_sets_fd := _, turns := f10, turns_fd := _, refuse_others := f11, refuse_others_fd := _, branch_kind := f12, branch_kind_fd := _, World_init := f13, World_init_fd := _, World_many := f14, World_many_fd := _, World_signs_of := f15, World_signs_of_fd := _, World_ways_on := f16, World_ways_on_fd := _, World_begins := f17, World_begins_fd := _, World_fair_signs := f18, World_fair_signs_fd := _, makes_world := f19, makes_world_fd := _, are_some_rooms := f20, are_some_rooms_fd := _, _law_cell_at := f21, _law_cell_at_fd := _, _law_stream := f22, _law_stream_fd := _, _law_names := f23, _law_names_fd := _, _law_world := f24, _law_world_fd := _, _law_made := f25, _law_made_fd := _, _law_next := f26, _law_next_fd := _, _law_branch := f27, _law_branch_fd := _, _law_none := f28, _law_none_fd := _, _law_bad := f29, _law_bad_fd := _, _law_put_in := f30, _law_put_in_fd := _, _law_refused := f31, _law_refused_fd := _, law := fa, law_fd := _, C_TimeError := C_TimeError, C_BadWorld := C_BadWorld, C_BadSentence := C_BadSentence, C_BadMachine := C_BadMachine, C_TooMany := C_TooMany, C_NoBranch := C_NoBranch, C_OtherFair := C_OtherFair, C_NoAhead := C_NoAhead, C_NoText := C_NoText, C_NoLine := C_NoLine, C_NoWorld := C_NoWorld, C_World := C_World, D_LENGTHS := D_LENGTHS, Pm := w.params, Y_WAY_WORDS := Y_WAY_WORDS } := {
    g_WAY_WORDS := PySem.W.mg_of X G v33,
    y_WAY_WORDS := fun H => .inr ⟨_, _, _, v34, rfl, rfl, (by rw [sizeLine_eq]; simp), .cons ⟨_, rfl⟩ (.cons ⟨_, rfl⟩ (.cons ⟨_, rfl⟩ (.cons ⟨_, rfl⟩ (.cons ⟨_, rfl⟩ (.nil)))))⟩,
    g_LENGTHS := PySem.W.mg_of X G v73,
    d_LENGTHS := ⟨⟨_, _, v74, v75⟩, fun p hp => by
      simp only [List.mem_cons, List.not_mem_nil, or_false] at hp
      rcases hp with rfl | rfl | rfl | rfl | rfl | rfl | rfl | rfl | rfl | rfl | rfl
      · exact ⟨_, v53⟩
      · exact ⟨_, v54⟩
      · exact ⟨_, v55⟩
      · exact ⟨_, v56⟩
      · exact ⟨_, v57⟩
      · exact ⟨_, v58⟩
      · exact ⟨_, v59⟩
      · exact ⟨_, v60⟩
      · exact ⟨_, v61⟩
      · exact ⟨_, v62⟩
      · exact ⟨_, v32⟩, v76⟩,
    f_is_whole := fun_mk (st := s_is_whole) l0 c0 k0,
    n_is_whole := (fun_mk (st := s_is_whole) l0 c0 k0).binds (ps := ["thing"]) (fun _ _ _ _ _ _ => ar1 fun _ => rfl),
    g_is_whole := PySem.W.mg_of X G a0,
    f_is_name := fun_mk (st := s_is_name) l1 c1 k1,
    n_is_name := (fun_mk (st := s_is_name) l1 c1 k1).binds (ps := ["thing"]) (fun _ _ _ _ _ _ => ar1 fun _ => rfl),
    g_is_name := PySem.W.mg_of X G a1,
    f_is_room := fun_mk (st := s_is_room) l2 c2 k2,
    n_is_room := (fun_mk (st := s_is_room) l2 c2 k2).binds (ps := ["thing", "many"]) (fun _ _ _ _ _ _ => ar2 fun _ _ => rfl),
    g_is_room := PySem.W.mg_of X G a2,
    f_are_names := fun_mk (st := s_are_names) l3 c3 k3,
    n_are_names := (fun_mk (st := s_are_names) l3 c3 k3).binds (ps := ["thing"]) (fun _ _ _ _ _ _ => ar1 fun _ => rfl),
    g_are_names := PySem.W.mg_of X G a3,
    f_are_rooms := fun_mk (st := s_are_rooms) l4 c4 k4,
    n_are_rooms := (fun_mk (st := s_are_rooms) l4 c4 k4).binds (ps := ["thing", "many"]) (fun _ _ _ _ _ _ => ar2 fun _ _ => rfl),
    g_are_rooms := PySem.W.mg_of X G a4,
    f_last_ones := fun_mk (st := s_last_ones) l5 c5 k5,
    n_last_ones := (fun_mk (st := s_last_ones) l5 c5 k5).binds (ps := ["things", "many"]) (fun _ _ _ _ _ _ => ar2 fun _ _ => rfl),
    g_last_ones := PySem.W.mg_of X G a5,
    f_is_formed := fun_mk (st := s_is_formed) l6 c6 k6,
    n_is_formed := (fun_mk (st := s_is_formed) l6 c6 k6).binds (ps := ["thing"]) (fun _ _ _ _ _ _ => ar1 fun _ => rfl),
    g_is_formed := PySem.W.mg_of X G a6,
    f_inner_of := fun_mk (st := s_inner_of) l7 c7 k7,
    n_inner_of := (fun_mk (st := s_inner_of) l7 c7 k7).binds (ps := ["sentence"]) (fun _ _ _ _ _ _ => ar1 fun _ => rfl),
    g_inner_of := PySem.W.mg_of X G a7,
    f_inner_ahead := fun_mk (st := s_inner_ahead) l8 c8 k8,
    n_inner_ahead := (fun_mk (st := s_inner_ahead) l8 c8 k8).binds (ps := ["sentence"]) (fun _ _ _ _ _ _ => ar1 fun _ => rfl),
    g_inner_ahead := PySem.W.mg_of X G a8,
    f_rooms_by_sets := fun_mk (st := s_rooms_by_sets) l9 c9 k9,
    n_rooms_by_sets := (fun_mk (st := s_rooms_by_sets) l9 c9 k9).binds (ps := ["world", "sentence"]) (fun _ _ _ _ _ _ => ar2 fun _ _ => rfl),
    g_rooms_by_sets := PySem.W.mg_of X G a9,
    f_turns := fun_mk (st := s_turns) l10 c10 k10,
    n_turns := (fun_mk (st := s_turns) l10 c10 k10).binds (ps := ["world", "one", "other"]) (fun _ _ _ _ _ _ => ar3 fun _ _ _ => rfl),
    g_turns := PySem.W.mg_of X G a10,
    f_refuse_others := fun_mk (st := s_refuse_others) l11 c11 k11,
    n_refuse_others := (fun_mk (st := s_refuse_others) l11 c11 k11).binds (ps := ["row"]) (fun _ _ _ _ _ _ => ar1 fun _ => rfl),
    g_refuse_others := PySem.W.mg_of X G a11,
    f_branch_kind := fun_mk (st := s_branch_kind) l12 c12 k12,
    n_branch_kind := (fun_mk (st := s_branch_kind) l12 c12 k12).binds (ps := ["word", "inner"]) (fun _ _ _ _ _ _ => ar2 fun _ _ => rfl),
    g_branch_kind := PySem.W.mg_of X G a12,
    f_World_init := fun_mk (st := s_World_init) l13 c13 k13,
    n_World_init := (fun_mk (st := s_World_init) l13 c13 k13).binds (ps := ["self", "signs", "ways", "starts", "fair"]) (fun _ _ _ _ _ _ => ar5 fun _ _ _ _ _ => rfl),
    m_World_init := ⟨a13, i13, k13⟩,
    f_World_many := fun_mk (st := s_World_many) l14 c14 k14,
    n_World_many := (fun_mk (st := s_World_many) l14 c14 k14).binds (ps := ["self"]) (fun _ _ _ _ _ _ => ar1 fun _ => rfl),
    m_World_many := ⟨a14, i14, k14⟩,
    f_World_signs_of := fun_mk (st := s_World_signs_of) l15 c15 k15,
    n_World_signs_of := (fun_mk (st := s_World_signs_of) l15 c15 k15).binds (ps := ["self", "room"]) (fun _ _ _ _ _ _ => ar2 fun _ _ => rfl),
    m_World_signs_of := ⟨a15, i15, k15⟩,
    f_World_ways_on := fun_mk (st := s_World_ways_on) l16 c16 k16,
    n_World_ways_on := (fun_mk (st := s_World_ways_on) l16 c16 k16).binds (ps := ["self", "room"]) (fun _ _ _ _ _ _ => ar2 fun _ _ => rfl),
    m_World_ways_on := ⟨a16, i16, k16⟩,
    f_World_begins := fun_mk (st := s_World_begins) l17 c17 k17,
    n_World_begins := (fun_mk (st := s_World_begins) l17 c17 k17).binds (ps := ["self"]) (fun _ _ _ _ _ _ => ar1 fun _ => rfl),
    m_World_begins := ⟨a17, i17, k17⟩,
    f_World_fair_signs := fun_mk (st := s_World_fair_signs) l18 c18 k18,
    n_World_fair_signs := (fun_mk (st := s_World_fair_signs) l18 c18 k18).binds (ps := ["self"]) (fun _ _ _ _ _ _ => ar1 fun _ => rfl),
    m_World_fair_signs := ⟨a18, i18, k18⟩,
    f_makes_world := fun_mk (st := s_makes_world) l19 c19 k19,
    n_makes_world := (fun_mk (st := s_makes_world) l19 c19 k19).binds (ps := ["signs", "ways", "starts", "fair"]) (fun _ _ _ _ _ _ => ar4 fun _ _ _ _ => rfl),
    g_makes_world := PySem.W.mg_of X G a19,
    f_are_some_rooms := fun_mk (st := s_are_some_rooms) l20 c20 k20,
    n_are_some_rooms := (fun_mk (st := s_are_some_rooms) l20 c20 k20).binds (ps := ["thing", "many"]) (fun _ _ _ _ _ _ => ar2 fun _ _ => rfl),
    g_are_some_rooms := PySem.W.mg_of X G a20,
    f__law_cell_at := fun_mk (st := s__law_cell_at) l21 c21 k21,
    n__law_cell_at := (fun_mk (st := s__law_cell_at) l21 c21 k21).binds (ps := ["_law_script", "_law_k"]) (fun _ _ _ _ _ _ => ar2 fun _ _ => rfl),
    g__law_cell_at := PySem.W.mg_of X G a21,
    f__law_stream := fun_mk (st := s__law_stream) l22 c22 k22,
    n__law_stream := (fun_mk (st := s__law_stream) l22 c22 k22).binds (ps := ["_law_cell", "_law_many"]) (fun _ _ _ _ _ _ => ar2 fun _ _ => rfl),
    g__law_stream := PySem.W.mg_of X G a22,
    f__law_names := fun_mk (st := s__law_names) l23 c23 k23,
    n__law_names := (fun_mk (st := s__law_names) l23 c23 k23).binds (ps := ["_law_cell"]) (fun _ _ _ _ _ _ => ar1 fun _ => rfl),
    g__law_names := PySem.W.mg_of X G a23,
    f__law_world := fun_mk (st := s__law_world) l24 c24 k24,
    n__law_world := (fun_mk (st := s__law_world) l24 c24 k24).binds (ps := ["_law_script"]) (fun _ _ _ _ _ _ => ar1 fun _ => rfl),
    g__law_world := PySem.W.mg_of X G a24,
    f__law_made := fun_mk (st := s__law_made) l25 c25 k25,
    n__law_made := (fun_mk (st := s__law_made) l25 c25 k25).binds (ps := ["_law_spec"]) (fun _ _ _ _ _ _ => ar1 fun _ => rfl),
    g__law_made := PySem.W.mg_of X G a25,
    f__law_next := fun_mk (st := s__law_next) l26 c26 k26,
    n__law_next := (fun_mk (st := s__law_next) l26 c26 k26).binds (ps := ["_law_xs"]) (fun _ _ _ _ _ _ => ar1 fun _ => rfl),
    g__law_next := PySem.W.mg_of X G a26,
    f__law_branch := fun_mk (st := s__law_branch) l27 c27 k27,
    n__law_branch := (fun_mk (st := s__law_branch) l27 c27 k27).binds (ps := ["_law_names_here", "_law_xs", "_law_deep"]) (fun _ _ _ _ _ _ => ar3 fun _ _ _ => rfl),
    g__law_branch := PySem.W.mg_of X G a27,
    f__law_none := fun_mk (st := s__law_none) l28 c28 k28,
    n__law_none := (fun_mk (st := s__law_none) l28 c28 k28).binds (ps := ["_law_names_here", "_law_xs"]) (fun _ _ _ _ _ _ => ar2 fun _ _ => rfl),
    g__law_none := PySem.W.mg_of X G a28,
    f__law_bad := fun_mk (st := s__law_bad) l29 c29 k29,
    n__law_bad := (fun_mk (st := s__law_bad) l29 c29 k29).binds (ps := ["_law_names_here", "_law_xs"]) (fun _ _ _ _ _ _ => ar2 fun _ _ => rfl),
    g__law_bad := PySem.W.mg_of X G a29,
    f__law_put_in := fun_mk (st := s__law_put_in) l30 c30 k30,
    n__law_put_in := (fun_mk (st := s__law_put_in) l30 c30 k30).binds (ps := ["_law_names_here", "_law_xs", "_law_thing"]) (fun _ _ _ _ _ _ => ar3 fun _ _ _ => rfl),
    g__law_put_in := PySem.W.mg_of X G a30,
    f__law_refused := fun_mk (st := s__law_refused) l31 c31 k31,
    n__law_refused := (fun_mk (st := s__law_refused) l31 c31 k31).binds (ps := ["_law_way", "_law_world_here", "_law_thing", "_law_good"]) (fun _ _ _ _ _ _ => ar4 fun _ _ _ _ => rfl),
    g__law_refused := PySem.W.mg_of X G a31,
    f_law := fun_mk (st := s_law) l32 c32 k32,
    n_law := (fun_mk (st := s_law) l32 c32 k32).binds (ps := ["_law_script"]) (fun _ _ _ _ _ _ => ar1 fun _ => rfl),
    g_law := PySem.W.mg_of X G a32,
    b_ValueError := PySem.W.mg_none_of X G v29,
    b_all := PySem.W.mg_none_of X G v105,
    b_sum := PySem.W.mg_none_of X G v106,
    b_len := PySem.W.mg_none_of X G v107,
    b_range := PySem.W.mg_none_of X G v100,
    b_isinstance := PySem.W.mg_none_of X G v30,
    b_int := PySem.W.mg_none_of X G v108,
    b_list := PySem.W.mg_none_of X G v103,
    b_tuple := PySem.W.mg_none_of X G v101,
    b_bool := PySem.W.mg_none_of X G v104,
    b_str := PySem.W.mg_none_of X G v109,
    b_set := PySem.W.mg_none_of X G v110,
    b_sorted := PySem.W.mg_none_of X G v96,
    b_enumerate := PySem.W.mg_none_of X G v51,
    c_LETTERS := ⟨_, PySem.W.mg_of X G v82, ⟨_, rfl⟩⟩,
    c_MOST_LETTERS := ⟨_, PySem.W.mg_of X G v19, ⟨_, rfl⟩⟩,
    c_MOST_WITHIN := ⟨_, PySem.W.mg_of X G v25, ⟨_, rfl⟩⟩,
    c_MOST_ROOMS := ⟨_, PySem.W.mg_of X G v31, ⟨_, rfl⟩⟩,
    c_MOST_FAIR := ⟨_, PySem.W.mg_of X G v52, ⟨_, rfl⟩⟩,
    cl_World := ⟨v86, v87, v88, v89⟩,
    g_World := PySem.W.mg_of X G v85,
    mk_World := ⟨v90, a13, i13, v91⟩,
    t1_World := v92,
    t2_World := v93,
    t3_World := v94,
    t4_World := v95,
    ic_World := (by unfold PySem.W.kitOne; rw [if_pos (beq_self_eq_true _)]),
    na_World_room_signs := v9,
    na_World_room_ways := v11,
    na_World_start_rooms := v6,
    na_World_fair_names := v10,
    g_TimeError := PySem.W.mg_of X G v27,
    x_TimeError := v35,
    g_BadWorld := PySem.W.mg_of X G v49,
    x_BadWorld := v63,
    g_BadSentence := PySem.W.mg_of X G v18,
    x_BadSentence := v20,
    g_BadMachine := PySem.W.mg_of X G v24,
    x_BadMachine := v26,
    g_TooMany := PySem.W.mg_of X G v70,
    x_TooMany := v77,
    g_NoBranch := PySem.W.mg_of X G v50,
    x_NoBranch := v64,
    g_OtherFair := PySem.W.mg_of X G v28,
    x_OtherFair := v36,
    g_NoAhead := PySem.W.mg_of X G v71,
    x_NoAhead := v78,
    g_NoText := PySem.W.mg_of X G v80,
    x_NoText := v83,
    g_NoLine := PySem.W.mg_of X G v81,
    x_NoLine := v84,
    g_NoWorld := PySem.W.mg_of X G v72,
    x_NoWorld := v79,
    k_BadWorld := ⟨v37, v38, v39, v40, v41, xgt, xtk, v42⟩,
    k_BadSentence := ⟨v12, v13, v14, v15, v16, xgt, xtk, v17⟩,
    k_NoBranch := ⟨v43, v44, v45, v46, v47, xgt, xtk, v48⟩,
    nk_signs := v97,
    nk_Next := v102,
    nk_maybe := v98,
    ex_NoBranch := v65,
    ex_BadSentence := v21,
    sb_NoBranch := v66,
    ne_BS_NB := v99,
    nk_BadSentence_NoBranch := v0,
    nk_NoBranch_BadSentence := v1,
    nk_NoBranch_BadWorld := v5,
    nk_NoBranch_NoAhead := v7,
    nk_NoBranch_TooMany := v8,
    nk_BadSentence_BadWorld := v2,
    nk_BadSentence_NoAhead := v3,
    nk_BadSentence_TooMany := v4,
    n5_NoBranch := v67,
    i1_NoBranch := v68,
    i3_NoBranch := v69,
    i1_BadSentence := v22,
    i3_BadSentence := v23 }
  refine ⟨_, ?_, fun base _ _ => ok_law T rfl⟩
  exact fun s v => .of_eq rfl
theorem walk {l : PySem.W.OpenLaw} {q : Program} {loose : List Str} {XP : (Str → Option Value) → Heap → Prop} {YP : World → Heap → Prop} {d : DefRec} {K : Params → PySem.W.Frag} (hn : l.most = some 63) (hdf : d.params.defaults = [])
    (hY : ∀ (w : World) (h : Heap), YP w h → (K w.params).In h)
    (F : ∀ (w : World) (mg : Str → Option Value) (fa : Addr) (h : Heap), (K w.params).In h → h.Ns mainGlobals mg → mg d.name = some (.ref fa) →
      ∃ fd : FuncData, (∀ (s : Shared) (u : Value), BindsTo s fd ⟨[u], []⟩ [("_law_script", u)]) ∧ ∀ base : Heap, (K w.params).In base → base.Ns mainGlobals mg → FnOk l.prog w (K w.params) mg base CX0 9 fa fd ["_law_script"] (spL (K w.params))) :
    PySem.W.WalkO q loose XP YP l.row.toRowW d [] (fun f vs => PySem.call f vs) :=
  L2.walk_of (n := 63) (k := 9) (x := "_law_script") (CX := fun _ => CX0) (sp := fun w => spL (K w.params)) hn (by decide) hdf ⟨rfl, by decide, by decide⟩ hY F (fun _ _ a ns hl _ hS => ⟨a, ns, rfl, hS, hl, fun _ => rfl⟩) fun _ _ _ _ _ z => z
end KK
open PySem PySem.W PyProof.Rows
namespace PySem.W.Fast
def tw16042170378583559216:=0
def tw3813237690208371204:=0
def tw9847072427458817361:=0
def tw17812052230587475866:=0
def tw15943292742979154494:=0
def tw2304888071299748521:=0
def tw5040037015947844169:=0
def tw15191310470257898937:=0
def tw12847567550455967389:=0
def tw383857475799934269:=0
def tw340095116037357670:=0
def tw13372928225926670284:=0
def tw8969403620234100841:=0
def tw6416338058083081029:=0
def tw8297154850365646624:=0
def tw13381748506465283879:=0
def tw8244489578668737032:=0
def tw4667868491569430306:=0
def tw2612612323929846773:=0
def tw1751919117269534809:=0
def tw3099556160875054012:=0
def tw12547875069090764278:=0
def tw5160780256174954211:=0
def tw12168473089909431624:=0
def tw2538881347529073268:=0
def tw9346743214110102661:=0
def tw17160813811358126462:=0
def tw9020487162328108713:=0
def tw17103814950193988519:=0
def tw16448418575690338704:=0
def tw8657173339447563245:=0
def tw13436702698016555741:=0
def tw4479763665057850721:=0
def tw6854721316276572300:=0
def tw14631520059192598286:=0
def tw7804718815688297618:=0
def tw7471416561408494109:=0
def tw9969034123833413815:=0
def tw1807512617417510386:=0
def tw4558720926473182115:=0
def tw7658820568872619551:=0
def tw6123630877381099062:=0
def tw1734187882298666584:=0
def tw517683146992662632:=0
def tw9949756345215003869:=0
def tw6883352807292253342:=0
def tw9108376200239822249:=0
def tw14962654917912356844:=0
def tw4815873312600378448:=0
def tw104095893665300492:=0
def tw1160030222066766824:=0
def tw1378505277106421442:=0
def tw10688699445960049413:=0
def tw4064840822720220005:=0
def tw3710218978100942454:=0
def tw10421132277036795141:=0
def tw4361558785361165233:=0
def tw1960801939210924389:=0
def tw16164985535257318210:=0
def tw5294858494170319006:=0
def tw9204212985773444967:=0
def tw2917982345703719358:=0
def tw7033378904533922974:=0
def tw2280234527047048613:=0
def tw7445737459184500377:=0
def tw7756015850322936744:=0
def tw318785060782041861:=0
def tw12157981039178188689:=0
def tw4337436401575209292:=0
def tw11161101128642980004:=0
end PySem.W.Fast
set_option maxRecDepth 100000 in
set_option maxHeartbeats 0 in
theorem PySem.Challenge.cw_timecourt_k63_no_branches_holds : PySem.Challenge.rw_timecourt_k63_no_branches.Holds := by
  w_on; o_law; k_head; (case hw => w_witness2)
  k_fill
  refine KK.walk (l := PySem.Challenge.rw_timecourt_k63_no_branches) rfl rfl (fun w h Y => PySem.W.kIn_of Y) ?F
  case F =>
    intro w mg fa h KX G hmg
    have hmg2 : mg "law" = some (.ref fa) := hmg
    clear hmg
    refine' KK.all_mk KX G hmg2 ?v85 ?v27 ?v49 ?v18 ?v24 ?v70 ?v50 ?v28 ?v71 ?v80 ?v81 ?v72 ?a0 ?l0 ?c0 ?k0 ?a1 ?l1 ?c1 ?k1 ?a2 ?l2 ?c2 ?k2 ?a3 ?l3 ?c3 ?k3 ?a4 ?l4 ?c4 ?k4 ?a5 ?l5 ?c5 ?k5 ?a6 ?l6 ?c6 ?k6 ?a7 ?l7 ?c7 ?k7 ?a8 ?l8 ?c8 ?k8 ?a9 ?l9 ?c9 ?k9 ?a10 ?l10 ?c10 ?k10 ?a11 ?l11 ?c11 ?k11 ?a12 ?l12 ?c12 ?k12 ?a13 ?i13 ?l13 ?c13 ?k13 ?a14 ?i14 ?l14 ?c14 ?k14 ?a15 ?i15 ?l15 ?c15 ?k15 ?a16 ?i16 ?l16 ?c16 ?k16 ?a17 ?i17 ?l17 ?c17 ?k17 ?a18 ?i18 ?l18 ?c18 ?k18 ?a19 ?l19 ?c19 ?k19 ?a20 ?l20 ?c20 ?k20 ?a21 ?l21 ?c21 ?k21 ?a22 ?l22 ?c22 ?k22 ?a23 ?l23 ?c23 ?k23 ?a24 ?l24 ?c24 ?k24 ?a25 ?l25 ?c25 ?k25 ?a26 ?l26 ?c26 ?k26 ?a27 ?l27 ?c27 ?k27 ?a28 ?l28 ?c28 ?k28 ?a29 ?l29 ?c29 ?k29 ?a30 ?l30 ?c30 ?k30 ?a31 ?l31 ?c31 ?k31 ?a32 ?l32 ?c32 ?k32 ?v86 ?v87 ?v88 ?v89 ?v90 ?v91 ?v92 ?v93 ?v94 ?v95 ?v9 ?v11 ?v6 ?v10 ?v29 ?v105 ?v106 ?v107 ?v100 ?v30 ?v108 ?v103 ?v101 ?v104 ?v109 ?v110 ?v96 ?v51 ?v82 ?v19 ?v25 ?v31 ?v52 ?v73 ?v74 ?v75 ?v53 ?v54 ?v55 ?v56 ?v57 ?v58 ?v59 ?v60 ?v61 ?v62 ?v32 ?v76 ?v33 ?v34 ?v35 ?v63 ?v20 ?v26 ?v77 ?v64 ?v36 ?v78 ?v83 ?v84 ?v79 ?xgt ?xtk ?v37 ?v38 ?v39 ?v40 ?v41 ?v42 ?v12 ?v13 ?v14 ?v15 ?v16 ?v17 ?v43 ?v44 ?v45 ?v46 ?v47 ?v48 ?v97 ?v102 ?v98 ?v65 ?v21 ?v66 ?v99 ?v0 ?v1 ?v5 ?v7 ?v8 ?v2 ?v3 ?v4 ?v67 ?v68 ?v69 ?v22 ?v23
    (case v85 | v27 | v49 | v18 | v24 | v70 | v50 | v28 | v71 | v80 | v81 | v72 | a0 | l0 | c0 | k0 | a1 | l1 | c1 | k1 | a2 | l2 | c2 | k2 | a3 | l3 | c3 | k3 | a4 | l4 | c4 | k4 | a5 | l5 | c5 | k5 | a6 | l6 | c6 | k6 => k_is)
    (case a7 | l7 | c7 | k7 | a8 | l8 | c8 | k8 | a9 | l9 | c9 | k9 | a10 | l10 | c10 | k10 | a11 | l11 | c11 | k11 | a12 | l12 | c12 | k12 | a13 | i13 | l13 | c13 | k13 | a14 | i14 | l14 | c14 | k14 | a15 | i15 | l15 | c15 | k15 | a16 => k_is)
    (case i16 | l16 | c16 | k16 | a17 | i17 | l17 | c17 | k17 | a18 | i18 | l18 | c18 | k18 | a19 | l19 | c19 | k19 | a20 | l20 | c20 | k20 | a21 | l21 | c21 | k21 | a22 | l22 | c22 | k22 | a23 | l23 | c23 | k23 | a24 | l24 | c24 | k24 | a25 | l25 => k_is)
    (case c25 | k25 | a26 | l26 | c26 | k26 | a27 | l27 | c27 | k27 | a28 | l28 | c28 | k28 | a29 | l29 | c29 | k29 | a30 | l30 | c30 | k30 | a31 | l31 | c31 | k31 | a32 | l32 | c32 | k32 | v86 | v87 | v88 | v89 | v90 | v91 | v92 | v93 | v94 | v95 => k_is)
    (case v9 | v11 | v6 | v10 | v29 | v105 | v106 | v107 | v100 | v30 | v108 | v103 | v101 | v104 | v109 | v110 | v96 | v51 | v82 | v19 | v25 | v31 | v52 | v73 | v74 => k_is)
    (case v75 => exact ⟨⟨_, _, rfl, rfl⟩, ⟨_, _, rfl, rfl⟩, ⟨_, _, rfl, rfl⟩, ⟨_, _, rfl, rfl⟩, ⟨_, _, rfl, rfl⟩, ⟨_, _, rfl, rfl⟩, ⟨_, _, rfl, rfl⟩, ⟨_, _, rfl, rfl⟩, ⟨_, _, rfl, rfl⟩, ⟨_, _, rfl, rfl⟩, ⟨_, _, rfl, rfl⟩, trivial⟩)
    (case v53 | v54 | v55 | v56 | v57 | v58 | v59 | v60 | v61 | v62 | v32 => k_is)
    (case v76 => rfl)
    (case v33 | v34 => k_is)
    (case v35 | v63 | v20 | v26 | v77 | v64 | v36 | v78 | v83 | v84 | v79 => k_exc)
    (case xgt | xtk | v37 | v38 | v39 | v40 | v41 | v42 | v12 | v13 | v14 | v15 | v16 | v17 | v43 | v44 | v45 | v46 | v47 | v48 | v97 | v102 | v98 => k_is)
    (case v65 | v21 => kts_exm)
    (case v66 => k_is)
    (case v99 => rfl)
    (case v0 | v1 | v5 | v7 | v8 | v2 | v3 | v4 | v67 | v68 | v69 | v22 | v23 => kit_is)

